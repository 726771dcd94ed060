import PyProof.Rows.All
import Wide.All
import OpenK.AllK
import Wide.FinOn
import Lean
import PyProof.EqAt
import PyProof.EqKinds
import PyProof.TupleCall
import PyProof.ZipIter
import PyProof.DictIter
import PyProof.DictWalks
import PyProof.CollectWalk
import PyProof.Rows.SetFrom
import PyProof.FactsAll.set_1
import PyProof.Rows.SortStr
import PyProof.DictItems
import KE.KDictList
import PyProof.AttrMissHeap
import PyProof.DictList
import KE.KDictOf
import PyProof.MeetsStr
import PyProof.StrOps2
import PyProof.EnumMake
import PyProof.Rows.EnumRows
import PyProof.SetKind
import PyProof.TupleKey
import PyProof.FactsAll.set_2
import PyProof.FactsAll.dict_3
import PyProof.FactsAll.tuple_2
import PyProof.FactsAll.tuple_3
import PySem.Challenge.RW_beatwright_k45_orders_that_are_let_by
set_option Elab.async false
set_option linter.all false
set_option maxRecDepth 100000
theorem An {g:Prop}(h:∀G:Prop,(g->G)->G):g:=h g id
set_option compiler.extract_closed false
set_option bootstrap.genMatcherCode false
noncomputable section
open List.Perm (of_eq)
local macro_rules | `(tactic| ext)=>`(tactic| first | lia | omega)
local macro_rules | `(tactic| nofun)=>`(tactic| decide +kernel)
open PySem renaming wpAny_bind->Aa,wpAny_pure->Ad,Value->Ah,sizeLine->Am,Shared->Aq,wpAny->Ar,starEach->Au,Addr->Av,model->Az,Spec->AA,wpAny_setState_of->A3,foldedSetIterable->Ba,compareOp->Bb,scanBound->Be,Program->Bp,binaryOp->Bu,strKind->By,wpAny_newObj_type->BC,wpAny_mono->BG,World->BK,wpAny_call_entry->BL,wpAny_holding->BQ,mainGlobals->BS,wpAny_of_eq->BY,boot_len->BZ,Expr->B8,backTo->Cb,wpAny_Call_Name_kw->Cm,Around->Cu,attributeBase->CD,wpAny_setField->CF,Heap->CH,assignEach->CQ,SetTable->C6,wpAny_askSetting->Dd,swapsWith->De,codeAny_builtin->Dy,wpAny_storeSet_of->Dz,keywordEach->DC,Stmt->DE,FuncData->DG,codeAny->DP,wpAny_callSpecial?_slot->DR,cLine->DV,Paired->DX,Builtin->D7,wpAny_passesOwn->Ea,bindArgs->Eb,wpAny_truthy_bool->Er,mem_of_lookup->Et,bootBuiltins->EJ,Keyword->E2,sysModules->E5,wpAny_typeOf->Fi,hashStr->Fm,backToKw->Fo,NameKind->Fs,builtinLookup_eq_fast->FA,wpAny_rule->FD,plainId_quiet->FU,behindInMarks->FW,wpAny_field->F1,sliceBounds->F2,holding->GD,codeAny_mono->GF,DictEntry->GQ,wpAny_seqItems->GW,tupleKind_room_in1->GX,wpAny_pyIter_list->Hr,sizeLine_eq->Hs,wpAny_comprehension_free->Hw,wpAny_isInstance->HP,relayAll->HQ,pickOrder->HS,setsByText->Im,setAddHashed->Io,pyNext->Ip,call_meets->Iq,wpAny_execs_nil->ID,typeLookup_type->IE,letOwnedTupleGo->IF,merged->Jg,entryFor_alias->Jl,getMethod->Jv,getItem->Jw,callerA->Jx,rawInt->JX,call->JY,Params->J0,valueAt->Kw,sub_set_self->Kx,entryFor->KI,Scope->KO,wpAny_eqBool_int->Li,tupleKind->Lj,setDiscardHashed->Lk,assign->Lm,Builtin->Lp,IsPart->Lq,subscripted->LI,IsRangeIter->LV,importedModules->L5,Within->L6,unaryOp->Mt,standAt->Mu,notedBy->Mv,BindsTo->MG,typeLookup->MQ,typeIs_str->MR,newFunctionEnv->MV,compEnvC->MY,again->Nb,PlainAttrs->Nf,Operator->Ng,setWalkUnseen->Ox,call->Oz,bindL->O6,bindC->O7,atKey->O8,PassesOwn->Pc,wpAny_pyNext_range_end->Pu,wpAny_pyNext_list_item->Pw,wpAny_pyIter_rangeiter->Px,wpAny_Call_method_late->Py,setFind->PB,newList->PD,isTrue->PH,wpAny_pyNext_list_end->QI,wpAny_notOrdered_dict->QJ,rule->Rl,lookup_relabel_local->Rm,callWith->Rn,wpAny_binaryOp_same->Se,wpAny_pyIter_range->Tg,wpAny_call->Th,wpAny_Name->Ti,typeOf->Tj,setEntries->Tk,pyIter->Tl,getattributeRaised->Tn,builtinsNs->To,Result->Tq,stored->Tr,wpAny_pyIter_slot->UP,wpAny_pyIter_enum->UQ,wpAny_assign_Name->UR,table->US,spliced->UT,slot_list_getitem->UU,setNext->UV,OsState->Va,wpAny_setScan_of->VU,wpAny_pyIter_zip->VW,wpAny_getItem_of->VX,wpAny_execs_cons->VY,treeTable->VZ,seqIndex?->V0,entryFor_of_tree->V1,cellsFrom->V2,wpAny_updateSeq->YN,wpAny_specialOf->YO,codeAny_of_tree->YQ,wpAny_runValue->bN,wpAny_fieldsOf->bO,setEpoch->bR,retInt->bS,recursionLimit->bT,raiseNew->bU,newExc->bV,isSubtype_type->bX,firstArgMember->bY,dictSetDefault->cA,argsOk->cC,Slot->cD,GenState->cF
open List renaming length_map->Ab,getElem?_eq_getElem->Af,getElem?_eq_some_iff->Ai,mem_map->Ao,length_append->As,replicate->Ay,eq_nil_of_length_eq_zero->AD,mem_of_getElem?->AE,mem_cons_of_mem->AF,mem_cons_self->AG,getElem?_map->AJ,length_cons->AK,map_append->AM,mem_singleton->AO,not_mem_nil->AR,mem_append_right->AS,map_cons->AT,size_toArray->AU,mem_filter->AX,mem_append->AY,length_take->A6,mem_cons->Bc,range->Bk,length_replicate->Bn,append_assoc->Bq,lookup_cons->Bs,getElem?_eq_none->Bv,mem_iff_getElem?->Bw,mem_cons->BA,take_length->BD,take_add_one->BE,lookup->BH,map_map->BI,set_cons_succ->BR,take_of_length_le->BW,length_range->BX,nodup_append->B7,mem_range->Ca,getElem?_append_right->Cg,getD_eq_getElem?_getD->Ch,set_cons_zero->Ci,all_eq_true->Ck,find?_cons->CG,mem_append_left->CK,mem_filterMap->CL,length_filter_le->CP,append_nil->CT,pairwise_map->CW,replicate_succ->CY,getElem?_append_left->CZ,filterMap_cons->C0,length_singleton->Dg,pairwise_mergeSort->Di,mem_append->Dj,mem_of_find?_eq_some->DA,map_nil->DB,any_eq_true->DH,foldl_cons->DI,mergeSort_perm->DS,getElem?_toArray->DU,nodup_append->D4,length->Ej,range_succ_eq_map->Es,getElem?_eq_none_iff->Eu,nodup_cons->Ez,map_congr_left->EA,length_nil->EB,getElem?_range->EC,cons_append->ED,eq_of_mem_replicate->EH,nodup_cons->EM,mem_singleton->EX,filter_append->EY,map->E1,Nodup->Fh,mem_map_of_mem->Fj,ext_getElem?->Fn,any_cons->Fp,nil_append->FE,mem_filter->FF,idxOf_lt_length_of_mem->FY,getElem_mem->F5,all_cons->F6,length_eraseIdx_of_lt->Gd,find?_eq_none->Gf,mem_of_mem_take->Gm,findIdx?_eq_none_iff->Gv,drop_eq_getElem_cons->Gw,reverse_cons->Gz,forIn_cons->G0,getElem?_cons_zero->G8,getElem?_cons_succ->G9,length_drop->Ht,take_append_drop->HH,nodup_nil->HU,replicate_zero->IH,filterMap_map->Jc,getElem_map->Ji,getElem_inj->Jj,filter_cons->Jk,take_succ_eq_append_getElem->Jz,take_sublist->JA,foldl_append->JB,eraseIdxIfInBounds_toArray->JK,drop_length->JS,map_take->KG,perm_ext_iff_of_nodup->K9,drop_zero->Ll,length_filterMap_le->LR,length_erase_of_mem->LS,findIdx?->LU,reverse_replicate->Mz,length_pos_of_mem->MA,length_eq_one_iff->MC,getElem?_set_self->MD,of_mem_zip->MU,filter_nil->MX,filterMap_append->Nh,erase_of_not_mem->Ni,contains_iff_mem->Nj,cons_lt_cons_iff->Nk,reverse_reverse->N3,replicate_succ'->N4,range'->N5,mem_iff_getElem->N6,mem_erase_of_ne->N7,getElem?_set_ne->N8,length_reverse->OF,length_pos_iff->OG,flatMap_append->OH,dropWhile_cons->OI,take_zero->O1,forIn_nil->O3,pairwise_cons->Pe,mem_replicate->Pf,map_filterMap->Pg,getElem_idxOf->Ph,getElem?_cons->Pj,all_map->PJ,getElem?_set->PM,any_eq_false->PN,mem_reverse->QQ,mem_flatten->QR,mem_flatMap->QS,map_reverse->QU,range_succ->Ru,length_zip->Rv,map_id'->Vc
open PySem.W renaming Frag->Ac,emptyDict->Cn,findIn->C4,instObj->Dc,boot_heap->Ei,fnOf->Fx,keepIn->FI,plainGet->GG,lookIn->Hx,hasDictIn->IK,takerIn->JI,codeIn->JZ,isFn->Ln,cellsFrom_some->Lo,plainGet_of->LK,methodCall_KW->LN,callWith_K->MZ,boot_drawn->Na,plainOver->NV,methodObj->NW,handedIn->OB,boot_toks->O4,makesIn->Pa,OpenLaw->Pb,WalkO->QM,Frag->Tw,SharedT->U9,findIn->bZ
open PySem.Heap renaming get?_push_of_some->Ag,lt_size->Ap,get?_push_size->Ax,get?_update_other->A9,SameBut->Bx,get?_update_self->Db,size_push->Gg,ExtBut->Wp
open Bool renaming false_ne_true->Aj,and_eq_true->Bo,eq_iff_iff->D3,and_false->E3,false_eq_true->FV,false_and->Gh,or_eq_true->GY,true_and->IQ,and_self->IS,or_false->LW,not_true->LX,not_eq_eq_eq_not->Nn,beq_eq_decide_eq->No,and_eq_true_iff->Oa,eq_false_iff->PQ,noConfusion->QV,decide_and->RB,false_or->Tz,and_true->TB,or_true->Vf
open PySem.Str renaming ofString->Al
open PySem.Builtin renaming bitAnd->AB,bitOr->AI,bitXor->Bd,bitNot->D5
open PySem.Value renaming ref->AC,str->DD,isStrOf->DZ,int->D0,type->Ec,none->Ed,bool->KJ,isInt->U0,float->U5,bytes->U8
open Nat renaming le_refl->AH,ne_of_lt->A5,le_trans->A7,lt_of_lt_of_le->Bm,lt_of_succ_lt_succ->Dk,zero_le->DO,lt_succ_of_lt->Eh,zero_add->Ey,lt_irrefl->EI,ne_of_gt->EW,lt_of_le_of_lt->Fk,le_of_lt->Fl,min_eq_left->F4,min_eq_right->GA,lt_succ_self->GB,le_add_right->GC,lt_or_ge->GZ,succ_lt_succ->Hf,add_sub_cancel_left->Hg,add_le_add_left->IM,le_succ->Ju,lt_trichotomy->JJ,sub_self->Ky,min_self->KD,reduceAdd->L7,succ_pos->MS,sub_zero->MT,le_of_ble_eq_true->NZ,mod_lt->PF,add_right_comm->PL,succ_ne_self->Rr,reduceLeDiff->Rs,reduceEqDiff->Rt,not_lt_zero->Sk,mul_add->UX,reduceSub->Vb,le_of_eq->We,and_comm->Wf,div_one->Zc,not_lt->cE
open PySem.Challenge renaming pw_beatwright_k45_orders_that_are_let_by->AL,rw_beatwright_k45_orders_that_are_let_by->Ct,pw_beatwright_k45_orders_that_are_let_by->Ts
open PySem.F renaming plainAttrs_list->AN,type_list_append->Bf,slot_list_append->Bg,type_list_extend->Cp,slot_list_extend->Cq,slot_dict_setdefault->Fq,args_dict_setdefault_3->Jm,entry_dict_setdefault->Jy,slot_tuple_index->KP,type_list_index->K5,slot_list_index->K6,type_list_pop->LO,slot_list_pop->LP
open PySem.PassesOwn renaming never->AQ
open Array renaming getElem?_eq_getElem->AW,length_toList->Bt,getElem?_toList->C3,getElem?_eq_none->DN,getElem?_eq_some_iff->Ee,mem_toList_iff->Fu,getD_eq_getD_getElem?->FK,toList_setIfInBounds->F9,toList_replicate->Hi,toArray_toList->H0,size_extract->Il,eq_empty_of_size_eq_zero->JM,forIn_toList->KH,size->KR,size_append->LJ,toList_extract->Np,getElem_toList->Nq,toList_append->Ob,toList_push->Pm,size_map->RC,toList->TC
open PySem.Heap.SameBut renaming update->AZ,refl->CI
open Option.some renaming inj->A8,injEq->HX
open Ne renaming symm->Bj
open Int renaming toNat_natCast->Br,emod_lt_of_pos->BM,emod_nonneg->Cc,pow_succ->F3,fdiv_eq_ediv_of_nonneg->Lr,le_of_lt->Nl,pow_pos->PC,ediv_nonneg->Sm,mul_nonneg->Tu,one_mul->UW,mul_assoc->Vd,zero_add->Wi,reduceEq->Wj,pow_zero->Wl,ofNat_le->Wm,mul_comm->Wn,ediv_one->Wo,mul_one->Ze,le_refl->Zf
open PyProof.Rows renaming callWith_type1->Bz,boot_tuple->EE,slot_tuple_getitem->EG,callWith_builtin1->EO,envOfC->FG,bitOr_and->FH,boot_list->GO,bitAnd_pp->HV,AllBare->Iu,sortedS->Kz,StrsAre->KL,subscriptTail->Ow,boot_dict->O5,subscriptTail_builtinR->Pz,IntsAre->PP,boot_sorted->Ro,Subscript_->Tp,call_int_bit_length->Za,bitAnd_zero->Zb,tail_any->bP,slicePart_none->bQ
open PySem.Builtin.Frozenset renaming unchanged->BN,updateFrom->Hz,isAnySet->HZ,sizeOf->Ir,baseOf->Is,symmetricDifferenceUpdate->Rw,newFrom->Rx,newClass->Ry,merge->Rz,intersection->RA
open PySem.NameKind renaming free->B4,cell->HY
open Or renaming inl->Cd,inr->FX
open PySem.Builtin.SmallTypes renaming nextOf->Ce
open PySem.Around renaming under_plainId->CN,under->LY
open List.Perm renaming refl->C1,eq_of_pairwise->G1,swap->OJ
open PySem.SetTable renaming below->C2,grown->Ds,eraseAt->Dt,fits->DL,sizeAbove->Ew,fill->HW,insertAt->IG,laid->Kk,layClean->Nc,roomFor->NU,relaid->Oy,fresh->O9
open False renaming elim->C7
open ForInStep renaming yield->C9
open True renaming intro->Dr
open PySem.Paired renaming length->DW,snoc->Tt
open PySem.Builtin.Slice renaming slicePlaces->D1,sliceAdjust->Ft,sliceApplied->IP,slicePartIndex->Ws,sliceFields->Wt
open PySem.Builtin.Int renaming intBits->D6
open PySem.Builtin.Range renaming rangeSize->Ek,rangeFitsLong->II,small->Kl
open PySem.SeqAt renaming EqAt->EK,in_tupleAt->PK,in_listAt->QK
open Option renaming join_eq_some_iff->EL,map_eq_some_iff->EV,map->G7,map_some->Jh,isSome_iff_exists->K8,map_eq_none_iff->LQ,isSome_map->MW,isSome_some->NX,join_some->O2,getD_none->Pd
open PySem.Builtin.List renaming listExtendWith->E8,listTooLong->JC,listSameRef->JD,listTouch->Zg,listLengthHint->Zh
open Sum.inr renaming inj->Fc
open Classical renaming byContradiction->FJ
open Sum renaming inr->F7,inl->JH
open PUnit renaming unit->F8
open PySem.Obj renaming data_mapFields->Gn,mapSeq->Hy,isFreed_of_fields->NY,data_mapDictKeys->OD,cls_mapFields->QP
open List.Pairwise renaming sublist->Go,filter->J3,nil->Wg,imp_of_mem->Wh
open Nat.succ renaming inj->GP
open PySem.Calls renaming callWith_builtin->Hh,spliced_cons->IN,spliced_nil->Jn,Name_function_global->KQ,evalArgs_plain->Nm
open PySem.SeqAt.EqAt renaming of_refs->HG,str_int->LL,int_str->LM,same->Nd
open PySem.Data renaming set->Ig,fields->N9
open PySem.W.OpenLaw renaming wellSaid->IL,wellSaid->OC
open PySem.Builtin.Dict renaming updateFrom->JL,selfAndRest->Zi,pairItems->Zj,keyAndDefault->Zk,addKeywords->Zl
open PySem.Manifest renaming sig_set_iterator->J2,owners->OE
open PySem.pickOrder renaming go->KC
open PySem.SetTable.below renaming go->KN
open PySem.AutoSeq1 renaming wpAny_loadPart'->L4
open PySem.Heap.DictOf renaming new->ME
open PySem.Code renaming isFrame->MF,frames->Wq
open List.cons renaming inj->Pk
open Prod.mk renaming injEq->QN,inj->Si
open String renaming ofList->Rp
open PySem.Shared renaming TypeIs->Rq
open Std.Legacy.Range renaming size->Sf,forIn_eq_forIn_range'->Sg
open Prod renaming snd->Sh,ext->Sj
open PySem.IsRange renaming new->Sl
open PySem.Walks renaming range->UY,list->V3
open PySem.W.WShape renaming has->UZ
open PySem.Heap.IsSliceOf renaming new->Ve
open PySem.W.Looks renaming here->V4
open PySem.EqMixed renaming ne_str_int->V5,ne_str_bool->V6,ne_int_str->V7,ne_bool_str->V8,eq_str_int->V9,eq_str_bool->Wa,eq_int_str->Wb,eq_bool_str->Wc
open PySem.Builtin.Tuple renaming tupleItemsOf->Wr
open PySem.W.WData renaming int->YR
open PySem.SeqAt.RcNeAt renaming tuples->YS,lists_lengths->YT,lists->YU
open PySem.Within renaming cons->YV
open PySem.EqNone renaming ne_str_none->YW,ne_none_str->YX,ne_none_none->YY,ne_none_int->YZ,ne_none_bool->Y0,ne_int_none->Y1,ne_bool_none->Y2,eq_str_none->Y3,eq_none_str->Y4,eq_none_none->Y5,eq_none_int->Y6,eq_none_bool->Y7,eq_int_none->Y8,eq_bool_none->Y9
open List.Sublist renaming refl->Zd
open PySem.Builtin.Str renaming tooLong->cG
set_option hygiene false
local macro_rules|`(tactic| symm)=>`(tactic| (refine An λG' kk'=>?_))
local macro_rules|`(tactic| cutsat)=>`(tactic| (refine kk' ?_;clear kk'))
local macro_rules|`(tactic| obtain $p:rcasesPatMed : _ := $e)=>`(tactic| (symm;obtain $p:rcasesPatMed := $e;cutsat;(try subst e1');(try subst e2');(try subst e3');(try subst e4')))
local macro_rules|`(tactic| ext1 $p)=>`(tactic| (intro hI';symm;revert hI';rintro $p;cutsat;(try subst e1');(try subst e2');(try subst e3');(try subst e4')))
set_option hygiene true
namespace L2
open PySem PySem.Spec PyProof.Rows
abbrev Co:=Sum Int Str
noncomputable def Kg:Co->Ah->Bool
 |.inl k,v=>U0 k v
 |.inr x,v=>DZ x v
noncomputable def fU (w:BK):Co->Int
 |.inl k=>hashInt k
 |.inr x=>Fm w x
theorem Rh:∀{k:Co}{v:Ah},Kg k v=true->(∃i t,k=JH i/\v=D0 i t)\/(∃x t,k=F7 x/\v=DD x t)
 |.inl i,v,h=>by
  obtain⟨t,e⟩:=Value.isInt_shape h;exact .inl ⟨i,t,rfl,e⟩
 |.inr x,v,h=>by
  obtain⟨t,e⟩:=Value.isStrOf_shape h;exact .inr ⟨x,t,rfl,e⟩
theorem uv (i:Int)(t:Tok):Kg (.inl i) (.int i t)=true:=by simp[Kg,U0]
theorem uw (x:Str)(t:Tok):Kg (.inr x) (.str x t)=true:=by simp[Kg,DZ]
theorem cw (a b:Int):decide ((JH a:Co)=JH b)=(a == b):=by
 by_cases e:a=b
 .subst e;simp
 .have h:¬(JH a:Co)=JH b:=λq=>e (Sum.inl.inj q);rw[decide_eq_false h];exact(beq_eq_false_iff_ne.mpr e).symm
theorem cz (a b:Str):decide ((F7 a:Co)=F7 b)=decide (a=b):=by
 by_cases e:a=b
 .subst e;simp
 .have h:¬(F7 a:Co)=F7 b:=λq=>e (Fc q);rw[decide_eq_false h,decide_eq_false e]
theorem cx (a:Int)(b:Str):decide ((JH a:Co)=F7 b)=false:=decide_eq_false (λq=>nomatch q)
theorem cy (a:Str)(b:Int):decide ((F7 a:Co)=JH b)=false:=decide_eq_false (λq=>nomatch q)
noncomputable def BO (prog:Bp)(w:BK):PySem.KeyKind prog w Co where
 is:=Kg
 hash:=fU w
 inj:=λv a b ha hb=>by
  rcases Rh ha with⟨i,t,rfl,rfl⟩|⟨x,t,rfl,rfl⟩
  .rcases Rh hb with⟨j,u,rfl,e⟩|⟨y,u,rfl,e⟩
   .injection e with e1 _;rw[e1]
   .exact nomatch e
  .rcases Rh hb with⟨j,u,rfl,e⟩|⟨y,u,rfl,e⟩
   .exact nomatch e
   .injection e with e1 _;rw[e1]
 byValue:=λk v h=>by
  rcases Rh h with⟨i,t,rfl,rfl⟩|⟨x,t,rfl,rfl⟩<;>rfl
 pyHash:=λhv h=>by
  rcases Rh hv with⟨i,t,rfl,rfl⟩|⟨x,t,rfl,rfl⟩
  .exact wpAny_pyHash_int h
  .exact wpAny_pyHash_str h
 eqBool:=λhu hv h=>by
  rcases Rh hu with⟨i,t,rfl,rfl⟩|⟨x,t,rfl,rfl⟩
  .rcases Rh hv with⟨j,u,rfl,rfl⟩|⟨y,u,rfl,rfl⟩
   .rw[cw]at h;exact Li h
   .rw[cx]at h;exact LM i t y u _ _ _ _ h
  .rcases Rh hv with⟨j,u,rfl,rfl⟩|⟨y,u,rfl,rfl⟩
   .rw[cy]at h;exact LL x t j u _ _ _ _ h
   .rw[cz]at h;exact wpAny_eqBool_str h
 «strs»:=λk x t v h=>by
  rcases Rh h with⟨i,u,rfl,e⟩|⟨y,u,rfl,e⟩
  .exact nomatch e
  .injection e with e1 _
   subst e1;cases v<;>rfl
theorem yc (prog:Bp)(w:BK)(k:Co)(v:Ah):(BO prog w).is k v=Kg k v:=rfl
theorem zc (prog:Bp)(w:BK)(i:Int)(t:Tok):(BO prog w).is (.inl i) (.int i t)=true:=uv i t
theorem zd (prog:Bp)(w:BK)(x:Str)(t:Tok):(BO prog w).is (.inr x) (.str x t)=true:=uw x t
inductive V where
 |non | bl (b:Bool) | int (i:Int) | str (x:Str) | byt (b:Array UInt8) | flt (b:UInt64) | ref (a:Av) | ty (n:String)
 deriving DecidableEq
def RelV:V->Ah->Prop
 |.non,u=>u=Ed
 |.bl b,u=>u=KJ b
 |.int i,u=>∃t,u=D0 i t
 |.str x,u=>∃t,u=DD x t
 |.byt b,u=>∃t,u=U8 b t
 |.flt b,u=>∃t,u=U5 b t
 |.ref a,u=>u=AC a
 |.ty n,u=>u=Ec n
abbrev BF:List V->List Ah->Prop:=DX RelV
theorem BF.length {xs:List V}{us:List Ah}(r:BF xs us):xs.length=us.length:=DW r
theorem BF.get:∀{xs:List V}{us:List Ah}{i:Nat}{x:V},BF xs us->xs[i]? = some x->∃u,us[i]? = some u/\RelV x u
 |_,_,_,_,.nil,e=>by simp at e
 |_,_,0,_,.cons r _,e=>by simp at e;subst e;exact⟨_,rfl,r⟩
 |_,_,i+1,x,.cons _ t,e=>by
  obtain⟨u,h1,h2⟩:=BF.get t (by simpa using e);exact⟨u,by simpa using h1,h2⟩
theorem BF.append:∀{xs ys:List V}{us ws:List Ah},BF xs us->BF ys ws->BF (xs++ys) (us++ws)
 |_,_,_,_,.nil,s=>s
 |_,_,_,_,.cons r t,s=>.cons r (BF.append t s)
theorem BF.take:∀{xs:List V}{us:List Ah}(n:Nat),BF xs us->BF (xs.take n) (us.take n)
 |_,_,0,_=>.nil
 |_,_,_+1,.nil=>.nil
 |_,_,n+1,.cons r t=>.cons r (BF.take n t)
theorem BF.drop:∀{xs:List V}{us:List Ah}(n:Nat),BF xs us->BF (xs.drop n) (us.drop n)
 |_,_,0,r=>r
 |_,_,_+1,.nil=>.nil
 |_,_,n+1,.cons _ t=>BF.drop n t
def Ie:Option V->Option Ah->Prop
 |some v,some u=>RelV v u
 |none,none=>True
 |_,_=>False
def KV :List (κ×V)->List (κ×Ah)->Prop:=DX λp q=>p.1=q.1/\RelV p.2 q.2
noncomputable def kV:Co->V
 |.inl i=>.int i
 |.inr x=>.str x
inductive HO where
  |lst (xs:List V)
  |tup (xs:List V)
  |dK (kvs:List (Co×V)) | dT (kvs:List (List Co×V))
  |set (S:Int->Bool) (n:Nat)
  |ins (C dx:Av) (fs:List (Str×V))
  |own (x:Av)
  |xd (fs:List (Str×V))
  |met (f x:Av)
  |rng (lo hi:Int)
  |frz (o:Obj) (u:HO)
  |tbl (ps:Array Ah)
  |ext (φ:CH->Prop)
abbrev Hp:=Av->Option HO
noncomputable def Cv (H:Hp)(a:Av)(o:HO):Hp:=λb=>if b=a then some o else H b
theorem L1 :Cv H a o a=some o:=by unfold Cv;rw[if_pos rfl]
theorem HL (h:b≠a):Cv H a o b=H b:=by unfold Cv;rw[if_neg h]
theorem zB {H:Hp}(h:H a=some o)(h':H b=some u)(d:o≠u):a≠b:=by
 intro e;subst e;rw[h]at h';exact d (A8 h')
theorem VQ {H:Hp}(h:H a=some o)(h':H b=none):a≠b:=by
 intro e;subst e;rw[h]at h';cases h'
section
variable (P:Bp)(w:BK)
def LG (h:CH)(a:Av)(items:Array Ah):Prop:=∃o,h.get? a=some o/\o.cls=.type "tuple"/\∃n,o.data=.seq items n/\o.dict=none
omit P w in
theorem LG.tup (x:LG h a items):IsTup h a items:=let ⟨o,e,c,n,d,_⟩:=x;⟨o,e,c,n,d⟩
omit P w in
theorem LG.new (h:CH)(items:Array Ah):LG (h.push {cls:=.type "tuple",data:=.seq items}) h.objs.size items:=⟨_,Ax _ rfl,rfl,_,rfl,rfl⟩
def Do (H:Hp)(h:CH)(a:Av):HO->Prop
 |.lst xs=>xs.length<=Am/\∃Bh n,BF xs Bh/\h.get? a=some {cls:=.type "list",data:=.seq Bh.toArray n}
 |.tup xs=>xs.length<=Am/\∃Bh,BF xs Bh/\LG h a Bh.toArray
 |.dK kvs=>kvs.length<=Am/\(a == E5)=false/\∃vs,KV kvs vs/\h.DictOf (BO P w) a vs
 |.dT kvs=>kvs.length<=Am/\(a == E5)=false/\∃xs,
   DX (λp q=>p.1=q.1/\H q.2.1=some (.tup (p.1.map kV))/\RelV p.2 q.2.2) kvs xs /\
   ∃o es ep,h.get? a=some o/\o.ExactDict/\o.data=.dict es ep/\es.toList=xs.map (entryOfKey (Lj (BO P w)))/\(xs.map (·.1)).Nodup
 |.set S n=>h.SetOf (intKind P w) a S n
 |.ins C dx fs=>H dx=some (.own a)/\fs.length<=1000/\dx≠a/\h.get? a=some (Dc C dx) /\
   ∃mA,h.Ns1 dx mA/\(∀f,Ie (fs.lookup f) (mA f))/\L6 mA (fs.map (·.1))
 |.own _=>∃o,h.get? a=some o
 |.xd fs=>∃mA,h.Ns1 a mA/\∀f,Ie (fs.lookup f) (mA f)
 |.rng lo hi=>∃t u v,h.get? a=some {cls:=.type "range",data:=.fields #[.int lo t,.int hi u,.int 1 v]}
 |.frz o u=>h.get? a=some o/\Do H h a u
 |.tbl ps=>h.get? a=some {cls:=.none,data:=.fields ps}
 |.met f x=>h.get? a=some (NW (.ref f) (.ref x))
 |.ext φ=>φ h/\(∃o,h.get? a=some o)/\∀h1 h2,φ h1->(∀o,h1.get? a=some o->h2.get? a=some o)->φ h2
def Ik (H:Hp)(h:CH):Prop:=∀a o,H a=some o->Do P w H h a o
end
section
variable {P:Bp}{w:BK}
theorem Do.lt (x:Do P w H h a o):a<h.objs.size:=by
 cases o with
 |lst xs=>obtain⟨_,_,_,_,e⟩:=x;exact Ap e
 |tup xs=>obtain⟨_,_,_,p⟩:=x;exact(LG.tup p).lt
 |dK kvs=>obtain⟨_,_,_,_,o,_,_,e,_⟩:=x;exact Ap e
 |dT kvs=>obtain⟨_,_,_,_,o,_,_,e,_⟩:=x;exact Ap e
 |set S n=>obtain⟨o,_,_,_,e,_⟩:=x;exact Ap e
 |ins C dx fs=>obtain⟨_,_,_,e,_⟩:=x;exact Ap e
 |own y=>obtain⟨_,e⟩:=x;exact Ap e
 |xd fs=>obtain⟨_,⟨_,_,_,e,_⟩,_⟩:=x;exact Ap e
 |rng lo hi=>obtain⟨_,_,_,e⟩:=x;exact Ap e
 |frz ob u=>obtain⟨e,_⟩:=x;exact Ap e
 |tbl ps=>exact Ap (show h.get? a=some _ from x)
 |met f y=>exact Ap (show h.get? a=some _ from x)
 |ext φ=>obtain⟨_,⟨_,e⟩,_⟩:=x;exact Ap e
theorem DX.mapP :∀{l₁:List α}{l₂:List β},DX F l₁ l₂->(∀a b,F a b->G a b)->DX G l₁ l₂
 |_,_,.nil,_=>.nil
 |_,_,.cons r t,f=>.cons (f _ _ r) (DX.mapP t f)
theorem Do.stay (x:Do P w H h a o)(k:∀b u,(b=a\/H b=some (.own a))->h.get? b=some u->h'.get? b=some u)
  (ho:∀b,H b=some (.own a)->H' b=some (.own a)) (ht:∀b xs,H b=some (.tup xs)->H' b=some (.tup xs)):Do P w H' h' a o:=by
 induction o with
 |lst xs=>obtain⟨z,Bh,n,r,e⟩:=x;exact⟨z,Bh,n,r,k _ _ (.inl rfl) e⟩
 |tup xs=>obtain⟨z,Bh,r,ob,e,c⟩:=x;exact⟨z,Bh,r,ob,k _ _ (.inl rfl) e,c⟩
 |dK kvs=>obtain⟨z,y,vs,r,ob,es,ep,e,c⟩:=x;exact⟨z,y,vs,r,ob,es,ep,k _ _ (.inl rfl) e,c⟩
 |dT kvs=>obtain⟨z,y,xs,r,ob,es,ep,e,c⟩:_:=x;exact⟨z,y,xs,DX.mapP r λp q z=>⟨z.1,ht _ _ z.2.1,z.2.2⟩,ob,es,ep,k _ _ (.inl rfl) e,c⟩
 |set S n=>obtain⟨ob,es,ep,t,e,c⟩:=x;exact⟨ob,es,ep,t,k _ _ (.inl rfl) e,c⟩
 |ins C dx fs=>obtain⟨d,z,ne,e,mA,⟨od,es,ep,e2,c⟩,r⟩:_:=x;exact⟨ho _ d,z,ne,k _ _ (.inl rfl) e,mA,⟨od,es,ep,k _ _ (.inr d) e2,c⟩,r⟩
 |own y=>obtain⟨ob,e⟩:=x;exact⟨ob,k _ _ (.inl rfl) e⟩
 |xd fs=>obtain⟨mA,⟨od,es,ep,e,c⟩,r⟩:=x;exact⟨mA,⟨od,es,ep,k _ _ (.inl rfl) e,c⟩,r⟩
 |rng lo hi=>obtain⟨t,u,v,e⟩:=x;exact⟨t,u,v,k _ _ (.inl rfl) e⟩
 |frz ob u ih=>obtain⟨e,q⟩:=x;exact⟨k _ _ (.inl rfl) e,ih q⟩
 |tbl ps=>have e:=x;show h'.get? a=some {cls:=.none,data:=.fields ps};exact k a _ (.inl rfl) e
 |met f y=>have e:=x;show h'.get? a=some (NW (.ref f) (.ref y));exact k a _ (.inl rfl) e
 |ext φ=>obtain⟨p,⟨o,e⟩,st⟩:=x;exact⟨st _ _ p λo q=>k _ _ (.inl rfl) q,⟨o,k _ _ (.inl rfl) e⟩,st⟩
theorem Ik.lt (x:Ik P w H h)(e:H a=some o):a<h.objs.size:=(x a o e).lt
theorem Ik.fresh (x:Ik P w H h)(e:h.objs.size<=a):H a=none:=by
 cases q:H a with
 |none=>rfl
 |some u=>exact absurd (Bm (x.lt q) e) (EI _)
theorem Ik.kept (x:Ik P w H h)(k:∀b u,h.get? b=some u->h'.get? b=some u):Ik P w H h':=λa o e=>
 (x a o e).stay (λb u _ q=>k b u q) (λ_ q=>q) λ_ _ q=>q
theorem Ik.laid (x:Ik P w H h)(k:∀b u,h.get? b=some u->h'.get? b=some u)(hp:h.objs.size<=a)(new:Do P w (Cv H a o) h' a o):Ik P w (Cv H a o) h':=λb u e=>by
 have hn:=x.fresh hp;by_cases hb:b=a
 .subst hb;rw[L1]at e;cases e;exact new
 .rw[HL hb]at e;exact(x b u e).stay (λc v _ q=>k c v q) (λc q=>by rw[HL (VQ q hn)];exact q) λc xs q=>by rw[HL (VQ q hn)];exact q
end
def Rd (H:Hp)(a:Av)(u:HO):Prop:=H a=some u\/∃o,H a=some (.frz o u)
theorem Rd.ok {P:Bp}{w:BK}{H:Hp}{h:CH}{a:Av}{u:HO}(r:Rd H a u)(x:Ik P w H h):Do P w H h a u:=by
 rcases r with r|⟨o,r⟩
 .exact x a u r
 .obtain⟨_,q⟩:=x a _ r;exact q
def YH:Option HO->Prop
 |some (.lst _)=>True
 |some (.dK _)=>True
 |some (.dT _)=>True
 |some (.set _ _)=>True
 |some (.ins _ _ _)=>True
 |some (.ext _)=>True
 |_=>False
section
theorem Ik.write (ok:Ik P w H h)(mu:YH (H x))(he:e=x\/H e=some (.own x))(k:∀b u,b≠e->h.get? b=some u->h'.get? b=some u)(heo:∃u,h'.get? e=some u)
  (new:Do P w (Cv H x o') h' x o'):Ik P w (Cv H x o') h':=λb u q=>by
 have nown:∀c y,H c=some (.own y)->c≠x:=λc y r z=>by subst z;rw[r]at mu;exact mu
 have ntup:∀c xs,H c=some (.tup xs)->c≠x:=λc xs r z=>by subst z;rw[r]at mu;exact mu
 by_cases hb:b=x
 .subst hb;rw[L1]at q;cases q;exact new
 .rw[HL hb]at q;by_cases hbe:b=e
  .have q':H b=some (.own x):=by
    rcases he with z|z
    .exact absurd (hbe.trans z) hb
    .rw[hbe];exact z
   rw[q]at q';cases q';obtain⟨v,hv⟩:=heo;exact⟨v,by rw[hbe];exact hv⟩
  .refine(ok b u q).stay (λc v hc r=>k c v ?_ r) (λc r=>by rw[HL (nown c b r)];exact r) λc xs r=>by rw[HL (ntup c xs r)];exact r
   rcases hc with rfl|hc
   .exact hbe
   .rintro rfl;rcases he with z|z
    .exact nown c b hc z
    .rw[hc]at z;cases z;exact hb rfl
end
structure Un (fs ex:List Av)(H H':Hp)(h h':CH):Prop where
 keep:∀b o,h.get? b=some o->H b=none->b∉fs->b∉ex->h'.get? b=some o
 slot:∀b o,h.get? b=some o->H b=none->b∈fs->b∉ex->∃sl,h'.get? b=some {o with slots:=sl}
 free:∀b o,h.get? b=some o->H b=none->b∉ex->H' b=none
 there:∀b o,h.get? b=some o->b∉ex->∃o',h'.get? b=some o'
 tups:∀b xs,H b=some (.tup xs)->H' b=some (.tup xs)
 frzs:∀b o u,H b=some (.frz o u)->H' b=some (.frz o u)
 tbls:∀b ps,H b=some (.tbl ps)->∃more,H' b=some (.tbl (ps++more))
section
variable  {H:Hp}  {a:Av}
theorem Un.any (u:Un fs ex H H1 h h1)(q:h.get? b=some ob)(n:H b=none)(hx:b∉ex):∃sl,h1.get? b=some {ob with slots:=sl}:=by
 by_cases hb:b∈fs
 .exact u.slot b ob q n hb hx
 .exact⟨ob.slots,u.keep b ob q n hb hx⟩
theorem Un.kept (k:∀b u,h.get? b=some u->h'.get? b=some u):Un fs ex H H h h':=
 ⟨λb ob q _ _ _=>k b ob q,λb ob q _ _ _=>⟨ob.slots,k b ob q⟩,λ_ _ _ n _=>n,λb ob q _=>⟨ob,k b ob q⟩,λ_ _ q=>q,λ_ _ _ q=>q,λ_ ps q=>⟨#[],by rw[q];simp⟩⟩
theorem Un.refl:Un fs ex H H h h:=Un.kept λ_ _ q=>q
theorem Un.laid (k:∀b u,h.get? b=some u->h'.get? b=some u)(hp:h.objs.size<=a)(hn:H a=none):Un fs ex H (Cv H a o) h h' where
 keep:=λb u q _ _ _=>k b u q
 slot:=λb u q _ _ _=>⟨u.slots,k b u q⟩
 free:=λb u q n _=>by rw[HL (A5 (Bm (Ap q) hp))];exact n
 there:=λb u q _=>⟨u,k b u q⟩
 tups:=λb xs q=>by rw[HL (VQ q hn)];exact q
 frzs:=λb u xs q=>by rw[HL (VQ q hn)];exact q
 tbls:=λb ps q=>⟨#[],by rw[HL (VQ q hn),q];simp⟩
theorem Un.write (mu:YH (H x))(he:e=x\/H e=some (.own x))(k:∀b u,b≠e->h.get? b=some u->h'.get? b=some u)(heo:∃u,h'.get? e=some u):Un fs ex H (Cv H x o) h h':=by
 have hx:∀b,H b=none->b≠x:=λb n z=>by subst z;rw[n]at mu;exact mu
 have hb:∀b,H b=none->b≠e:=λb n z=>by
  subst z;rcases he with r|r
  .exact hx b n r
  .rw[n]at r;cases r
 have hm:∀b u,H b=some u->¬YH (some u)->b≠x:=λb u q nm z=>by subst z;rw[q]at mu;exact nm mu
 refine ⟨λb u q n _ _=>k b u (hb b n) q,λb u q n _ _=>⟨u.slots,k b u (hb b n) q⟩,λb u q n _=>by rw [HL (hx b n)];exact n,λb u q _=>?_,
  λb xs q=>by rw [HL (hm b _ q λz=>z)];exact q,λb u xs q=>by rw [HL (hm b _ q λz=>z)];exact q,λb ps q=>⟨#[],by rw [HL (hm b _ q λz=>z),q];simp⟩⟩
 by_cases hbe:b=e
 .subst hbe;exact heo
 .exact⟨u,k b u hbe q⟩
end
noncomputable def Zq (h:CH)(H:Hp):List Av:=(Bk h.objs.size).filter λa=>(H a).isSome
noncomputable def Lz (h:CH)(H:Hp):CH:=PySem.W.hideAll h (Zq h H)
theorem t9 (h:CH)(H:Hp):(Lz h H).objs.size=h.objs.size:=PySem.W.hideAll_size _ _
theorem si (e:h.get? b=some o)(n:H b=none):(Lz h H).get? b=some o:=
 PySem.W.hideAll_get _ e λhm=>by
  have q:=(AX.mp hm).2;rw[n]at q;simp at q
theorem np (e:(Lz h H).get? b=some o):h.get? b=some o/\H b=none:=by
 have e':=PySem.W.of_hideAll (Zq h H) e;refine⟨e',?_⟩;cases q:H b with
 |none=>rfl
 |some x=>have hm:b∈Zq h H:=AX.mpr ⟨Ca.mpr (Ap e'),by simp[q]⟩;have z:(Lz h H).get? b=none:=PySem.W.hideAll_none (Zq h H) hm;rw[z]at e;cases e
noncomputable def RX (g h:CH)(L:Av):List (Av×Obj):=(Bk h.objs.size).filterMap λa=>if a=L\/(g.get? a).isSome=true then none else(h.get? a).map λo=>(a,o)
noncomputable def C8 (g h:CH)(L d:Av):List (Av×Obj):=(RX g h L).filter λp=>decide (p.1≠d)
structure Mod (K:Ac)(mg:Str->Option Ah)(base:CH):Prop where
 kin:K.In base
 glob:base.Ns BS mg
 blt:∃mb,base.Ns To mb/\∀x:Str,x≠"__name__"->mb x=EJ x
 nolimit:base.NoLimit
structure Cx where
 prog:Bp
 w:BK
 K:Ac
 mg:Str->Option Ah
 base:CH
 A:Cu
 N:List Str
 s₀:Aq
 H₀:Hp
 env:Env
 outer:List Env
 stack:List Env
 ex:List Av
 fn:Str->Bool
 calm:Bool
 pn:List (Av×Obj)
 xe:Ah->Aq->Prop
 fz:List (Av×Obj×HO):=[]
noncomputable def Pr (l:List Env):List Av:=l.filterMap (·.frame)
noncomputable abbrev Cx.fs (X:Cx):List Av:=Pr X.outer
def UD (sc:KO)(x:Str):Prop:=sc.names.lookup x=some .local\/sc.names.lookup x=some .cell\/sc.names.lookup x=some .free
def UK (sc:KO)(x:Str):Prop:=sc.names.lookup x=some .local\/sc.names.lookup x=some .cell
def kS (env:Env)(h:CH)(m:Str->Option Ah)(x:Str)(u:Ah):Prop:=
 (env.kindOf x=some .local/\m x=some u)\/((env.kindOf x=some .cell\/env.kindOf x=some .free)/\∃c,env.cells.lookup x=some c/\h.IsCell c (some u))
structure Cx.Ok (X:Cx):Prop where
 mod:Mod X.K X.mg X.base
 kind:X.env.scope.kind=.function
 glob:X.env.globals=BS
 blt:X.env.builtins=To
 above:X.s₀.heap.objs.size<=X.env.locals
 inj:∀x y c,X.env.cells.lookup x=some c->X.env.cells.lookup y=some c->x=y
 has:∀x,(X.env.kindOf x=some .cell\/X.env.kindOf x=some .free)->∃c,X.env.cells.lookup x=some c
 cab:∀x c,X.fn x=true->X.env.cells.lookup x=some c->X.s₀.heap.objs.size<=c
 hd:X.calm=true->X.A.handled=none
 frames:X.A.frames=some X.stack
 stk:X.stack=X.outer\/(X.stack=X.env::X.outer/\X.env.frame=some X.env.locals)
 exf:∀b∈X.ex,b≠X.env.locals/\∀x c,X.env.cells.lookup x=some c->c≠b
 bs:∀b o,X.base.get? b=some o->X.s₀.heap.get? b=some o/\X.H₀ b=none
 bsz:X.base.objs.size<=X.s₀.heap.objs.size
 noex:∀b o,X.base.get? b=some o->b∉X.ex
 exfs:∀b∈X.ex,b∉X.fs
 funs:X.s₀.heap.FunFrames X.base X.outer
 frf:∀b∈X.fs,X.H₀ b=none
structure A4 (X:Cx)(Ae:List (Av×Obj))(U:List (Option V))(H:Hp)(s:Aq):Prop where
 ok:X.Ok
 os:s.os=X.s₀.os
 bare:Iu s.gens
 base:Un X.fs X.ex X.H₀ H X.s₀.heap s.heap
 loc:∃m,s.heap.Ns X.env.locals m/\∀(i:Nat) (x:Str) (v:V),X.N[i]? = some x->U[i]? = some (some v)->UD X.env.scope x->∃u,RelV v u/\kS X.env s.heap m x u
 cell:∀x c,X.env.cells.lookup x=some c->∃v,s.heap.IsCell c v
 free:H X.env.locals=none
 freeC:∀x c,X.env.cells.lookup x=some c->H c=none
 pin:∀p∈X.pn++Ae,s.heap.get? p.1=some p.2/\H p.1=none/\p.1≠X.env.locals/\p.1∉X.fs/\∀v,p.2.data≠.cell v
 hok:Ik X.prog X.w H s.heap
 len:U.length=X.N.length
 fzd:∀f∈X.fz,H f.1=some (.frz f.2.1 f.2.2)
section
variable {X:Cx}{Ae:List (Av×Obj)}{U:List (Option V)}{H:Hp}{s:Aq}{h':CH}
theorem Cx.Ok.nofr (ok:X.Ok)(e:X.base.get? b=some o):b∉X.fs:=λhb=>by
 have:=(ok.funs.mem hb).1;rw[e]at this;cases this
theorem A4.bs (I:A4 X Ae U H s):∀b o,X.base.get? b=some o->s.heap.get? b=some o/\H b=none:=λb o e=>
 ⟨I.base.keep b o (I.ok.bs b o e).1 (I.ok.bs b o e).2 (I.ok.nofr e) (I.ok.noex b o e),I.base.free b o (I.ok.bs b o e).1 (I.ok.bs b o e).2 (I.ok.noex b o e)⟩
theorem A4.bk (I:A4 X Ae U H s):∀b o,X.base.get? b=some o->s.heap.get? b=some o:=λb o e=>(I.bs b o e).1
theorem A4.mod (I:A4 X Ae U H s):Mod X.K X.mg X.base:=I.ok.mod
theorem A4.kIn (I:A4 X Ae U H s):X.K.In s.heap:=I.ok.mod.kin.keeps I.bk
theorem A4.lt (I:A4 X Ae U H s):X.env.locals<s.heap.objs.size:=let ⟨_,hn,_⟩:=I.loc;hn.lt
theorem A4.sz (I:A4 X Ae U H s):X.s₀.heap.objs.size<=s.heap.objs.size:=A7 I.ok.above (Fl I.lt)
theorem A4.nofs (I:A4 X Ae U H s)(h:s.heap.objs.size<=a):a∉X.fs:=λhb=>by
 obtain⟨_,o,ho,_⟩:=I.ok.funs.mem hb;exact absurd (Bm (Ap ho) (A7 I.sz h)) (EI _)
theorem A4.cne (I:A4 X Ae U H s):∀x c,X.env.cells.lookup x=some c->c≠X.env.locals:=λx c e z=>by
 obtain⟨v,o,ho,hd⟩:=I.cell x c e;obtain⟨m,⟨o',es,ep,ho',hd',_⟩,_⟩:=I.loc;rw[z,ho']at ho;cases ho;rw[hd']at hd;cases hd
theorem A4.funs (I:A4 X Ae U H s):s.heap.FunFrames X.base X.outer:=by
 have all:∀l,(∀b∈Pr l,b∈X.fs)->X.s₀.heap.FunFrames X.base l->s.heap.FunFrames X.base l:=by
  intro l;induction l with
  |nil=>intro _ _;trivial
  |cons env r ih=>intro hs;ext1⟨hk,⟨L,o,hf,hn,ho,hd⟩,hr⟩;have hL:=hs L (by unfold Pr;rw[C0,hf];exact AG);obtain⟨sl,e⟩:=I.base.slot L o ho (I.ok.frf L hL) hL λz=>I.ok.exfs L z hL;exact⟨hk,⟨L,_,hf,hn,e,hd⟩,ih (λb hb=>hs b (by unfold Pr;rw[C0,hf];exact AF _ hb)) hr⟩
 exact all X.outer (λ_ hb=>hb) I.ok.funs
theorem A4.stack (I:A4 X Ae U H s):s.heap.FunFrames X.base X.stack:=by
 rcases I.ok.stk with e|⟨e,hf⟩
 .rw[e];exact I.funs
 .rw[e];obtain⟨m,hn,_⟩:=I.loc;refine .cons (by rw[I.ok.kind];decide) hf hn ?_ I.funs;exact Heap.get?_none_of_le (A7 I.ok.bsz I.ok.above)
theorem A4.stkSub (I:A4 X Ae U H s):∀b∈Pr X.stack,b∈X.env.locals::X.fs:=λb hb=>by
 rcases I.ok.stk with e|⟨e,hf⟩
 .rw[e]at hb;exact AF _ hb
 .rw[e]at hb;unfold Pr at hb;rw[C0,hf]at hb;exact hb
theorem A4.stkFree (I:A4 X Ae U H s):∀b∈Pr X.stack,H b=none:=λb hb=>by
 rcases Bc.mp (I.stkSub b hb)with e|hb
 .rw[e];exact I.free
 .obtain⟨_,o,ho,_⟩:=I.ok.funs.mem hb;exact I.base.free b o ho (I.ok.frf b hb) λz=>I.ok.exfs b z hb
theorem A4.step {g':Array cF}{t':Nat}{d':Drawn}{ch:List Av}(I:A4 X Ae U H s)
  (hch:∀b∈ch,(b∈X.ex\/X.s₀.heap.objs.size<=b)/\b≠X.env.locals/\(∀x c,X.env.cells.lookup x=some c->c≠b)/\∀p∈X.pn++Ae,p.1≠b)
  (keep:∀b o,b≠X.env.locals->b∉X.fs->b∉ch->s.heap.get? b=some o->H b=none->h'.get? b=some o)
  (slot:∀b o,b≠X.env.locals->b∈X.fs->b∉ch->s.heap.get? b=some o->H b=none->∃sl,h'.get? b=some {o with slots:=sl}) (free:∀b o,b∉ch->s.heap.get? b=some o->H b=none->H' b=none)
  (there:∀b o,b∉ch->s.heap.get? b=some o->∃o',h'.get? b=some o')
  (tups:∀b xs,H b=some (.tup xs)->H' b=some (.tup xs)) (frzs:∀b o u,H b=some (.frz o u)->H' b=some (.frz o u)) (tbls:∀b ps,H b=some (.tbl ps)->∃more,H' b=some (.tbl (ps++more)))
  (ns:∀m,s.heap.Ns X.env.locals m->h'.Ns X.env.locals m) (hok:Ik X.prog X.w H' h') (hg:Iu g') :
  A4 X Ae U H' {s with heap:=h',gens:=g',drawn:=d',toks:=t' }:=by
 have neL:∀b o,X.s₀.heap.get? b=some o->b≠X.env.locals:=λb o e=>A5 (Bm (Ap e) I.ok.above)
 have neC:∀b o,X.s₀.heap.get? b=some o->b∉X.ex->b∉ch:=λb o e hx hb=>by
  rcases(hch b hb).1 with z|z
  .exact hx z
  .exact absurd (Bm (Ap e) z) (EI _)
 have cellK:∀x c,X.env.cells.lookup x=some c->∀v,s.heap.IsCell c v->h'.IsCell c v:=λx c e v ⟨o,ho,hd⟩=>by
  have nch:c∉ch:=λz=>(hch c z).2.2.1 x c e rfl;by_cases hc:c∈X.fs
  .obtain⟨sl,q⟩:=slot c o (I.cne x c e) hc nch ho (I.freeC x c e);exact⟨_,q,hd⟩
  .exact⟨o,keep c o (I.cne x c e) hc nch ho (I.freeC x c e),hd⟩
 refine⟨I.ok,I.os,hg,⟨λb o e n hb hx=>?_,λb o e n hb hx=>?_,λb o e n hx=>?_,λb o e hx=>?_,λb xs e=>tups b xs (I.base.tups b xs e),λb o xs e=>frzs b o xs (I.base.frzs b o xs e),λb ps e=>?_⟩,?_,λx c e=>?_,?_,λx c e=>?_,λp hp=>?_,hok,I.len,λf hf=>frzs f.1 f.2.1 f.2.2 (I.fzd f hf)⟩
 .exact keep b o (neL b o e) hb (neC b o e hx) (I.base.keep b o e n hb hx) (I.base.free b o e n hx)
 .obtain⟨sl,e1⟩:=I.base.slot b o e n hb hx;obtain⟨sl',e2⟩:=slot b _ (neL b o e) hb (neC b o e hx) e1 (I.base.free b o e n hx);exact⟨sl',e2⟩
 .obtain⟨o',e1⟩:=I.base.there b o e hx;exact free b o' (neC b o e hx) e1 (I.base.free b o e n hx)
 .obtain⟨o',e1⟩:=I.base.there b o e hx;exact there b o' (neC b o e hx) e1
 .obtain⟨m1,e1⟩:=I.base.tbls b ps e;obtain⟨m2,e2⟩:=tbls b _ e1;exact⟨m1++m2,by rw[e2,Array.append_assoc]⟩
 .obtain⟨m,hn,hl⟩:=I.loc;refine⟨m,ns m hn,λi x v e1 e2 e3=>?_⟩;obtain⟨u,r,l⟩:=hl i x v e1 e2 e3;refine⟨u,r,?_⟩;rcases l with l|⟨k,c,e,z⟩
  .exact .inl l
  .exact .inr ⟨k,c,e,cellK x c e _ z⟩
 .obtain⟨v,z⟩:=I.cell x c e;exact⟨v,cellK x c e v z⟩
 .obtain⟨m,⟨o,_,_,ho,_⟩,_⟩:=I.loc;exact free _ o (λz=>(hch _ z).2.1 rfl) ho I.free
 .obtain⟨v,o,ho,hd⟩:=I.cell x c e;exact free c o (λz=>(hch c z).2.2.1 x c e rfl) ho (I.freeC x c e)
 .obtain⟨e,n,ne,nf,d⟩:=I.pin p hp;have nch:p.1∉ch:=λz=>(hch p.1 z).2.2.2 p hp rfl;exact⟨keep p.1 p.2 ne nf nch e n,free p.1 p.2 nch e n,ne,nf,d⟩
theorem A4.un {t':Nat}(I:A4 X Ae U H s)(u:Un X.fs [] H H' s.heap h')(hok:Ik X.prog X.w H' h'):A4 X Ae U H' {s with heap:=h',toks:=t' }:=by
 obtain⟨m,⟨o,es,ep,ho,r⟩,_⟩:_:=id I.loc;obtain⟨sl,hL⟩:=u.any ho I.free (by simp)
 exact I.step (ch:=[]) (λ_ z=>nomatch z) (λb o _ hb _ e n=>u.keep b o e n hb (by simp)) (λb o _ hb _ e n=>u.slot b o e n hb (by simp)) (λb o _ e n=>u.free b o e n (by simp)) (λb o _ e=>u.there b o e (by simp)) u.tups u.frzs u.tbls (λm' hm=>by
  obtain ⟨o',es',ep',ho',r'⟩:=hm;rw [ho] at ho';cases ho';exact ⟨_,es',ep',hL,r'⟩) hok I.bare
theorem A4.call {g':Array cF}{t':Nat}{d':Drawn}{ch:List Av}(I:A4 X Ae U H s)(u:Un (Pr X.stack) ch H H' s.heap h')(hok:Ik X.prog X.w H' h')(hg:Iu g')
  (hch:∀b∈ch,(b∈X.ex\/X.s₀.heap.objs.size<=b)/\b≠X.env.locals/\(∀x c,X.env.cells.lookup x=some c->c≠b)/\∀p∈X.pn++Ae,p.1≠b) :
  A4 X Ae U H' {s with heap:=h',gens:=g',drawn:=d',toks:=t' }:=by
 obtain⟨m,⟨o,es,ep,ho,r⟩,_⟩:_:=id I.loc;obtain⟨sl,hL⟩:=u.any ho I.free λz=>(hch _ z).2.1 rfl
 exact I.step hch (λb o hL hb hc e n=>u.keep b o e n (λz=>(Bc.mp (I.stkSub b z)).elim hL hb) hc) (λb o _ _ hc e n=>u.any e n hc) (λb o hc e n=>u.free b o e n hc) (λb o hc e=>u.there b o e hc) u.tups u.frzs u.tbls (λm' hm=>by
  obtain ⟨o',es',ep',ho',r'⟩:=hm;rw [ho] at ho';cases ho';exact ⟨_,es',ep',hL,r'⟩) hok hg
theorem A4.turned {it:Av}(I:A4 X Ae U H s)(k:∀b o,b≠it->s.heap.get? b=some o->h'.get? b=some o)(hn:H it=none)(hL:it≠X.env.locals)
  (h1:it∈X.ex\/X.s₀.heap.objs.size<=it) (h2:∀x c,X.env.cells.lookup x=some c->c≠it) (h3:∀p∈X.pn++Ae,p.1≠it):A4 X Ae U H {s with heap:=h',toks:=t' }:=by
 have nit:∀b u,H b=some u->b≠it:=λb u e z=>by rw[z,hn]at e;cases e
 refine I.step (ch:=[it]) (λb hb=>?_) (λb o _ _ hc e _=>k b o (λz=>hc (by simp[z])) e) (λb o _ _ hc e _=>⟨o.slots,k b o (λz=>hc (by simp[z])) e⟩) (λ_ _ _ _ n=>n)
  (λb o hc e=>⟨o,k b o (λz=>hc (by simp[z])) e⟩) (λ_ _ e=>e) (λ_ _ _ e=>e) (λb ps e=>⟨#[],by rw[e];simp⟩) (λm hm=>?_) (λb u e=>?_) I.bare
 .have e:b=it:=by simpa using hb
  subst e;exact⟨h1,hL,h2,h3⟩
 .obtain⟨o,es,ep,ho,r⟩:=hm;exact⟨o,es,ep,k _ o (Bj hL) ho,r⟩
 .refine(I.hok b u e).stay (λc v hc q=>k c v ?_ q) (λ_ q=>q) λ_ _ q=>q;rcases hc with z|z
  .rw[z];exact nit b u e
  .exact nit c _ z
theorem A4.tok (I:A4 X Ae U H s)(t:Nat):A4 X Ae U H {s with toks:=t}:=I.un Un.refl I.hok
theorem A4.kept (I:A4 X Ae U H s)(k:∀b u,s.heap.get? b=some u->h'.get? b=some u):A4 X Ae U H {s with heap:=h',toks:=t' }:=I.un (Un.kept k) (I.hok.kept k)
theorem A4.laid (I:A4 X Ae U H s)(k:∀b u,s.heap.get? b=some u->h'.get? b=some u)(hp:s.heap.objs.size<=a)(new:Do X.prog X.w (Cv H a o) h' a o) :
  A4 X Ae U (Cv H a o) {s with heap:=h',toks:=t' }:=I.un (Un.laid k hp (I.hok.fresh hp)) (I.hok.laid k hp new)
theorem A4.write (I:A4 X Ae U H s)(mu:YH (H x))(he:e=x\/H e=some (.own x))(k:∀b u,b≠e->s.heap.get? b=some u->h'.get? b=some u)(heo:∃u,h'.get? e=some u)
  (new:Do X.prog X.w (Cv H x o) h' x o):A4 X Ae U (Cv H x o) {s with heap:=h',toks:=t' }:=I.un (Un.write mu he k heo) (I.hok.write mu he k heo new)
theorem A4.pins_of (I:A4 X Ae U H s)(h:∀p∈pins',s.heap.get? p.1=some p.2/\H p.1=none/\p.1≠X.env.locals/\p.1∉X.fs/\∀v,p.2.data≠.cell v):A4 X pins' U H s:=
 ⟨I.ok,I.os,I.bare,I.base,I.loc,I.cell,I.free,I.freeC,λp hp=>(AY.mp hp).elim (λz=>I.pin p (CK _ z)) (h p),I.hok,I.len,I.fzd⟩
theorem sH {N:List Str}(hN:N.Nodup){i j:Nat}{x:Str}(a:N[i]? = some x)(b:N[j]? = some x):i=j:=by
 obtain⟨h1,e1⟩:=Ai.mp a;obtain⟨h2,e2⟩:=Ai.mp b;exact(Jj hN).mp (e1.trans e2.symm)
theorem uF {M:Model}{A:Cu}{E:Ah->Aq->Prop}{i:Nat}{x:Str}{v:V}{u:Ah}{Q:Unit->Aq->Prop}(I:A4 X Ae U H s)(hN:X.N.Nodup)(hi:X.N[i]? = some x)(hx:UK X.env.scope x)(r:RelV v u)
  (h:∀s',A4 X Ae (U.set i (some v)) H s'->(∃a,Bx a s.heap s'.heap/\(a=X.env.locals\/X.env.cells.lookup x=some a))->Q () s') (hf:X.fn x=true\/X.env.scope.names.lookup x=some .local:=by first | exact .inl rfl | exact .inr rfl | assumption):Ar M A (storeName X.env x u) Q E s:=by
 obtain⟨m,hn,hl⟩:=id I.loc;have hcls:(X.env.scope.kind == .class || (X.env.scope.kind == .module && X.env.locals != X.env.globals))=false:=by rw[I.ok.kind];rfl
 have hiσ:i<U.length:=by rw[I.len];exact(Ai.mp hi).1
 have cne:=I.cne
 have tracked:∀{a:Av} {h':CH},(∃o,s.heap.get? a=some o/\H a=none)->Bx a s.heap h'->Ik X.prog X.w H h':=λ{a h'} ha hs b ob e=>by
  obtain⟨_,_,hfree⟩:=ha;refine(I.hok b ob e).stay (λc w' hc q=>(hs.2 c ?_).trans q) (λ_ q=>q) λ_ _ q=>q;rintro rfl;rcases hc with rfl|hc
  .rw[hfree]at e;cases e
  .rw[hfree]at hc;cases hc
 rcases hx with hk|hk
 .refine wpAny_storeName_local hk hn (λh' hn' hs=>?_) hcls;obtain⟨oL,_,_,hoL,_⟩:=id hn;refine h _ ⟨I.ok,I.os,I.bare,⟨λb o e n hb hx=>?_,λb o e n hb hx=>?_,I.base.free,λb o e hx=>?_,I.base.tups,I.base.frzs,I.base.tbls⟩,⟨_,hn',λj y v' e1 e2 e3=>?_⟩,λy c e=>?_,I.free,I.freeC,λp hp=>?_,tracked ⟨oL,hoL,I.free⟩ hs,by simpa using I.len,I.fzd⟩ ⟨_,hs,.inl rfl⟩
  .exact(hs.2 b (A5 (Bm (Ap e) I.ok.above))).trans (I.base.keep b o e n hb hx)
  .obtain⟨sl,e1⟩:=I.base.slot b o e n hb hx;exact⟨sl,(hs.2 b (A5 (Bm (Ap e) I.ok.above))).trans e1⟩
  .obtain⟨o',e1⟩:=I.base.there b o e hx;exact⟨o',(hs.2 b (A5 (Bm (Ap e) I.ok.above))).trans e1⟩
  .by_cases hj:j=i
   .subst hj;rw[hi]at e1;cases e1;rw[MD hiσ]at e2;cases e2;exact⟨u,r,.inl ⟨hk,by simp⟩⟩
   .rw[N8 (Bj hj)]at e2;obtain⟨u',r',q⟩:=hl j y v' e1 e2 e3;refine⟨u',r',?_⟩;rcases q with⟨k,e⟩|⟨k,c,e,z⟩
    .refine .inl ⟨k,?_⟩;have:y≠x:=λe=>hj (sH hN e1 (e ▸ hi));simp[this,e]
    .exact .inr ⟨k,c,e,z.sameBut hs (cne y c e)⟩
  .obtain⟨w',z⟩:=I.cell y c e;exact⟨w',z.sameBut hs (cne y c e)⟩
  .obtain⟨e,n,ne,nf,d⟩:=I.pin p hp;exact⟨(hs.2 p.1 ne).trans e,n,ne,nf,d⟩
 .have hfn:X.fn x=true:=by
   rcases hf with z|z
   .exact z
   .rw[z]at hk;cases hk
  obtain⟨c,hc⟩:=I.ok.has x (.inl hk);obtain⟨w',z⟩:=I.cell x c hc;refine wpAny_storeName_cell I.ok.kind hk hc z (λh' hc' hs=>?_);obtain⟨oc,hoc,hocd⟩:=id z;refine h {s with heap:=h' } ⟨I.ok,I.os,I.bare,⟨λb o e n hb hx=>?_,λb o e n hb hx=>?_,I.base.free,λb o e hx=>?_,I.base.tups,I.base.frzs,I.base.tbls⟩,⟨m,hn.sameBut hs (Bj (cne x c hc)),λj y v' e1 e2 e3=>?_⟩,λy c' e=>?_,I.free,I.freeC,λp hp=>?_,tracked ⟨oc,hoc,I.freeC x c hc⟩ hs,by simpa using I.len,I.fzd⟩ ⟨c,hs,.inr hc⟩
  .exact(hs.2 b (A5 (Bm (Ap e) (I.ok.cab x c hfn hc)))).trans (I.base.keep b o e n hb hx)
  .obtain⟨sl,e1⟩:=I.base.slot b o e n hb hx;exact⟨sl,(hs.2 b (A5 (Bm (Ap e) (I.ok.cab x c hfn hc)))).trans e1⟩
  .obtain⟨o',e1⟩:=I.base.there b o e hx;exact⟨o',(hs.2 b (A5 (Bm (Ap e) (I.ok.cab x c hfn hc)))).trans e1⟩
  .by_cases hj:j=i
   .subst hj;rw[hi]at e1;cases e1;rw[MD hiσ]at e2;cases e2;exact⟨u,r,.inr ⟨.inl hk,c,hc,hc'⟩⟩
   .rw[N8 (Bj hj)]at e2;obtain⟨u',r',q⟩:=hl j y v' e1 e2 e3;refine⟨u',r',?_⟩;rcases q with q|⟨k,c',e,z'⟩
    .exact .inl q
    .refine .inr ⟨k,c',e,z'.sameBut hs ?_⟩;rintro rfl;exact hj (sH hN e1 (I.ok.inj _ _ _ e hc ▸ hi))
  .by_cases hcc:c'=c
   .subst hcc;exact⟨_,hc'⟩
   .obtain⟨w2,z2⟩:=I.cell y c' e;exact⟨w2,z2.sameBut hs hcc⟩
  .obtain⟨e,n,ne,nf,d⟩:=I.pin p hp;refine⟨(hs.2 p.1 ?_).trans e,n,ne,nf,d⟩;intro q;rw[q,hoc]at e;have q':=A8 e;exact d w' (by rw[<- q'];exact hocd)
theorem rS (I:A4 X Ae U H s)(hN:X.N.Nodup)(hi:X.N[i]? = some x)(hx:UK X.env.scope x)(r:RelV v u)
  (h:∀s',A4 X Ae (U.set i (some v)) H s'->Q () s') (hf:X.fn x=true\/X.env.scope.names.lookup x=some .local:=by first | exact .inl rfl | exact .inr rfl | assumption):Ar M A (storeName X.env x u) Q E s:=
 uF I hN hi hx r (λs' I' _=>h s' I') hf
theorem A4.call' (I:A4 X Ae U H s)(ho:s'.os=s.os)(u:Un (Pr X.stack) ch H H' s.heap s'.heap)(hok:Ik X.prog X.w H' s'.heap)(hg:Iu s'.gens)
  (hch:∀b∈ch,(b∈X.ex\/X.s₀.heap.objs.size<=b)/\b≠X.env.locals/\(∀x c,X.env.cells.lookup x=some c->c≠b)/\∀p∈X.pn++Ae,p.1≠b):A4 X Ae U H' s':=by
 obtain⟨h',g',d',t',o'⟩:=s';have e:=ho;subst e;exact I.call u hok hg hch
end
abbrev XK:=Ah->Option Av->Hp->Prop
abbrev St:=List (Option V)
abbrev VK:=V->Hp->Prop
abbrev TE:=St->Hp->VK->Prop
abbrev TT:=St->Hp->(Bool->Hp->Prop)->Prop
abbrev TA:=St->Hp->(List V->Hp->Prop)->Prop
structure NT where
 nx:St->Hp->Prop
 rt:VK
 bk:St->Hp->Prop:=λ_ _=>False
 ct:St->Hp->Prop:=λ_ _=>False
abbrev TS:=NT->St->Hp->Prop
def EP (X:Cx)(Ae:List (Av×Obj))(U:St)(Q:VK)(u:Ah)(s':Aq):Prop:=∃v H',A4 X Ae U H' s'/\RelV v u/\Q v H'
def TP (X:Cx)(Ae:List (Av×Obj))(U:St)(Q:Bool->Hp->Prop)(b:Bool)(s':Aq):Prop:=∃H',A4 X Ae U H' s'/\Q b H'
def AP (X:Cx)(Ae:List (Av×Obj))(U:St)(Q:List V->Hp->Prop)(us:List Ah)(s':Aq):Prop:=∃vs H',A4 X Ae U H' s'/\BF vs us/\Q vs H'
theorem EP.el {X:Cx}{Ae:List (Av×Obj)}{U:St}{Q:VK}{u:Ah}{s:Aq}{G:Prop}:EP X Ae U Q u s->(∀v H,A4 X Ae U H s->RelV v u->Q v H->G)->G:=λ⟨v,H,i,r,q⟩ k=>k v H i r q
theorem AP.el {X:Cx}{Ae:List (Av×Obj)}{U:St}{Q:List V->Hp->Prop}{u:List Ah}{s:Aq}{G:Prop}:AP X Ae U Q u s->(∀v H,A4 X Ae U H s->BF v u->Q v H->G)->G:=λ⟨v,H,i,r,q⟩ k=>k v H i r q
theorem TP.el {X:Cx}{Ae:List (Av×Obj)}{U:St}{Q:Bool->Hp->Prop}{u:Bool}{s:Aq}{G:Prop}:TP X Ae U Q u s->(∀H,A4 X Ae U H s->Q u H->G)->G:=λ⟨H,i,q⟩ k=>k H i q
def SP (X:Cx)(Ae:List (Av×Obj))(D:NT)(f:Flow)(s':Aq):Prop:=
 match f with
 |.next=>∃U' H',A4 X Ae U' H' s'/\D.nx U' H'
 |.brk=>∃U' H',A4 X Ae U' H' s'/\D.bk U' H'
 |.cont=>∃U' H',A4 X Ae U' H' s'/\D.ct U' H'
 |.ret u=>∃v U' H',A4 X Ae U' H' s'/\RelV v u/\D.rt v H'
def PE (X:Cx)(e:B8)(t:TE):Prop:=
 ∀(Ae:List (Av×Obj)) (s:Aq) (U:St) (H:Hp) (Q:VK),A4 X Ae U H s->t U H Q->Ar (Az X.prog X.w) X.A (eval e X.env) (EP X Ae U Q) X.xe s
def PT (X:Cx)(e:B8)(t:TT):Prop:=
 ∀(Ae:List (Av×Obj)) (s:Aq) (U:St) (H:Hp) (Q:Bool->Hp->Prop),A4 X Ae U H s->t U H Q->Ar (Az X.prog X.w) X.A (PH e X.env (eval e X.env)) (TP X Ae U Q) X.xe s
def PW (X:Cx)(e:B8)(t:TT):Prop:=
 ∀whole (Ae:List (Av×Obj)) (s:Aq) (U:St) (H:Hp) (Q:Bool->Hp->Prop),A4 X Ae U H s->t U H Q->Ar (Az X.prog X.w) X.A (PH e X.env whole) (TP X Ae U Q) X.xe s
theorem PW.pt (h:PW X e t):PT X e t:=h _
def PA (X:Cx)(es:List B8)(t:TA):Prop:=
 ∀pos (Ae:List (Av×Obj)) (s:Aq) (U:St) (H:Hp) (Q:List V->Hp->Prop),A4 X Ae U H s->t U H Q->Ar (Az X.prog X.w) X.A (UT (Cb pos (Au es X.env))) (AP X Ae U Q) X.xe s
def PS (X:Cx)(st:DE)(t:TS):Prop:=
 ∀(Ae:List (Av×Obj)) (s:Aq) (U:St) (H:Hp) (D:NT),A4 X Ae U H s->t D U H->Ar (Az X.prog X.w) X.A (exec st X.env) (SP X Ae D) X.xe s
def K3 (X:Cx)(st:List DE)(t:TS):Prop:=
 ∀(Ae:List (Av×Obj)) (s:Aq) (U:St) (H:Hp) (D:NT),A4 X Ae U H s->t D U H->Ar (Az X.prog X.w) X.A (execs st X.env) (SP X Ae D) X.xe s
theorem Dl {α:Type}{t:Sem α}{Q Q':α->Aq->Prop}{M:Model}{A:Cu}{E:Ah->Aq->Prop}{s:Aq}(h:Ar M A t Q E s)(hQ:∀a s,Q a s->Q' a s):Ar M A t Q' E s:=BG h hQ λ_ _ x=>x
section
variable {X:Cx}
theorem bin {a b:B8}{ta tb:TE}(ha:PE X a ta)(hb:PE X b tb){Ae:List (Av×Obj)}{s:Aq}{U:St}{H:Hp}{R:V->V->Hp->Prop}(I:A4 X Ae U H s)(h:ta U H λx H1=>tb U H1 λy H2=>R x y H2)
  {α:Type} {Q:α->Aq->Prop} {f:Ah->Ah->Sem α}
  (hf:∀v u s2 x y H2,A4 X Ae U H2 s2->RelV x v->RelV y u->R x y H2->Ar (Az X.prog X.w) X.A (f v u) Q X.xe s2) :
  Ar (Az X.prog X.w) X.A (eval a X.env) (λv s₁=>Ar (Az X.prog X.w) X.A (eval b X.env) (λu s₂=>Ar (Az X.prog X.w) X.A (f v u) Q X.xe s₂) X.xe s₁) X.xe s:=by
 refine Dl (ha Ae s U H _ I h) λv s1 e=>e.el λx H1 I1 r1 q1=>?_;refine Dl (hb Ae s1 U H1 _ I1 q1) λu s2 e=>e.el λy H2 I2 r2 q2=>?_;exact hf v u s2 x y H2 I2 r1 r2 q2
def OM (i:Nat):TE:=λU H Q=>∃v,U[i]? = some (some v)/\Q v H
def tC (v:V):TE:=λ_ H Q=>Q v H
theorem ZP (hN:X.N[i]? = some x)(hv:UD X.env.scope x)(hd:(x == ("__debug__":Str))=false:=by decide)(hcd:(x == ("__classdict__":Str))=false:=by decide):PE X (.Name x pos) (OM i):=by
 intro Ae s U H Q I h;obtain⟨v,e,h⟩:=h;obtain⟨m,hn,hl⟩:=I.loc;obtain⟨u,r,l⟩:=hl i x v hN e hv;have fin:EP X Ae U Q u s:=⟨v,H,I,r,h⟩;rcases l with⟨hk,hm⟩|⟨hk,c,hc,hcell⟩
 .exact Ti (wpAny_loadName_local I.ok.kind hk hn hm fin) hd
 .rcases hk with hk|hk
  .exact Ti (wpAny_loadName_cell I.ok.kind hk hc hcell fin) hd
  .exact Ti (wpAny_loadName_free I.ok.kind hk hc hcell fin hcd) hd
theorem df {i j pos}:PE X (.Constant (.int i) j pos) (tC (.int i)):=λ_ _ _ H _ I h=>wpAny_Constant_int ⟨.int i,H,I.tok _,⟨_,rfl⟩,h⟩
theorem xX {b j pos}:PE X (.Constant (.bool b) j pos) (tC (.bl b)):=λ_ _ _ H _ I h=>Constant_bool ⟨.bl b,H,I,rfl,h⟩
theorem dg {j pos}:PE X (.Constant .none j pos) (tC .non):=λ_ _ _ H _ I h=>Constant_none ⟨.non,H,I,rfl,h⟩
theorem di {x j pos}:PE X (.Constant (.str x) j pos) (tC (.str x)):=λ_ _ _ H _ I h=>Calls.Constant_str ⟨.str x,H,I.tok _,⟨_,rfl⟩,h⟩
def Gl (X:Cx)(x:Str):Prop:=X.env.kindOf x=some .globalImplicit
theorem iK (I:A4 X Ae U H s)(hg:Gl X x)(hm:X.mg x=some u)(h:Q u s)
  (hd:(x == ("__debug__":Str))=false:=by decide):Ar (Az X.prog X.w) X.A (eval (.Name x pos) X.env) Q E s:=
 KQ I.ok.kind hg (Calls.loadGlobal_global (by rw[I.ok.glob];exact I.mod.glob.keeps I.bk) hm h) hd
theorem Qt (I:A4 X Ae U H s)(hg:Gl X x)(hm:X.mg x=none)(hv:EJ x=some u)(h:Q u s)
  (hn:x≠"__name__":=by decide) (hd:(x == ("__debug__":Str))=false:=by decide):Ar (Az X.prog X.w) X.A (eval (.Name x pos) X.env) Q E s:=by
 obtain⟨mb,h1,h2⟩:=I.mod.blt;exact KQ I.ok.kind hg (Calls.loadGlobal_builtin (by rw[I.ok.glob];exact I.mod.glob.keeps I.bk) hm (by rw[I.ok.blt];exact h1.keeps I.bk) ((h2 x hn).trans hv) h) hd
theorem rG (hg:Gl X x)(hm:X.mg x=some u)(r:RelV v u)(hd:(x == ("__debug__":Str))=false:=by decide):PE X (.Name x pos) (tC v):=
 λ_ _ _ H _ I h=>iK I hg hm ⟨v,H,I,r,h⟩ hd
variable {a b:B8}{ta tb:TE}{pos:Pos}
def tB (t:TE):TT:=λU H Q=>t U H λx H1=>∃c,x=.bl c/\Q c H1
theorem fg (h:PE X e t)(he:∀whole,PH e X.env whole=(do let v <- whole;Mu e.pos;GD [v] (truthy v)):=by intro _;rfl):PT X e (tB t):=by
 intro Ae s U H Q I hw;refine isTrue_plain (Dl (h Ae s U H _ I hw) λv s1 e=>e.el λx H1 I1 r1 q1=>?_) (he _);obtain⟨d,rfl,q⟩:=q1;cases r1;exact Er ⟨H1,I1,q⟩
variable {tA tB':TT}{C8:List B8}
def cW (t u:TT):TT:=λU H Q=>t U H λc H1=>if c=true then u U H1 Q else Q false H1
def xI (t u:TT):TT:=λU H Q=>t U H λc H1=>if c=true then Q true H1 else u U H1 Q
def cP (t:TT):TT:=λU H Q=>t U H λc H1=>Q (!c) H1
theorem me (ha:PT X a tA):PW X (.BoolOp .And [a] pos) tA:=by
 intro wh Ae s U H Q I h;refine isTrue_and (Dl (ha Ae s U H Q I h) λc s1 e=>?_);cases c with
 |true=>exact isTrue_and_nil e
 |false=>exact e
theorem fi (ha:PT X a tA):PW X (.BoolOp .Or [a] pos) tA:=by
 intro wh Ae s U H Q I h;refine isTrue_or (Dl (ha Ae s U H Q I h) λc s1 e=>?_);cases c with
 |false=>exact isTrue_or_nil e
 |true=>exact e
theorem fh (ha:PT X a tA)(hb:PW X (.BoolOp .And (b::C8) pos) tB'):PW X (.BoolOp .And (a::b::C8) pos) (cW tA tB'):=by
 intro wh Ae s U H Q I h;refine isTrue_and (Dl (ha Ae s U H _ I h) λc s1 e=>e.el λH1 I1 q1=>?_);cases c with
 |true=>exact hb wh Ae s1 U H1 Q I1 q1
 |false=>exact⟨H1,I1,q1⟩
theorem yE (ha:PT X a tA)(hb:PW X (.BoolOp .Or (b::C8) pos) tB'):PW X (.BoolOp .Or (a::b::C8) pos) (xI tA tB'):=by
 intro wh Ae s U H Q I h;refine isTrue_or (Dl (ha Ae s U H _ I h) λc s1 e=>e.el λH1 I1 q1=>?_);cases c with
 |true=>exact⟨H1,I1,q1⟩
 |false=>exact hb wh Ae s1 U H1 Q I1 q1
theorem ff (ha:PT X a tA):PT X (.UnaryOp .Not a pos) (cP tA):=by
 intro Ae s U H Q I h;exact isTrue_not (ha Ae s U H (λc H1=>Q (!c) H1) I h)
def W0 (ta tb:TE):TE:=λU H Q=>ta U H λx H1=>∃c,x=.bl c/\if c=true then tb U H1 Q else Q (.bl false) H1
def cN (ta tb:TE):TE:=λU H Q=>ta U H λx H1=>∃c,x=.bl c/\if c=true then Q (.bl true) H1 else tb U H1 Q
theorem dh {op}(h:PE X a t):PE X (.BoolOp op [a] pos) t:=λAe s U H Q I hw=>BoolOp_one (h Ae s U H Q I hw)
theorem g9 (ha:PE X a ta)(hb:PE X (.BoolOp .And (b::C8) pos) tb):PE X (.BoolOp .And (a::b::C8) pos) (W0 ta tb):=by
 intro Ae s U H Q I h;refine BoolOp_and (Dl (ha Ae s U H _ I h) λv s1 e=>e.el λx H1 I1 r1 q1=>?_);obtain⟨c,rfl,q1⟩:=q1;cases r1;refine Er ?_;cases c with
 |true=>exact hb Ae s1 U H1 Q I1 q1
 |false=>exact⟨.bl false,H1,I1,rfl,q1⟩
theorem yA (ha:PE X a ta)(hb:PE X (.BoolOp .Or (b::C8) pos) tb):PE X (.BoolOp .Or (a::b::C8) pos) (cN ta tb):=by
 intro Ae s U H Q I h;refine BoolOp_or (Dl (ha Ae s U H _ I h) λv s1 e=>e.el λx H1 I1 r1 q1=>?_);obtain⟨c,rfl,q1⟩:=q1;cases r1;refine Er ?_;cases c with
 |false=>exact hb Ae s1 U H1 Q I1 q1
 |true=>exact⟨.bl true,H1,I1,rfl,q1⟩
def xJ (t:TT)(ta tb:TE):TE:=λU H Q=>t U H λc H1=>if c=true then ta U H1 Q else tb U H1 Q
theorem qo (hc:PT X c tA)(ha:PE X a ta)(hb:PE X b tb):PE X (.IfExp c a b pos) (xJ tA ta tb):=by
 intro Ae s U H Q I h;refine wpAny_IfExp (Dl (hc Ae s U H _ I h) λd s1 e=>e.el λH1 I1 q1=>?_);cases d with
 |true=>exact ha Ae s1 U H1 Q I1 q1
 |false=>exact hb Ae s1 U H1 Q I1 q1
end
def F0 (K:Ac)(H:Hp)(a:Av)(xs:List V):Prop:=
 Rd H a (.lst xs) \/
  ∃o Bh n,K.lookup a=some o/\o.cls=.type "list"/\o.dict=none/\o.data=.seq Bh n/\Bh.size<=Am/\BF xs Bh.toList
def Lg (K:Ac)(H:Hp)(a:Av)(xs:List V):Prop:=
 Rd H a (.tup xs) \/
  ∃o Bh n,K.lookup a=some o/\o.cls=.type "tuple"/\o.data=.seq Bh n/\Bh.size<=Am/\BF xs Bh.toList
noncomputable def gC:Ah->Option V
 |.none=>some .non
 |.bool b=>some (.bl b)
 |.int i _=>some (.int i)
 |.str x _=>some (.str x)
 |.bytes b _=>some (.byt b)
 |.float b _=>some (.flt b)
 |.ref a=>some (.ref a)
 |.type n=>some (.ty n)
 |_=>none
theorem RelV.abs (r:RelV x u):gC u=some x:=by
 cases x with
 |non=>cases r;rfl
 |bl _=>cases r;rfl
 |int _=>obtain⟨t,rfl⟩:=r;rfl
 |str _=>obtain⟨t,rfl⟩:=r;rfl
 |byt _=>obtain⟨t,rfl⟩:=r;rfl
 |flt _=>obtain⟨t,rfl⟩:=r;rfl
 |ref _=>cases r;rfl
 |ty _=>cases r;rfl
theorem RelV.inj (r:RelV x u)(q:RelV y u):x=y:=A8 (r.abs.symm.trans q.abs)
theorem BF.inj:∀{xs ys:List V}{us:List Ah},BF xs us->BF ys us->xs=ys
 |_,_,_,.nil,.nil=>rfl
 |_,_,_,.cons r t,.cons r' t'=>by rw[r.inj r',BF.inj t t']
section
theorem F0.of {K:Ac}(h:H a=some (.lst xs)):F0 K H a xs:=.inl (.inl h)
theorem A4.list (I:A4 X Ae U H s)(h:F0 X.K H a xs):∃Bh,BF xs Bh/\PlainL s.heap a Bh.toArray/\xs.length<=Am:=by
 rcases h with h|⟨o,Bh,n,hk,hc,hd,hs,hz,r⟩
 .obtain⟨z,Bh,n,r,e⟩:=h.ok I.hok;exact⟨Bh,r,⟨_,n,e,rfl,rfl,rfl⟩,z⟩
 .refine⟨Bh.toList,r,⟨o,n,I.kIn a o hk,hc,hd,by simpa using hs⟩,?_⟩;have e:=r.length;simp only[Bt]at e;ext
theorem A4.tuple (I:A4 X Ae U H s)(h:Lg X.K H a xs):∃Bh,BF xs Bh/\IsTup s.heap a Bh.toArray/\xs.length<=Am:=by
 rcases h with h|⟨o,Bh,n,hk,hc,hs,hz,r⟩
 .obtain⟨z,Bh,r,p⟩:=h.ok I.hok;exact⟨Bh,r,p.tup,z⟩
 .refine⟨Bh.toList,r,⟨o,I.kIn a o hk,hc,n,by simpa using hs⟩,?_⟩;have e:=r.length;simp only[Bt]at e;ext
theorem A4.list_inj (I:A4 X Ae U H s)(h:F0 X.K H a xs)(h':F0 X.K H a ys):xs=ys:=by
 obtain⟨Bh,r,⟨o,n,e,_,_,d⟩,_⟩:=I.list h;obtain⟨its',r',⟨o',n',e',_,_,d'⟩,_⟩:=I.list h';rw[e]at e';cases e';rw[d]at d';injection d' with d1 _
 have:Bh=its':=by simpa using congrArg TC d1
 subst this;exact r.inj r'
theorem A4.tuple_inj (I:A4 X Ae U H s)(h:Lg X.K H a xs)(h':Lg X.K H a ys):xs=ys:=by
 obtain⟨Bh,r,⟨o,e,_,n,d⟩,_⟩:=I.tuple h;obtain⟨its',r',⟨o',e',_,n',d'⟩,_⟩:=I.tuple h';rw[e]at e';cases e';rw[d]at d';injection d' with d1 _
 have:Bh=its':=by simpa using congrArg TC d1
 subst this;exact r.inj r'
end
noncomputable abbrev Cx.wish (X:Cx)(E:Ah->Aq->Prop):Cx:={X with xe:=E}
noncomputable abbrev Cx.nox (X:Cx):Cx:=X.wish λ_ _=>False
theorem Cx.Ok.wish {X:Cx}(ok:X.Ok)(E:Ah->Aq->Prop):(X.wish E).Ok:=
 ⟨ok.mod,ok.kind,ok.glob,ok.blt,ok.above,ok.inj,ok.has,ok.cab,ok.hd,ok.frames,ok.stk,ok.exf,ok.bs,ok.bsz,ok.noex,ok.exfs,ok.funs,ok.frf⟩
theorem Cx.Ok.unwish {X:Cx}(ok:(X.wish E).Ok):X.Ok:=
 ⟨ok.mod,ok.kind,ok.glob,ok.blt,ok.above,ok.inj,ok.has,ok.cab,ok.hd,ok.frames,ok.stk,ok.exf,ok.bs,ok.bsz,ok.noex,ok.exfs,ok.funs,ok.frf⟩
section
variable {X:Cx}     {E:Ah->Aq->Prop}
theorem A4.wish (I:A4 X Ae U H s)(E:Ah->Aq->Prop):A4 (X.wish E) Ae U H s:=⟨I.ok.wish E,I.os,I.bare,I.base,I.loc,I.cell,I.free,I.freeC,I.pin,I.hok,I.len,I.fzd⟩
theorem A4.unwish (I:A4 (X.wish E) Ae U H s):A4 X Ae U H s:=⟨I.ok.unwish,I.os,I.bare,I.base,I.loc,I.cell,I.free,I.freeC,I.pin,I.hok,I.len,I.fzd⟩
theorem SP.unwish (h:SP (X.wish E) Ae D f s'):SP X Ae D f s':=by
 cases f with
 |next=>obtain⟨U',H',I,q⟩:=h;exact⟨U',H',I.unwish,q⟩
 |brk=>obtain⟨U',H',I,q⟩:=h;exact⟨U',H',I.unwish,q⟩
 |cont=>obtain⟨U',H',I,q⟩:=h;exact⟨U',H',I.unwish,q⟩
 |ret u=>obtain⟨v,U',H',I,r,q⟩:=h;exact⟨v,U',H',I.unwish,r,q⟩
theorem K3.nox {st:List DE}(h:K3 X.nox st t):K3 X st t:=λAe s U H D I hw=>
 BG (h Ae s U H D (I.wish _) hw) (λ_ _ q=>q.unwish) λ_ _ z=>C7 z
end
section
variable {X:Cx}{st:DE}{C8:List DE}{t:TS}
def WT:TS:=λD U H=>D.nx U H
def cL (t u:TS):TS:=λD U H=>t {D with nx:=u D} U H
theorem ly:K3 X [] WT:=λ_ _ U H _ I h=>ID ⟨U,H,I,h⟩
theorem sM (h1:PS X st t)(h2:K3 X C8 u):K3 X (st::C8) (cL t u):=by
 intro Ae s U H D I h;refine VY (Dl (h1 Ae s U H {D with nx:=u D} I h) λf s1 q=>?_);cases f with
 |next=>obtain⟨U',H',I',q⟩:=q;exact h2 Ae s1 U' H' D I' q
 |ret v=>exact q
 |brk=>exact q
 |cont=>exact q
theorem lz (h1:PS X st t):K3 X [st] t:=by
 intro Ae s U H D I h;refine VY (Dl (h1 Ae s U H D I h) λf s1 q=>?_);cases f with
 |next=>exact ID q
 |ret v=>exact q
 |brk=>exact q
 |cont=>exact q
theorem A4.quiet (I:A4 X Ae U H s):interactive X.env=false:=by simp[interactive,I.ok.kind]
def WW (te:TE):TS:=λD U H=>te U H λ_ H1=>D.nx U H1
theorem lx (he:PE X e te)(hs:De e none pos.line X.env=pure false:=by rfl):PS X (.Expr e pos) (WW te):=by
 intro Ae s U H D I h;exact wpAny_Expr_any (Dl (he Ae s U H _ I h) λv s1 e=>e.el λx H1 I1 r1 q1=>⟨U,H1,I1,q1⟩) I.quiet hs
def cM (te:TE):TS:=λD U H=>te U H D.rt
theorem fc (he:PE X e te):PS X (.Return (some e) pos) (cM te):=by
 intro Ae s U H D I h;exact wpAny_Return_some (Dl (he Ae s U H _ I h) λv s1 e=>e.el λx H1 I1 r1 q1=>⟨x,U,H1,I1,r1,q1⟩)
def cR (c:TT)(t u:TS):TS:=λD U H=>c U H λb H1=>if b=true then t D U H1 else u D U H1
theorem yD (hc:PT X c tc)(ha:K3 X a t)(hb:K3 X b u):PS X (.If c a b pos) (cR tc t u):=by
 intro Ae s U H D I h;refine wpAny_If (Dl (hc Ae s U H _ I h) λd s1 e=>e.el λH1 I1 q1=>?_);cases d with
 |true=>exact ha Ae s1 U H1 D I1 q1
 |false=>exact hb Ae s1 U H1 D I1 q1
end
abbrev TG:=V->St->Hp->(St->Hp->Prop)->Prop
abbrev VR:=List V->St->Hp->(St->Hp->Prop)->Prop
def PG (X:Cx)(target:B8)(t:TG):Prop:=
 ∀(Ae:List (Av×Obj)) (s:Aq) (U:St) (H:Hp) (v:V) (u:Ah) (Q:St->Hp->Prop),A4 X Ae U H s->RelV v u->t v U H Q ->
  Ar (Az X.prog X.w) X.A (Lm target X.env u) (λ_ s'=>∃U' H',A4 X Ae U' H' s'/\Q U' H') X.xe s
def Te (X:Cx)(ts:List B8)(t:VR):Prop:=
 ∀(Ae:List (Av×Obj)) (s:Aq) (U:St) (H:Hp) (vs:List V) (us:List Ah) (Q:St->Hp->Prop),A4 X Ae U H s->BF vs us->t vs U H Q ->
  Ar (Az X.prog X.w) X.A (assignInOrder ((CQ ts X.env).map (·.2)) us) (λ_ s'=>∃U' H',A4 X Ae U' H' s'/\Q U' H') X.xe s
section
def I8 (i:Nat):TG:=λv U H Q=>Q (U.set i (some v)) H
theorem LD (hN:X.N.Nodup)(hi:X.N[i]? = some x)(hx:UK X.env.scope x)(hf:X.fn x=true\/X.env.scope.names.lookup x=some .local:=by first | exact .inl rfl | exact .inr rfl | assumption):PG X (.Name x pos) (I8 i):=by
 intro Ae s U H v u Q I r h;exact UR (rS I hN hi hx r (λs' I'=>⟨_,H,I',h⟩) hf)
def XQ:VR:=λvs U H Q=>vs=[]/\Q U H
def S1 (t:TG)(u:VR):VR:=λvs U H Q=>∃v r,vs=v::r/\t v U H λU' H'=>u r U' H' Q
theorem Ur:Te X [] XQ:=by
 intro Ae s U H vs us Q I r h;obtain⟨e,h⟩:=h;subst e;cases r;exact assignInOrder_nil ⟨U,H,I,h⟩
theorem Mq (h1:PG X e t)(h2:Te X es u)
  (hs:(CQ (e::es) X.env).map (·.2)=Lm e X.env::(CQ es X.env).map (·.2):=by rfl):Te X (e::es) (S1 t u):=by
 intro Ae s U H vs us Q I r h;obtain⟨v,vr,e1,h⟩:=h;subst e1;cases r with
 |cons r rr=>rw[hs];refine assignInOrder_cons (Dl (h1 Ae s U H _ _ _ I r h) λ_ s1 ⟨U1,H1,I1,q1⟩=>?_);exact h2 Ae s1 U1 H1 _ _ Q I1 rr q1
def Qj (K:Ac)(n:Nat)(t:VR):TG:=λv U H Q=>∃a xs,v=.ref a/\Lg K H a xs/\xs.length=n/\t xs U H Q
theorem oV (hc:X.calm=true)(h:Te X es t)
  (hn:(CQ es X.env).length=n:=by rfl) (hst:(CQ es X.env).findIdx? (·.1)=none:=by rfl):PG X (.Tuple es k pos) (Qj X.K n t):=by
 intro Ae s U H v u Q I r hw;obtain⟨a,xs,e1,hq,hl,hw⟩:=hw;subst e1;cases r;obtain⟨Bh,rv,ht,hz⟩:=I.tuple hq;refine assign_Tuple_tuple (I.ok.hd hc) ht (by simp[hn,<- hl,rv.length]) hst λh' hx=>?_;have I1:A4 X Ae U H {s with heap:=h' }:=I.kept λb o e=>hx b o (A5 (Ap e)) e;exact h Ae _ U H xs _ Q I1 (by simpa using rv) hw
def Ma (te:TE)(g:TG):TS:=λD U H=>te U H λx H1=>g x U H1 D.nx
theorem e7 (he:PE X e te)(hg:PG X tg g)(hs:swapsWithSole [tg] e pos.line X.env=pure false:=by rfl)(hw:swappedStores [tg] e X.env=pure none:=by rfl)
  (h1:(CQ [tg] X.env).map (·.2)=[Lm tg X.env]:=by rfl):PS X (.Assign [tg] e pos) (Ma te g):=by
 intro Ae s U H D I h;refine wpAny_Assign_stores (Dl (he Ae s U H _ I h) λv s1 e=>e.el λx H1 I1 r1 q1=>?_) hs hw;rw[h1];exact Dl (hg Ae s1 U H1 x v _ I1 r1 q1) λ_ s2 q=>q
theorem fe (hN:X.N.Nodup)(hi:X.N[i]? = some x)(hx:UK X.env.scope x)(he:PE X e te)(hs:De e (some (.Name x pos')) pos.line X.env=pure false:=by rfl)(hf:X.fn x=true\/X.env.scope.names.lookup x=some .local:=by first | exact .inl rfl | exact .inr rfl | assumption) :
  PS X (.Assign [.Name x pos'] e pos) (Ma te (I8 i)):=by
 intro Ae s U H D I h;refine wpAny_Assign_Name (Dl (he Ae s U H _ I h) λv s1 e=>e.el λy H1 I1 r1 q1=>?_) hs;exact rS I1 hN hi hx r1 (λs2 I2=>⟨_,H1,I2,q1⟩) hf
end
section
def TJ (c:TT)(tb:TS):TS:=λD U H=>∃W:Nat->St->Hp->Prop,(∃m,W m U H)/\∀m U H,W m U H ->
 c U H λb H1=>if b=true then∃N:St->Hp->Prop,(∀U' H',N U' H'->∃m',m' < m/\W m' U' H')/\tb {D with nx:=N,ct:=N,bk:=D.nx} U H1 else D.nx U H1
theorem qu (hp:Pc (Az X.prog X.w) X.A X.env X.xe)(hc:PT X c tc)(hb:K3 X body tb):PS X (.While c body [] pos) (TJ tc tb):=by
 intro Ae s U H D I h;obtain⟨W,⟨m0,w0⟩,turn⟩:=h;refine wpAny_While (codeAny_whileLoop (λn s'=>∃U' H',A4 X Ae U' H' s'/\W n U' H') ?_ m0 ⟨U,H,I,w0⟩);rintro n s1 ⟨U1,H1,I1,w1⟩;refine Ea hp (Dl (hc Ae s1 U1 H1 _ I1 (turn n U1 H1 w1)) λb s2 e=>e.el λH2 I2 q2=>?_);cases b with
 |true=>
  obtain⟨N,hN,q2⟩:=q2;rw[if_pos rfl];refine Ea hp (Dl (hb Ae s2 U1 H2 _ I2 q2) λf s3 q3=>?_);cases f with
  |next=>obtain⟨U3,H3,I3,n3⟩:=q3;obtain⟨m',hm,w3⟩:=hN U3 H3 n3;exact⟨m',hm,U3,H3,I3,w3⟩
  |cont=>obtain⟨U3,H3,I3,n3⟩:=q3;obtain⟨m',hm,w3⟩:=hN U3 H3 n3;exact⟨m',hm,U3,H3,I3,w3⟩
  |brk=>exact q3
  |ret v=>exact q3
 |false=>rw[if_neg Aj];exact ID ⟨U1,H2,I2,q2⟩
end
structure It where
 go:Nat->Hp->Prop
 yld:Nat->Hp->V->Hp->Prop
 stop:Nat->Hp->Prop
def Jb (X:Cx)(Ae:List (Av×Obj))(H:Hp)(b:Av):Prop:=
 H b=none/\b≠X.env.locals/\b∉X.fs/\(b∈X.ex\/X.s₀.heap.objs.size<=b)/\(∀x c,X.env.cells.lookup x=some c->c≠b)/\∀p∈X.pn++Ae,p.1≠b
theorem A4.fpOk (I:A4 X Ae U H s)(hb:s.heap.objs.size<=b)(hn:H' b=none):Jb X Ae H' b:=by
 refine⟨hn,EW (Bm I.lt hb),I.nofs hb,.inr (A7 I.sz hb),λx c e z=>?_,λp hp z=>?_⟩
 .obtain⟨v,q⟩:=I.cell x c e;exact absurd (Bm q.lt (by rw[z];exact hb)) (EI _)
 .exact absurd (Bm (Ap (I.pin p hp).1) (by rw[z];exact hb)) (EI _)
structure LF (P:Bp)(w:BK)(K:Ac)(F:List (Av×Obj×HO))(tg:B8)(J:It)(fp:List Av)(it:Av)(tn:Nat->CH->Prop):Prop where
 mem:it∈fp
 obj:∀i h,tn i h->∀b∈fp,∃o,h.get? b=some o/\∀v,o.data≠.cell v
 keep:∀i h h',tn i h->(∀b∈fp,∀o,h.get? b=some o->h'.get? b=some o)->tn i h'
 item:∀(X:Cx),X.prog=P->X.w=w->X.K=K->X.fz=F->X.calm=true->∀(i:Nat) (Ae:List (Av×Obj)) (s:Aq) (U:St) (H:Hp) (E:Ah->Aq->Prop),A4 X Ae U H s->(∀b∈fp,Jb X Ae H b)->tn i s.heap->J.go i H ->
  Ar (Az P w) X.A (Ip (.ref it)) (λr s1=>∃ u,r=some u /\
   Ar (Az P w) X.A (IF tg (.ref it) u) (λ_ s2=>∃ x H',A4 X Ae U H' s2/\RelV x u/\J.yld i H x H'/\tn (i+1) s2.heap/\∀ b∈fp,H' b=none) E s1) E s
 done:∀(X:Cx),X.prog=P->X.w=w->X.K=K->X.fz=F->X.calm=true->∀(i:Nat) (Ae:List (Av×Obj)) (s:Aq) (U:St) (H:Hp) (E:Ah->Aq->Prop),A4 X Ae U H s->(∀b∈fp,Jb X Ae H b)->tn i s.heap->J.stop i H ->
  Ar (Az P w) X.A (Ip (.ref it)) (λr s1=>r=none/\A4 X Ae U H s1) E s
 self:∀(A:Cu) (i:Nat) (s:Aq) (Q:Ah->Aq->Prop) (E:Ah->Aq->Prop),tn i s.heap->Q (.ref it) s->Ar (Az P w) A (Tl (.ref it)) Q E s
abbrev TI:=St->Hp->(It->Hp->Prop)->Prop
def YG (X:Cx)(Ae:List (Av×Obj))(U:St)(tg:B8)(R:It->Hp->Prop)(itv:Ah)(s2:Aq):Prop:=
 ∃it fp tn J H',itv=.ref it/\A4 X Ae U H' s2/\LF X.prog X.w X.K X.fz tg J fp it tn/\tn 0 s2.heap/\(∀b∈fp,Jb X Ae H' b)/\R J H'
def PI (X:Cx)(tg iter:B8)(wi:TI):Prop:=
 ∀(Ae:List (Av×Obj)) (s:Aq) (U:St) (H:Hp) (R:It->Hp->Prop),A4 X Ae U H s->wi U H R ->
  Ar (Az X.prog X.w) X.A (eval iter X.env) (λv s1=>Ar (Az X.prog X.w) X.A (Tl v) (YG X Ae U tg R) X.xe s1) X.xe s
theorem Vw (ho:s.heap.get? it=some o)(hc:o.cls=.type n)(hd:o.data=.fields vs)
    (hn:["enumerate", "zip", "dict_itemiterator", "dict_reverseitemiterator", "odict_iterator", "itertools.zip_longest", "itertools.pairwise"].contains n=false) (hQ:Q () s):Ar M A (IF tg (.ref it) u) Q E s:=by
  unfold IF
  cases tg<;>first
    |exact Ad hQ
    | (cases u<;>first
        |exact Ad hQ
        | (refine Aa (wpAny_load ho ?_)
           rw [hc,hd];show Ar M A (if (["enumerate", "zip", "dict_itemiterator", "dict_reverseitemiterator", "odict_iterator", "itertools.zip_longest", "itertools.pairwise"].contains n && vs[0]? == some (JX _))=true then _ else _) Q E s;rw [if_neg (by intro h;rw [hn,Gh] at h;cases h)];exact Ad hQ))
noncomputable def xC (K:Ac)(a:Av):It:=
 ⟨λi H=>∃xs x,F0 K H a xs/\xs[i]? = some x,λi H x H'=>H'=H/\∀xs,F0 K H a xs->xs[i]? = some x,λi H=>∃xs,F0 K H a xs/\xs.length<=i⟩
noncomputable def xA (K:Ac)(a:Av):It:=
 ⟨λi H=>∃xs x,Lg K H a xs/\xs[i]? = some x,λi H x H'=>H'=H/\∀xs,Lg K H a xs->xs[i]? = some x,λi H=>∃xs,Lg K H a xs/\xs.length<=i⟩
noncomputable def bM (lo:Int)(n:Nat):It:=⟨λi _=>i<n,λi H x H'=>H'=H/\x=.int (lo+i),λi _=>n<=i⟩
theorem vy {K:Ac}(a it:Av):LF P w K F tg (xC K a) [it] it (λi h=>h.IsListIter it a i) where
 mem:=by simp
 obj:=λi h st b hb=>by
  have e:b=it:=by simpa using hb
  subst e;obtain⟨o,e,c,d⟩:=st;exact⟨o,e,λv z=>by rw[d]at z;cases z⟩
 keep:=λi h h' st k=>st.at λo e=>k it (by simp) o e
 item:=by
  intro X hP hw hK hF hc i Ae s U H E I hf st hg;subst hP hw hK;obtain⟨xs,x,hq,hx⟩:=hg;obtain⟨Bh,rv,p,hz⟩:=I.list hq;obtain⟨u,hu,ru⟩:=rv.get hx;obtain⟨f0,f1,f2,f3,f4,f5⟩:=hf it (by simp);refine Pw st p.isList (by simpa using hu) λh' st' sb=>?_;have I1:A4 X Ae U H {s with heap:=h' }:=I.turned (λb o hb e=>(sb.2 b hb).trans e) f0 f1 f3 f4 f5;obtain⟨o,e,c,d⟩:=id st';exact⟨u,rfl,Vw e c d (by decide) ⟨x,H,I1,ru,⟨rfl,λys hy=>by rw[I.list_inj hy hq];exact hx⟩,st',λb hb=>(hf b hb).1⟩⟩
 done:=by
  intro X hP hw hK hF hc i Ae s U H E I hf st hg;subst hP hw hK;obtain⟨xs,hq,hx⟩:=hg;obtain⟨Bh,rv,p,hz⟩:=I.list hq;obtain⟨f0,f1,f2,f3,f4,f5⟩:=hf it (by simp);have hl:=rv.length;exact QI (I.ok.hd hc) st p.isList (by simp;ext) λh' eb=>⟨rfl,I.turned (λb o hb e=>eb b o hb e) f0 f1 f3 f4 f5⟩
 self:=λ_ _ _ _ _ st h=>wpAny_pyIter_listiter st h
theorem xb {K:Ac}(a it:Av):LF P w K F tg (xA K a) [it] it (λi h=>h.IsTupleIter it a i) where
 mem:=by simp
 obj:=λi h st b hb=>by
  have e:b=it:=by simpa using hb
  subst e;obtain⟨o,e,c,d⟩:=st;exact⟨o,e,λv z=>by rw[d]at z;cases z⟩
 keep:=λi h h' st k=>st.at λo e=>k it (by simp) o e
 item:=by
  intro X hP hw hK hF hc i Ae s U H E I hf st hg;subst hP hw hK;obtain⟨xs,x,hq,hx⟩:=hg;obtain⟨Bh,rv,p,hz⟩:=I.tuple hq;obtain⟨u,hu,ru⟩:=rv.get hx;obtain⟨f0,f1,f2,f3,f4,f5⟩:=hf it (by simp);refine wpAny_pyNext_tuple_item st (show s.heap.IsTuple a Bh.toArray from p) (by simpa using hu) λh' st' sb=>?_;have I1:A4 X Ae U H {s with heap:=h' }:=I.turned (λb o hb e=>(sb.2 b hb).trans e) f0 f1 f3 f4 f5;obtain⟨o,e,c,d⟩:=id st';exact⟨u,rfl,Vw e c d (by decide) ⟨x,H,I1,ru,⟨rfl,λys hy=>by rw[I.tuple_inj hy hq];exact hx⟩,st',λb hb=>(hf b hb).1⟩⟩
 done:=by
  intro X hP hw hK hF hc i Ae s U H E I hf st hg;subst hP hw hK;obtain⟨xs,hq,hx⟩:=hg;obtain⟨Bh,rv,p,hz⟩:=I.tuple hq;obtain⟨f0,f1,f2,f3,f4,f5⟩:=hf it (by simp);have hl:=rv.length;exact wpAny_pyNext_tuple_end (I.ok.hd hc) st (show s.heap.IsTuple a Bh.toArray from p) (by simp;ext) λh' eb=>⟨rfl,I.turned (λb o hb e=>eb b o hb e) f0 f1 f3 f4 f5⟩
 self:=λ_ _ _ _ _ st h=>wpAny_pyIter_tupleiter st h
theorem xa {K:Ac}(it:Av)(lo:Int)(n:Nat):LF P w K F tg (bM lo n) [it] it (λi h=>LV h it (lo+(i:Nat)*1) ((n:Int)-(i:Nat)) 1) where
 mem:=by simp
 obj:=λi h st b hb=>by
  have e:b=it:=by simpa using hb
  subst e
  exact ⟨_,st,λv z=>by
   have z':=z;cases z'⟩
 keep:=λi h h' st k=>k it (by simp) _ st
 item:=by
  intro X hP hw hK hF hc i Ae s U H E I hf st hg;subst hP hw hK;obtain⟨f0,f1,f2,f3,f4,f5⟩:=hf it (by simp);have W:=UY (prog:=X.prog) (w:=X.w) (I.ok.hd hc) it lo 1 n;refine W.item i s _ _ hg st λv h' tk hv st' kk=>?_;obtain⟨t,rfl⟩:=hv;have I1:A4 X Ae U H {s with heap:=h',toks:=tk}:=I.turned (λb o hb e=>kk b o (by simpa using hb) e) f0 f1 f3 f4 f5;refine⟨_,rfl,Vw (s:={s with heap:=h',toks:=tk}) (n:="range_iterator") st' rfl rfl (by decide) ⟨.int (lo+i),H,I1,⟨t,?_⟩,⟨rfl,rfl⟩,st',λb hb=>(hf b hb).1⟩⟩;rw[Ze]
 done:=by
  intro X hP hw hK hF hc i Ae s U H E I hf st hg;subst hP hw hK;obtain⟨f0,f1,f2,f3,f4,f5⟩:=hf it (by simp);exact Pu (I.ok.hd hc) st (by have:n<=i:=hg;ext) λh' eb=>⟨rfl,I.turned (t':=s.toks) (λb o hb e=>eb b o hb e) f0 f1 f3 f4 f5⟩
 self:=λ_ _ _ _ _ st h=>Px st h
section
def XM (K:Ac)(tl:TE):TI:=λU H R=>tl U H λx H1=>∃a,x=.ref a/\(∃xs,F0 K H1 a xs)/\R (xC K a) H1
def fW (K:Ac)(tl:TE):TI:=λU H R=>tl U H λx H1=>∃a,x=.ref a/\(∃xs,Lg K H1 a xs)/\R (xA K a) H1
theorem lh {l:B8}{tl:TE}(hl:PE X l tl):PI X tg l (XM X.K tl):=by
 intro Ae s U H R I h;refine Dl (hl Ae s U H _ I h) λv s1 e=>e.el λx H1 I1 r1 q1=>?_;obtain⟨a,e,⟨xs,hq⟩,q⟩:=q1;subst e;cases r1;obtain⟨Bh,rv,p,hz⟩:=I1.list hq;refine Hr p.isList ?_;refine⟨s1.heap.objs.size,[s1.heap.objs.size],_,_,H1,rfl,I1.kept λb o e=>Ag _ e,vy a _,⟨_,Ax _ rfl,rfl,rfl⟩,λb hb=>?_,q⟩;have e:b=s1.heap.objs.size:=by simpa using hb
 subst e;exact I1.fpOk (AH _) (I1.hok.fresh (AH _))
theorem dr {l:B8}{tl:TE}(hl:PE X l tl):PI X tg l (fW X.K tl):=by
 intro Ae s U H R I h;refine Dl (hl Ae s U H _ I h) λv s1 e=>e.el λx H1 I1 r1 q1=>?_;obtain⟨a,e,⟨xs,hq⟩,q⟩:=q1;subst e;cases r1;obtain⟨Bh,rv,p,hz⟩:=I1.tuple hq;refine wpAny_pyIter_tuple (show s1.heap.IsTuple a Bh.toArray from p) ?_;refine⟨s1.heap.objs.size,[s1.heap.objs.size],_,_,H1,rfl,I1.kept λb o e=>Ag _ e,xb a _,⟨_,Ax _ rfl,rfl,rfl⟩,λb hb=>?_,q⟩;have e:b=s1.heap.objs.size:=by simpa using hb
 subst e;exact I1.fpOk (AH _) (I1.hok.fresh (AH _))
theorem P5 {lo hi:Int}(I:A4 X Ae U H s)(h1:-(2^62)<=lo)(h2:lo<2^62)(h3:-(2^62)<=hi)(h4:hi<2^62)
  (q:R (bM lo (hi-lo).toNat) H):Ar (Az X.prog X.w) X.A (Tl (.ref s.heap.objs.size)) (YG X Ae U tg R) E {s with heap:=s.heap.push {cls:=.type "range",data:=.fields #[.int lo t,.int hi u,.int 1 v]},toks:=tk}:=by
 refine Tg (Sl ..) (small_one h1 h2 h3 h4) ?_;have I1:A4 X Ae U H {s with heap:=s.heap.push {cls:=.type "range",data:=.fields #[.int lo t,.int hi u,.int 1 v]},toks:=tk}:=I.kept λb o e=>Ag _ e
 refine ⟨(s.heap.push { cls:=.type "range",data:=.fields #[.int lo t,.int hi u,.int 1 v] }).objs.size,[(s.heap.push { cls:=.type "range",data:=.fields #[.int lo t,.int hi u,.int 1 v] }).objs.size],_,_,H,rfl,
  I1.kept λb o e=>Ag _ e,xa _ lo (hi-lo).toNat,?_,λb hb=>?_,q⟩
 .have e1:lo+((0:Nat):Int)*1=lo:=by simp
  have e2:(((hi-lo).toNat:Nat):Int)-((0:Nat):Int)=Ek lo hi 1:=by rw[rangeSize_one];split<;>ext
  show LV _ _ (lo+((0:Nat):Int)*1) ((((hi-lo).toNat:Nat):Int)-((0:Nat):Int)) 1;rw[e1,e2];exact Ax _ rfl
 .have e:b=(s.heap.push {cls:=.type "range",data:=.fields #[.int lo t,.int hi u,.int 1 v]}).objs.size:=by simpa using hb
  subst e;exact I1.fpOk (AH _) (I1.hok.fresh (AH _))
def XJ (ta:TA):TI:=λU H R=>ta U H λvs H1=>∃j,vs=[.int j]/\-(2^62)<=j/\j<2^62/\R (bM 0 j.toNat) H1
theorem vw {a:B8}(hg:Gl X "range")(hm:X.mg "range" = none)(ha:PA X [a] ta)(hs:Au [a] X.env=[(false,eval a X.env)]:=by rfl):PI X tg (.Call (.Name "range" p) [a] [] pos) (XJ ta):=by
 intro Ae s U H R I h;refine Call_ (Qt I hg hm boot_range (Bz (Dl (ha pos Ae s U H _ I h) λus s1 e=>e.el λvs H1 I1 r1 q1=>?_) hs rfl));obtain⟨j,e,q1,q2,q⟩:=q1;subst e;cases r1 with
 |cons r rr=>cases rr;obtain⟨t,rfl⟩:=r;exact call_range_1 (P5 I1 (by ext) (by ext) q1 q2 (by simpa using q))
def cS (wi:TI)(g:TG)(tb:TS):TS:=λD U H=>wi U H λJ H1=>∃W:Nat->Nat->St->Hp->Prop,(∃m,W 0 m U H1)/\∀i m U H,W i m U H ->
 (J.stop i H/\D.nx U H)\/(J.go i H/\∃N:St->Hp->Prop,(∀U' H',N U' H'->∃m',m' < m/\W (i+1) m' U' H')/\∀x H',J.yld i H x H'->g x U H' λU2 H2=>tb {D with nx:=N,ct:=N,bk:=D.nx} U2 H2)
noncomputable def Iw (fp:List Av)(h:CH):List (Av×Obj):=fp.filterMap λb=>(h.get? b).map λo=>(b,o)
theorem aR (hb:b∈fp)(e:h.get? b=some o):(b,o)∈Iw fp h:=CL.mpr ⟨b,hb,by rw[e];rfl⟩
theorem uE (hp:p∈Iw fp h):p.1∈fp/\h.get? p.1=some p.2:=by
 obtain⟨b,hb,e⟩:=CL.mp hp;cases q:h.get? b with
 |none=>rw[q]at e;cases e
 |some o=>rw[q]at e;have e':=A8 e;subst e';exact⟨hb,q⟩
theorem A4.pinned (I:A4 X Ae U H s)(hf:∀b∈fp,Jb X Ae H b)(ho:∀b∈fp,∃o,s.heap.get? b=some o/\∀v,o.data≠.cell v):A4 X (Ae++Iw fp s.heap) U H s:=
 I.pins_of λp hp=>(AY.mp hp).elim (λz=>I.pin p (AS _ z)) λz=>by
  obtain⟨hb,e⟩:=uE z;obtain⟨f0,f1,f2,_⟩:=hf p.1 hb;obtain⟨o,e',d⟩:=ho p.1 hb;rw[e]at e';cases e';exact⟨e,f0,f1,f2,d⟩
theorem A4.unpinned (I:A4 X (Ae++pl) U H s):A4 X Ae U H s:=I.pins_of λp hp=>I.pin p (AS _ (CK _ hp))
theorem fb (hp:Pc (Az X.prog X.w) X.A X.env X.xe)(hc:X.calm=true)(hi:PI X tg iter wi)(hg:PG X tg g)(hb:K3 X body tb)
  (hs:∀x,Ba iter X.env x=pure x:=by intro _;rfl):PS X (.For tg iter body [] pos) (cS wi g tb):=by
 intro Ae s U H D I h;refine wpAny_For (Dl (hi Ae s U H _ I h) λv s1 h1=>Dl h1 λitv s2 h2=>?_) hs;obtain⟨it,fp,tn,J,H2,e,I2,T,st2,f2,W,⟨m0,w0⟩,turn⟩:_:=h2;subst e;have stat:∀{H':Hp},(∀b∈fp,H' b=none)->∀b∈fp,Jb X Ae H' b:=λhn b hb=>⟨hn b hb,(f2 b hb).2⟩;refine codeAny_forLoop_any (λn s'=>∃i U' H',A4 X Ae U' H' s'/\tn i s'.heap/\(∀b∈fp,H' b=none)/\W i n U' H') ?_ m0 ⟨0,U,H2,I2,st2,λb hb=>(f2 b hb).1,w0⟩;intro n s3 hI';refine An λG' kk'=>?_;obtain⟨i,U3,H3,I3,st3,fr3,w3⟩:=hI';refine kk' ?_;clear kk';rcases turn i n U3 H3 w3 with⟨stop,qn⟩|⟨go,N,hN,step⟩
 .refine Ea hp (Dl (T.done X rfl rfl rfl rfl hc i Ae s3 U3 H3 X.xe I3 (stat fr3) st3 stop) λr s4 ⟨hr,I4⟩=>?_);subst hr;exact ID ⟨U3,H3,I4,qn⟩
 .refine Ea hp (Dl (T.item X rfl rfl rfl rfl hc i Ae s3 U3 H3 X.xe I3 (stat fr3) st3 go) λr s4 ⟨u,hr,h4⟩=>?_);subst hr;refine Ea hp (Dl h4 λ_ s5 ⟨x,H5,I5,r5,y5,st5,fr5⟩=>?_);have I5':=I5.pinned (stat fr5) (T.obj _ _ st5);refine Ea hp (Dl (hg _ s5 U3 H5 x u _ I5' r5 (step x H5 y5)) λ_ s6 ⟨U6,H6,I6,q6⟩=>?_);refine Ea hp (Dl (hb _ s6 U6 H6 _ I6 q6) λf s7 q7=>?_)
  have Nb:∀{U7:St} {H7:Hp},A4 X (Ae++Iw fp s5.heap) U7 H7 s7->N U7 H7->∃m,m<n/\∃i U' H',A4 X Ae U' H' s7/\tn i s7.heap/\(∀b∈fp,H' b=none)/\W i m U' H':=λ{U7 H7} I7 n7=>by
   obtain⟨m',hm,w7⟩:=hN U7 H7 n7;refine⟨m',hm,i+1,U7,H7,I7.unpinned,T.keep _ _ _ st5 λb hb o e=>(I7.pin (b,o) (AS _ (AS _ (aR hb e)))).1,λb hb=>?_,w7⟩;obtain⟨o,e,d⟩:=T.obj _ _ st5 b hb;exact(I7.pin (b,o) (AS _ (AS _ (aR hb e)))).2.1
  cases f with
  |next=>obtain⟨U7,H7,I7,n7⟩:=q7;exact Nb I7 n7
  |cont=>obtain⟨U7,H7,I7,n7⟩:=q7;exact Nb I7 n7
  |brk=>obtain⟨U7,H7,I7,q7⟩:=q7;exact⟨U7,H7,I7.unpinned,q7⟩
  |ret v=>obtain⟨x7,U7,H7,I7,r7,q7⟩:=q7;exact⟨x7,U7,H7,I7.unpinned,r7,q7⟩
end
abbrev R2:=V->V->Hp->VK->Prop
def FS (X:Cx)(f:Ah->Ah->Sem Ah)(r:R2):Prop:=
 ∀(Ae:List (Av×Obj)) (s:Aq) (U:St) (H:Hp) (x y:V) (v u:Ah) (Q:VK),A4 X Ae U H s->RelV x v->RelV y u->r x y H Q ->
  Ar (Az X.prog X.w) X.A (f v u) (EP X Ae U Q) X.xe s
def Ri (X:Cx)(f:Ah->Sem Ah)(r:V->Hp->VK->Prop):Prop:=
 ∀(Ae:List (Av×Obj)) (s:Aq) (U:St) (H:Hp) (x:V) (v:Ah) (Q:VK),A4 X Ae U H s->RelV x v->r x H Q ->
  Ar (Az X.prog X.w) X.A (f v) (EP X Ae U Q) X.xe s
def E4 (X:Cx)(f:Ah)(r:List V->Hp->VK->Prop):Prop:=
 ∀(Ae:List (Av×Obj)) (s:Aq) (U:St) (H:Hp) (xs:List V) (us:List Ah) (Q:VK),A4 X Ae U H s->BF xs us->r xs H Q ->
  Ar (Az X.prog X.w) X.A (JY f us) (EP X Ae U Q) X.xe s
def WR (r:R2)(ta tb:TE):TE:=λU H Q=>ta U H λx H1=>tb U H1 λy H2=>r x y H2 Q
def xD (r:V->Hp->VK->Prop)(ta:TE):TE:=λU H Q=>ta U H λx H1=>r x H1 Q
def rI (C:Int->Int->Prop)(g:Int->Int->V):R2:=λx y H Q=>∃i j,x=.int i/\y=.int j/\C i j/\Q (g i j) H
def Po (g:Int->Int->V):R2:=λx y H Q=>∃i j,x=.int i/\y=.int j/\Q (g i j) H
def rU (g:Int->V):V->Hp->VK->Prop:=λx H Q=>∃i,x=.int i/\Q (g i) H
section
variable {X:Cx}
theorem Uc (ha:PE X a ta)(hb:PE X b tb){Ae:List (Av×Obj)}{s:Aq}{U:St}{H:Hp}{R:V->V->Hp->Prop}(I:A4 X Ae U H s)
  (h:ta U H λx H1=>tb U H1 λy H2=>R x y H2) {Q:Ah->Aq->Prop} {f:Ah->Ah->Sem Ah}
  (hf:∀v u s2 x y H2,A4 X Ae U H2 s2->RelV x v->RelV y u->R x y H2->Ar (Az X.prog X.w) X.A (f v u) Q X.xe s2) :
  Ar (Az X.prog X.w) X.A (eval a X.env) (λv s₁=>Ar (Az X.prog X.w) X.A (eval b X.env) (λu s₂=>Ar (Az X.prog X.w) X.A (f v u) Q X.xe s₂) X.xe s₁) X.xe s:=by
 refine Dl (ha Ae s U H _ I h) λv s1 e=>e.el λx H1 I1 r1 q1=>?_;refine Dl (hb Ae s1 U H1 _ I1 q1) λu s2 e=>e.el λy H2 I2 r2 q2=>?_;exact hf v u s2 x y H2 I2 r1 r2 q2
theorem xZ {op:Ng}{r:R2}(ho:FS X (Bu op) r)(ha:PE X a ta)(hb:PE X b tb):PE X (.BinOp a op b pos) (WR r ta tb):=by
 intro Ae s U H Q I h;exact wpAny_BinOp (Uc ha hb I h λv u s2 x y H2 I2 rx ry q=>ho Ae s2 U H2 x y v u Q I2 rx ry q)
theorem yB (ho:Ri X (Mt op) r)(ha:PE X a ta):PE X (.UnaryOp op a pos) (xD r ta):=by
 intro Ae s U H Q I h;exact UnaryOp_ (Dl (ha Ae s U H _ I h) λv s1 e=>e.el λx H1 I1 r1 q1=>ho Ae s1 U H1 x v Q I1 r1 q1)
theorem Vi {f:Ah->Ah->Sem Ah}{C:Int->Int->Prop}{g:Int->Int->Int}
  (Rl:∀i j t u s Q E,C i j->Q (.int (g i j) s.toks) {s with toks:=s.toks+1}->Ar (Az X.prog X.w) X.A (f (.int i t) (.int j u)) Q E s) :
  FS X f (rI C λi j=>.int (g i j)):=by
 intro Ae s U H x y v u Q I rx ry h;obtain⟨i,j,rfl,rfl,hc,q⟩:=h;obtain⟨t,rfl⟩:=rx;obtain⟨t',rfl⟩:=ry;exact Rl i j t t' s _ _ hc ⟨.int (g i j),H,I.tok _,⟨_,rfl⟩,q⟩
theorem Qb {g:Int->Int->Int}
  (Rl:∀i j t u s Q E,Q (.int (g i j) s.toks) {s with toks:=s.toks+1}->Ar (Az X.prog X.w) X.A (f (.int i t) (.int j u)) Q E s) :
  FS X f (Po λi j=>.int (g i j)):=by
 intro Ae s U H x y v u Q I rx ry h;obtain⟨i,j,rfl,rfl,q⟩:=h;obtain⟨t,rfl⟩:=rx;obtain⟨t',rfl⟩:=ry;exact Rl i j t t' s _ _ ⟨.int (g i j),H,I.tok _,⟨_,rfl⟩,q⟩
theorem RK {g:Int->Int->Bool}
  (Rl:∀i j t u s Q E,Q (.bool (g i j)) s->Ar (Az X.prog X.w) X.A (f (.int i t) (.int j u)) Q E s) :
  FS X f (Po λi j=>.bl (g i j)):=by
 intro Ae s U H x y v u Q I rx ry h;obtain⟨i,j,rfl,rfl,q⟩:=h;obtain⟨t,rfl⟩:=rx;obtain⟨t',rfl⟩:=ry;exact Rl i j t t' s _ _ ⟨.bl (g i j),H,I,rfl,q⟩
def UN (i j:Int):Prop:=0<j/\j<1073741824
def OY (i j:Int):Prop:=0<=j/\j<=1000000/\i.natAbs<2^64
def OZ (i j:Int):Prop:=(-(2^64)<i/\i<2^64)\/(-(2^64)<j/\j<2^64)
theorem OZ.ok (h:OZ i j):IntMulOk i j:=by
 rcases h with⟨h1,h2⟩|⟨h1,h2⟩
 .exact .of_left (intBits_le_64 h1 h2)
 .exact .of_right (intBits_le_64 h1 h2)
theorem xc (k:Nat):(0:Int)<=2^k:=by
 rw[two_pow_cast];exact Int.natCast_nonneg _
theorem gl:FS X (Bu .Add) (Po λi j=>.int (i+j)):=Qb λ_ _ _ _ _ _ _ q=>add_int q
theorem gx:FS X (Bu .Sub) (Po λi j=>.int (i-j)):=Qb λ_ _ _ _ _ _ _ q=>sub_int q
theorem gq:FS X (Bu .Mult) (rI OZ λi j=>.int (i*j)):=Vi λ_ _ _ _ _ _ _ hc q=>mul_int q hc.ok
theorem nw:FS X (Bu .FloorDiv) (rI UN λi j=>.int (i / j)):=Vi λi j _ _ _ _ _ hc q=>by
 have h1:=hc.1;have h2:=hc.2;exact floordiv_int (by ext) (by rw[Lr i (by ext)];exact q) (.inl (PyProof.noPylong_small (by ext)))
theorem gp:FS X (Bu .Mod) (rI (λ_ j=>0<j) λi j=>.int (i%j)):=Vi λi j _ _ _ _ _ hc q=>by
 have h1:=hc;exact mod_int' (by ext) (by rw[Int.fmod_eq_emod_of_nonneg i (by ext)];exact q)
theorem gr:FS X (Bu .Pow) (rI OY λi j=>.int (i^j.toNat)):=Vi λ_ _ _ _ _ _ _ hc q=>pow_int_small hc.1 hc.2.1 hc.2.2 q
theorem gt:FS X (Bu .LShift) (rI OY λi j=>.int (i*2^j.toNat)):=Vi λ_ _ _ _ _ _ _ hc q=>lshift_int_small hc.1 hc.2.1 hc.2.2 q
theorem gu:FS X (Bu .RShift) (rI (λ_ j=>0<=j) λi j=>.int (i / 2^j.toNat)):=Vi λi j _ _ _ _ _ hc q=>
 rshift_int hc (by rw[Lr i (xc _)];exact q)
theorem gm:FS X (Bu .BitAnd) (Po λi j=>.int (AB i j)):=Qb λ_ _ _ _ _ _ _ q=>and_int q
theorem xV:FS X (Bu .BitOr) (Po λi j=>.int (AI i j)):=Qb λ_ _ _ _ _ _ _ q=>or_int q
theorem gy:FS X (Bu .BitXor) (Po λi j=>.int (Bd i j)):=Qb λ_ _ _ _ _ _ _ q=>xor_int q
theorem lH {g:Int->Int}
  (Rl:∀i t s Q E,Q (.int (g i) s.toks) {s with toks:=s.toks+1}->Ar (Az X.prog X.w) X.A (f (.int i t)) Q E s) :
  Ri X f (rU λi=>.int (g i)):=by
 intro Ae s U H x v Q I rx h;obtain⟨i,rfl,q⟩:=h;obtain⟨t,rfl⟩:=rx;exact Rl i t s _ _ ⟨.int (g i),H,I.tok _,⟨_,rfl⟩,q⟩
theorem jb:Ri X (Mt .USub) (rU λi=>.int (-i)):=lH λ_ _ _ _ _ q=>neg_int q
theorem ja:Ri X (Mt .Invert) (rU λi=>.int (D5 i)):=lH λ_ _ _ _ _ q=>invert_int q
end
noncomputable def TL:V->V->Bool
 |.non,.non=>true | .non,.int _=>true | .int _,.non=>true | .non,.bl _=>true | .bl _,.non=>true | .non,.str _=>true | .str _,.non=>true
 |.int _,.int _=>true | .bl _,.bl _=>true | .str _,.str _=>true | .byt _,.byt _=>true
 |.int _,.str _=>true | .str _,.int _=>true | .bl _,.str _=>true | .str _,.bl _=>true
 |_,_=>false
def xM:R2:=λx y H Q=>TL x y=true/\Q (.bl (decide (x=y))) H
def xL:R2:=λx y H Q=>TL x y=true/\Q (.bl (!decide (x=y))) H
theorem pR :decide (V.int i=V.int j)=(i == j):=by
 rw[D3];simp
theorem nY :decide (V.bl i=V.bl j)=(i == j):=by
 rw[D3];simp
theorem pS :decide (V.str i=V.str j)=(i == j):=by
 rw[D3];simp
theorem pQ :decide (V.byt i=V.byt j)=(i.toList == j.toList):=by
 rw[D3];cases i;cases j;simp
section
variable {X:Cx}{a b c:B8}{ta tb:TE}{pos:Pos}
theorem Ij (I:A4 X Ae U H s)(q:Q (.bl k) H)(e:k=k'):EP X Ae U Q (.bool k') s:=by
 subst e;exact⟨.bl k,H,I,rfl,q⟩
theorem zF:FS X (Bb .Eq) xM:=by
 intro Ae s U H x y v u Q I rx ry h;obtain⟨hs,q⟩:=h;cases x with
 |non=>
  cases rx;cases y with
  |non=>cases ry;exact Y5 (Ij I q (by simp))
  |bl j=>cases ry;exact Y7 (Ij I q (by simp))
  |int j=>obtain⟨t',rfl⟩:=ry;exact Y6 (Ij I q (by simp))
  |str j=>obtain⟨t',rfl⟩:=ry;exact Y4 (Ij I q (by simp))
  |_=>exact absurd (show false=true from hs) Aj
 |bl i=>
  cases rx;cases y with
  |non=>cases ry;exact Y9 (Ij I q (by simp))
  |bl j=>cases ry;exact eq_bool (Ij I q nY)
  |str j=>obtain⟨t',rfl⟩:=ry;exact Wc (Ij I q (by simp))
  |_=>exact absurd (show false=true from hs) Aj
 |int i=>
  obtain⟨t,rfl⟩:=rx;cases y with
  |non=>cases ry;exact Y8 (Ij I q (by simp))
  |int j=>obtain⟨t',rfl⟩:=ry;exact eq_int (Ij I q pR)
  |str j=>obtain⟨t',rfl⟩:=ry;exact Wb (Ij I q (by simp))
  |_=>exact absurd (show false=true from hs) Aj
 |str i=>
  obtain⟨t,rfl⟩:=rx;cases y with
  |non=>cases ry;exact Y3 (Ij I q (by simp))
  |bl j=>cases ry;exact Wa (Ij I q (by simp))
  |int j=>obtain⟨t',rfl⟩:=ry;exact V9 (Ij I q (by simp))
  |str j=>obtain⟨t',rfl⟩:=ry;exact eq_str (Ij I q pS)
  |_=>exact absurd (show false=true from hs) Aj
 |byt i=>
  obtain⟨t,rfl⟩:=rx;cases y with
  |byt j=>obtain⟨t',rfl⟩:=ry;exact PySem.W.eq_bytes (Ij I q pQ)
  |_=>exact absurd (show false=true from hs) Aj
 |_=>cases y<;>exact absurd (show false=true from hs) Aj
theorem zK:FS X (Bb .NotEq) xL:=by
 intro Ae s U H x y v u Q I rx ry h;obtain⟨hs,q⟩:=h;cases x with
 |non=>
  cases rx;cases y with
  |non=>cases ry;exact YY (Ij I q (by simp))
  |bl j=>cases ry;exact Y0 (Ij I q (by simp))
  |int j=>obtain⟨t',rfl⟩:=ry;exact YZ (Ij I q (by simp))
  |str j=>obtain⟨t',rfl⟩:=ry;exact YX (Ij I q (by simp))
  |_=>exact absurd (show false=true from hs) Aj
 |bl i=>
  cases rx;cases y with
  |non=>cases ry;exact Y2 (Ij I q (by simp))
  |bl j=>cases ry;exact ne_bool (Ij I q (congrArg not nY))
  |str j=>obtain⟨t',rfl⟩:=ry;exact V8 (Ij I q (by simp))
  |_=>exact absurd (show false=true from hs) Aj
 |int i=>
  obtain⟨t,rfl⟩:=rx;cases y with
  |non=>cases ry;exact Y1 (Ij I q (by simp))
  |int j=>obtain⟨t',rfl⟩:=ry;exact ne_int (Ij I q (congrArg not pR))
  |str j=>obtain⟨t',rfl⟩:=ry;exact V7 (Ij I q (by simp))
  |_=>exact absurd (show false=true from hs) Aj
 |str i=>
  obtain⟨t,rfl⟩:=rx;cases y with
  |non=>cases ry;exact YW (Ij I q (by simp))
  |bl j=>cases ry;exact V6 (Ij I q (by simp))
  |int j=>obtain⟨t',rfl⟩:=ry;exact V5 (Ij I q (by simp))
  |str j=>obtain⟨t',rfl⟩:=ry;exact ne_str (Ij I q (congrArg not pS))
  |_=>exact absurd (show false=true from hs) Aj
 |byt i=>
  obtain⟨t,rfl⟩:=rx;cases y with
  |byt j=>obtain⟨t',rfl⟩:=ry;exact PySem.W.ne_bytes (Ij I q (congrArg not pQ))
  |_=>exact absurd (show false=true from hs) Aj
 |_=>cases y<;>exact absurd (show false=true from hs) Aj
theorem zJ:FS X (Bb .Lt) (Po λi j=>.bl (decide (i<j))):=RK λ_ _ _ _ _ _ _ q=>lt_int q
theorem zI:FS X (Bb .LtE) (Po λi j=>.bl (decide (i<=j))):=RK λ_ _ _ _ _ _ _ q=>le_int q
theorem zH:FS X (Bb .Gt) (Po λi j=>.bl (decide (j<i))):=RK λ_ _ _ _ _ _ _ q=>gt_int q
theorem zG:FS X (Bb .GtE) (Po λi j=>.bl (decide (j<=i))):=RK λ_ _ _ _ _ _ _ q=>ge_int q
theorem ny:FS X (Bb .IsNot) (λx y H Q=>y=.non/\Q (.bl (!decide (x=.non))) H):=by
 intro Ae s U H x y v u Q I rx ry h;obtain⟨rfl,q⟩:=h;cases ry;refine isnot_none_gen (Ij I q ?_)
 cases x<;>first
  |(cases rx;rfl)
  |(obtain⟨t,rfl⟩:=rx;rfl)
theorem Qg (b:B8)(h:op≠.In:=by decide)(h2:op≠.NotIn:=by decide):FW op b=false:=by
 have e1:(op == CmpOp.In)=false:=by cases op<;>first | rfl | exact absurd rfl h
 have e2:(op == CmpOp.NotIn)=false:=by cases op<;>first | rfl | exact absurd rfl h2
 cases b<;>simp[FW,e1,e2]
theorem k6 {op:CmpOp}{r:R2}(ho:FS X (Bb op) r)(ha:PE X a ta)(hb:PE X b tb)(hm:FW op b=false):PE X (.Compare a [op] [b] pos) (WR r ta tb):=by
 intro Ae s U H Q I h;exact wpAny_Compare1 (Uc ha hb I h λv u s2 x y H2 I2 rx ry q=>ho Ae s2 U H2 x y v u Q I2 rx ry q) hm
def WO (t:TE):TT:=λU H Q=>t U H λx H'=>∃k,x=.bl k/\Q k H'
theorem ma (ho:FS X (Bb op) r)(ha:PE X a ta)(hb:PE X b tb)(hm:FW op b=false):PT X (.Compare a [op] [b] pos) (WO (WR r ta tb)):=by
 intro Ae s U H Q I h
 refine wpAny_isTrue_Compare1 (Dl (ha Ae s U H _ I h) λv s1 e=>e.el λx H1 I1 r1 q1=>Dl (hb Ae s1 U H1 _ I1 q1) λu s2 e=>e.el λy H2 I2 r2 q2 =>
  Dl (ho Ae s2 U H2 x y v u _ I2 r1 r2 q2) λc s3 e=>e.el λz H3 I3 r3 ⟨k,e,q3⟩=>?_) hm
 subst e;cases r3;exact Er ⟨H3,I3,q3⟩
def PY (r r':R2)(ta tb tc:TE):TE:=λU H Q=>ta U H λx H1=>tb U H1 λy H2=>r x y H2 λz H3=>∃k,z=.bl k /\
 (if k=true then tc U H3 λw' H4=>r' y w' H4 Q else Q (.bl false) H3)
theorem qj (ho:FS X (Bb op) r)(ho':FS X (Bb op') r')(ha:PE X a ta)(hb:PE X b tb)(hc:PE X c tc)
  (hm:lastMarks [op,op'] [b,c]=false:=by with_unfolding_all rfl):PE X (.Compare a [op,op'] [b,c] pos) (PY r r' ta tb tc):=by
 intro Ae s U H Q I h
 refine Compare_chain (Dl (ha Ae s U H _ I h) λv s1 e=>e.el λx H1 I1 r1 q1=>chain_link (Dl (hb Ae s1 U H1 _ I1 q1) λu s2 e=>e.el λy H2 I2 r2 q2 =>
  Dl (ho Ae s2 U H2 x y v u _ I2 r1 r2 q2) λd s3 e=>e.el λz H3 I3 r3 ⟨k,e,q3⟩=>?_)) hm
 subst e;cases r3;refine Er ?_;cases k with
 |false=>exact ite_ff ⟨.bl false,H3,I3,rfl,q3⟩
 |true=>exact ite_tt (chain_last (Dl (hc Ae s3 U H3 _ I3 q3) λw' s4 ⟨z',H4,I4,r4,q4⟩=>ho' Ae s4 U H4 y z' u w' Q I4 r2 r4 q4))
theorem Kf:(Am:Nat)<2^63:=by rw[Hs];decide
theorem wn:FS X (Bu .Add) (λx y H Q=>∃i j,x=.str i/\y=.str j/\i.length+j.length<=Am/\Q (.str (i++j)) H):=by
 intro Ae s U H x y v u Q I rx ry h;obtain⟨i,j,rfl,rfl,hz,q⟩:=h;obtain⟨t,rfl⟩:=rx;obtain⟨t',rfl⟩:=ry;exact add_str (λt' tk=>⟨.str (i++j),H,I.tok _,⟨_,rfl⟩,q⟩) hz
theorem GH (r:BF [x] us):∃u,us=[u]/\RelV x u:=by
 cases r with
 |cons r1 r2=>cases r2;exact⟨_,rfl,r1⟩
theorem Oc (r:BF [x,y] us):∃u w',us=[u,w']/\RelV x u/\RelV y w':=by
 cases r with
 |cons r1 r2=>
  cases r2 with
  |cons r3 r4=>cases r4;exact⟨_,_,rfl,r1,r3⟩
theorem ur (hc:X.calm=true):E4 X (.builtin "max") (λxs H Q=>∃i j,xs=[.int i,.int j]/\Q (.int (if j > i then j else i)) H):=by
 intro Ae s U H xs us Q I r h;obtain⟨i,j,rfl,q⟩:=h;obtain⟨u,w',e1',⟨t,e2'⟩,⟨t',e3'⟩⟩:_:=Oc r;refine max_two_ints (I.ok.hd hc) λh' tk k=>⟨_,H,I.kept k,?_,q⟩;by_cases hj:j > i
 .rw[if_pos hj,if_pos hj];exact⟨_,rfl⟩
 .rw[if_neg hj,if_neg hj];exact⟨_,rfl⟩
theorem ut (hc:X.calm=true):E4 X (.builtin "min") (λxs H Q=>∃i j,xs=[.int i,.int j]/\Q (.int (if j<i then j else i)) H):=by
 intro Ae s U H xs us Q I r h;obtain⟨i,j,rfl,q⟩:=h;obtain⟨u,w',e1',⟨t,e2'⟩,⟨t',e3'⟩⟩:_:=Oc r;refine min_two_ints (I.ok.hd hc) λh' tk k=>⟨_,H,I.kept k,?_,q⟩;by_cases hj:j<i
 .rw[if_pos hj,if_pos hj];exact⟨_,rfl⟩
 .rw[if_neg hj,if_neg hj];exact⟨_,rfl⟩
end
structure NQ (h:CH)(x dx C:Av)(mA:Str->Option Ah):Prop where
 obj:h.get? x=some (Dc C dx)
 ns:h.Ns1 dx mA
 ne:dx≠x
theorem uz {h:CH}(n:h.Ns1 dx mA):∃od,h.get? dx=some od/\∀name,Hx name od=some (mA name):=by
 obtain⟨o,es,ep,ho,hd,hk,_,hm⟩:_:=n;refine⟨o,ho,λname=>?_⟩;have e:=hm name;unfold nsFind findBy at e;rw[<- Array.find?_toList]at e;unfold Hx;rw[hd];dsimp only;split
 .rename_i y q;rw[q]at e;exact congrArg some e
 .rename_i q;rw[q]at e
  have a:es.toList.any (·.refKey)=false:=by
   rw[PN];intro y hy;obtain⟨z,t,hkey⟩:=hk y (Fu.mp hy);simp[DictEntry.refKey,hkey]
  have a':¬es.toList.any (·.refKey)=true:=by rw[a];exact Aj
  rw[if_neg a'];exact congrArg some e
theorem NQ.look (I:NQ h x dx C mA):∃od,PySem.W.InstAt h x (Dc C dx) C (some od)/\∀name,Hx name od=some (mA name):=
 let ⟨od,ho,hl⟩:=uz I.ns
 ⟨od,⟨I.obj,rfl,rfl,ho⟩,hl⟩
section
variable      {K:Ac}
theorem kj (X:K.In s.heap)(I:NQ s.heap x dx C mA)(hg:GG K C name=true)(hh:IK K C=true)
  (ha:C4 K (.ref C) name=some none) (hv:mA name=some v) (hv':OB v=true) (h:Q v {s with toks:=s.toks+1}) :
  Ar (Az prog w) A (getAttr (.ref x) name expr) Q E s:=by
 obtain⟨od,J,hl⟩:=I.look;exact PySem.W.get_value X J (LK hg).1 (PySem.W.findObj_own hh ha rfl (by rw[hl,hv])) hv' h
theorem sh (X:K.In s.heap)(I:NQ s.heap x dx C mA)(hg:GG K C name=true)
  (hf:C4 K (.ref C) name=some (some (.ref f))) (ht:Ln K (.ref f)=true) (hv:mA name=none) (h:Q (.ref f,[.ref x]) s) :
  Ar (Az prog w) A (Jv (.ref x) name pl) Q E s:=by
 obtain⟨od,J,hl⟩:=I.look;exact PySem.W.method_fn X J (LK hg).1 (LK hg).2 hf (beq_iff_eq.mp ht) (by show(Hx name od).map (·.isSome)=some false;rw[hl,hv];rfl) h
theorem pd (X:K.In s.heap)(I:NQ s.heap x dx C mA)
  (hs:C4 K (.ref C) "__setattr__" = some (some (.builtin "object.__setattr__"))) (hp:NV K C=true) (ht:JI K C name=some none) (hh:IK K C=true)
  (hw:L6 mA ns) (hsz:ns.length<=Am)
  (h:∀h',NQ h' x dx C (λy=>if y=name then some v else mA y)->Bx dx s.heap h'->Q () {s with heap:=h',toks:=s.toks+2}) :
  Ar (Az prog w) A (setAttr (.ref x) name v) Q E s:=by
 obtain⟨od,J,hl⟩:=I.look;refine PySem.W.set_plain X J hs (PySem.W.osa_open X J hp ht λb=>?_);obtain⟨cd,hc,hd'⟩:=PySem.W.any_some hh;have hx:=I.obj;refine Aa (Ad (Aa (Aa (wpAny_loadPart hx (Aa (V4 (PySem.W.looks_clsIn X hc) ?_))))));rw[hd'];refine Ad (Aa (Ad (Aa ?_)));refine wpAny_nsSet1 I.ns λh' hn2 hs2=>?_;obtain⟨oD,esD,epD,hoD,hdD,hcD⟩:=hn2.count (YV name v hw);refine Aa (wpAny_lookBehind hoD (by rw[hdD];exact pastItsLine_dict (A7 hcD (by rw[AK];ext))) ?_);exact Ad (h _ ⟨(hs2.2 _ (Bj I.ne)).trans I.obj,hn2,I.ne⟩ hs2)
theorem su (X:K.In s.heap)(hm:Pa K C=true)
  (hi:C4 K (.ref C) "__init__" = some (some (.ref f))) (hf:PySem.W.typeIn K (.ref f)=some (.type "function"))
  (h:DP (Az prog w) (A.under (.builtin "type.__call__" ⟨.ref C::vs,kw⟩)) (.call (.ref f) ⟨.ref (s.heap.objs.size+1)::vs,kw⟩) (PySem.W.InitBack (s.heap.objs.size+1) R)
   { s with heap:=(s.heap.push Cn).push (Dc C s.heap.objs.size) }) :
  DP (Az prog w) A (.call (.ref C) ⟨vs,kw⟩) R s:=by
 obtain⟨hh,g,d,t,os⟩:=s;exact PySem.W.make_core (PySem.W.makes_of X hm) (PySem.W.looks_findIn X hi) (λself=>PySem.W.bind_fn X self hf) (.inl rfl) h
end
noncomputable def Hk (f:Str)(v:V):List (Str×V)->List (Str×V)
 |[]=>[(f,v)]
 |(g,x)::r=>if g=f then(g,v)::r else(g,x)::Hk f v r
theorem vQ (f g:Str)(v:V):∀fs,(Hk f v fs).lookup g=if g=f then some v else fs.lookup g
 |[]=>by
  show BH g [(f,v)]=_;by_cases h:g=f
  .have hb:=beq_iff_eq.mpr h;simp only[BH,hb,if_pos h]
  .have hb:=beq_eq_false_iff_ne.mpr h;simp only[BH,hb,if_neg h]
 |(k,x)::r=>by
  have ih:=vQ f g v r;rw[show Hk f v ((k,x)::r)=(if k=f then(k,v)::r else(k,x)::Hk f v r)from rfl];by_cases hk:k=f
  .rw[if_pos hk];by_cases h:g=k
   .have hb:=beq_iff_eq.mpr h;simp only[BH,hb,if_pos (h.trans hk)]
   .have hb:=beq_eq_false_iff_ne.mpr h;simp only[BH,hb,if_neg (λe:g=f=>h (e.trans hk.symm))]
  .rw[if_neg hk];by_cases h:g=k
   .have hb:=beq_iff_eq.mpr h;simp only[BH,hb,if_neg (λe:g=f=>hk (h.symm.trans e))]
   .have hb:=beq_eq_false_iff_ne.mpr h;simp only[BH,hb];exact ih
theorem jN (f:Str)(v:V):∀fs,f∈(Hk f v fs).map (·.1)/\∀g,g∈fs.map (·.1)->g∈(Hk f v fs).map (·.1)
 |[]=>⟨by simp[Hk],λg h=>by simp at h⟩
 |(k,x)::r=>by
  obtain⟨i1,i2⟩:=jN f v r;rw[show Hk f v ((k,x)::r)=(if k=f then(k,v)::r else(k,x)::Hk f v r)from rfl];by_cases hk:k=f
  .rw[if_pos hk];subst hk;exact⟨by simp,λg h=>by simpa using h⟩
  .rw[if_neg hk];refine⟨?_,λg h=>?_⟩
   .rw[AT];exact AF _ i1
   .rw[AT]at h ⊢;rcases Bc.mp h with e|e
    .exact Bc.mpr (.inl e)
    .exact AF _ (i2 g e)
theorem vP (f:Str)(v:V):∀fs,(Hk f v fs).length<=fs.length+1
 |[]=>by simp[Hk]
 |(k,x)::r=>by
  have ih:=vP f v r;rw[show Hk f v ((k,x)::r)=(if k=f then(k,v)::r else(k,x)::Hk f v r)from rfl];by_cases hk:k=f
  .rw[if_pos hk,AK,AK];ext
  .rw[if_neg hk,AK,AK];ext
theorem Ie.some_of (r:Ie (some v) o):∃u,o=some u/\RelV v u:=by
 cases o with
 |none=>exact(show False from r).elim
 |some u=>exact⟨u,rfl,r⟩
theorem Ie.none_of (r:Ie none o):o=none:=by
 cases o with
 |none=>rfl
 |some u=>exact(show False from r).elim
theorem t8 (r:RelV v u):OB u=true:=by
 cases v with
 |non=>cases(show u=Ed from r);rfl
 |bl b=>cases(show u=KJ b from r);rfl
 |int i=>obtain⟨t,e⟩:=(show∃t,u=D0 i t from r);cases e;rfl
 |str x=>obtain⟨t,e⟩:=(show∃t,u=DD x t from r);cases e;rfl
 |byt b=>obtain⟨t,e⟩:=(show∃t,u=U8 b t from r);cases e;rfl
 |flt b=>obtain⟨t,e⟩:=(show∃t,u=U5 b t from r);cases e;rfl
 |ref a=>cases(show u=AC a from r);rfl
 |ty n=>cases(show u=Ec n from r);rfl
section
theorem iJ (hok:Ik P w H h)(e:H a=some (.ins C dx fs)):∃mA,NQ h a dx C mA/\(∀f,Ie (fs.lookup f) (mA f))/\L6 mA (fs.map (·.1))/\fs.length<=1000/\H dx=some (.own a):=by
 obtain⟨d,z,ne,ob,mA,n,r,q⟩:=(show Do P w H h a (.ins C dx fs)from hok a _ e);exact⟨mA,⟨ob,n,ne⟩,r,q,z,d⟩
end
structure Ov (K:Ac)(C:Av):Prop where
 pg:GG K C Str.empty=true
 hd:IK K C=true
 po:NV K C=true
 sa:C4 K (.ref C) "__setattr__" = some (some (.builtin "object.__setattr__"))
theorem Ov.get {K:Ac}(c:Ov K C)(f:Str):GG K C f=true:=c.pg
def DY (K:Ac)(C:Av)(f:Str):Prop:=C4 K (.ref C) f=some none
theorem DY.taker {K:Ac}(n:DY K C f):JI K C f=some none:=by
 unfold JI;rw[show C4 K (.ref C) f=some none from n];rfl
structure Sc (K:Ac)(C:Av)(m:Str)(f:Av):Prop where
 at_:C4 K (.ref C) m=some (some (.ref f))
 fn:Ln K (.ref f)=true
 kp:FI K (.ref f)=true
section
theorem xr (I:A4 X Ae U H s)(e:H a=some (.ins C dx fs))(c:Ov X.K C)(n:DY X.K C f)(l:fs.lookup f=some v)
  (h:∀u s',A4 X Ae U H s'->RelV v u->Q u s'):Ar (Az X.prog X.w) A (getAttr (.ref a) f b) Q E s:=by
 obtain⟨mA,O,r,_,_,_⟩:=iJ I.hok e;obtain⟨u,hu,ru⟩:=Ie.some_of (by rw[<- l];exact r f);exact kj I.kIn O (c.get f) c.hd n hu (t8 ru) (h u _ (I.tok _) ru)
theorem uX (I:A4 X Ae U H s)(e:H a=some (.ins C dx fs))(c:Ov X.K C)(k:Sc X.K C m g)(l:fs.lookup m=none)
  (h:Q (.ref g,[.ref a]) s):Ar (Az X.prog X.w) A (Jv (.ref a) m pl) Q E s:=by
 obtain⟨mA,O,r,_,_,_⟩:=iJ I.hok e;have hn:=Ie.none_of (by rw[<- l];exact r m);exact sh I.kIn O (c.get m) k.at_ k.fn hn h
theorem wu (I:A4 X Ae U H s)(e:H a=some (.ins C dx fs))(c:Ov X.K C)(n:DY X.K C f)(hl:fs.length<1000)(ry:RelV y u)
  (h:∀s',A4 X Ae U (Cv H a (.ins C dx (Hk f y fs))) s'->Q () s'):Ar (Az X.prog X.w) A (setAttr (.ref a) f u) Q E s:=by
 obtain⟨mA,O,r,wi,_,ho⟩:=iJ I.hok e;have hz:(fs.map (·.1)).length<=Am:=by rw[Ab,Hs];ext
 refine pd I.kIn O c.sa c.po n.taker c.hd wi hz λh' O' sb=>h _ ?_;have hd:∃o,h'.get? dx=some o:=let ⟨o,_,_,e',_⟩:=O'.ns;⟨o,e'⟩;refine I.write (by rw[e];exact Dr) (.inr ho) (λb q hb z=>(sb.2 b hb).trans z) hd ?_;refine⟨by rw[HL O.ne];exact ho,?_,O.ne,O'.obj,_,O'.ns,λg=>?_,λg hg=>?_⟩
 .have:=vP f y fs;ext
 .show Ie ((Hk f y fs).lookup g) (if g=f then some u else mA g);rw[vQ];by_cases q:g=f
  .rw[if_pos q,if_pos q];exact ry
  .rw[if_neg q,if_neg q];exact r g
 .by_cases q:g=f
  .rw[q];exact(jN f y fs).1
  .refine(jN f y fs).2 g (wi g λz=>hg ?_);show(if g=f then some u else mA g)=none;rw[if_neg q];exact z
theorem A4.made (I:A4 X Ae U H s):A4 X Ae U (Cv (Cv H s.heap.objs.size (.own (s.heap.objs.size+1))) (s.heap.objs.size+1) (.ins C s.heap.objs.size []))
  {s with heap:=(s.heap.push Cn).push (Dc C s.heap.objs.size)}:=by
 have e1:(s.heap.push Cn).get? s.heap.objs.size=some Cn:=Ax s.heap rfl
 have e2:((s.heap.push Cn).push (Dc C s.heap.objs.size)).get? (s.heap.objs.size+1)=some (Dc C s.heap.objs.size):=by
  have:=Ax (s.heap.push Cn) (o:=Dc C s.heap.objs.size) rfl;rwa[Gg]at this
 have e3:(s.heap.push Cn).Ns s.heap.objs.size (λ_=>none):=⟨Cn,#[],_,e1,rfl,(λe he=>absurd he (by simp)),λ_=>rfl⟩;have I1:=I.laid (o:=.own (s.heap.objs.size+1)) (h':=s.heap.push Cn) (t':=s.toks) (λb u q=>Ag _ q) (AH _) ⟨_,e1⟩;refine I1.laid (λb u q=>Ag _ q) (We (Gg _ _)) ?_;have ne:s.heap.objs.size≠s.heap.objs.size+1:=A5 (GB _);refine⟨by rw[HL ne,L1],DO _,ne,e2,λ_=>none,(Heap.Ns1.of_empty e3).at λo q=>Ag _ q,λ_=>Dr,λy hy=>absurd rfl hy⟩
theorem jg (hb:CD e f env (eval e env)=eval e env)
  (h:Ar (Az prog w) A (eval e env) (λo s₁=>Ar (Az prog w) A (getAttr o f true) Q E s₁) E s):Ar (Az prog w) A (eval (.Attribute e f pos) env) Q E s:=
 Attribute_any_ h (by rw[arm_eval_Attribute,hb])
end
def cT (K:Ac)(ta:TE)(f:Str):TE:=λU H Q=>ta U H λx H1=>∃a C dx fs v,x=.ref a/\H1 a=some (.ins C dx fs)/\Ov K C/\DY K C f/\fs.lookup f=some v/\Q v H1
def cZ (K:Ac)(ta tv:TE)(f:Str):TS:=λD U H=>tv U H λy H1=>ta U H1 λx H2=>∃a C dx fs,x=.ref a/\H2 a=some (.ins C dx fs)/\Ov K C/\DY K C f/\fs.length<1000 /\
 D.nx U (Cv H2 a (.ins C dx (Hk f y fs)))
section
theorem de (he:PE X e ta)(hb:CD e f X.env (eval e X.env)=eval e X.env):PE X (.Attribute e f pos) (cT X.K ta f):=by
 intro Ae s U H Q I h;refine jg hb (Dl (he Ae s U H _ I h) λu s1 e=>e.el λx H1 I1 rx ⟨a,C,dx,fs,v,ex,ea,c,n,l,q⟩=>?_);subst ex;obtain rfl:u=AC a:=rx;exact xr I1 ea c n l λu' s2 I2 ru=>⟨v,H1,I2,ru,q⟩
theorem e8 (ha:PE X o ta)(hv:PE X value tv)(hs:De value (some (.Attribute o f pos')) pos.line X.env=pure false):PS X (.Assign [.Attribute o f pos'] value pos) (cZ X.K ta tv f):=by
 intro Ae s U H D I h;refine plainObj_wpAny_Assign_Attribute (Dl (hv Ae s U H _ I h) λu s1 e=>e.el λy H1 I1 ry q=>Dl (ha Ae s1 U H1 _ I1 q) λov s2 e=>e.el λx H2 I2 rx ⟨a,C,dx,fs,ex,ea,c,n,l,q2⟩=>?_) hs;subst ex;obtain rfl:ov=AC a:=rx;exact wu I2 ea c n l ry λs3 I3=>⟨U,_,I3,q2⟩
end
section
end
structure Dv (k:Nat)(A:Cu):Prop where
 hd:A.handled=none
 dp:A.depth+3*k+5<bT
 un:A.units+16*k+200<DV
theorem Dv.mono (r:Dv k A)(h:j<=k):Dv j A:=⟨r.hd,by have:=r.dp;ext,by have:=r.un;ext⟩
theorem Dv.deeper (r:Dv (k+1) A)(env:Env):Dv k (A.deeper env):=
 ⟨r.hd,by have:=r.dp;show A.depth+1+3*k+5<_;ext,by have:=r.un;show A.units+3+16*k+200<_;ext⟩
theorem xz {A:Cu} :(A.under (.builtin "type.__call__" ⟨.ref C::us,kw⟩)).depth=A.depth+1:=by
 first | rfl | simp[LY,Code.weight,Code.isCreation,Code.isGuard,Code.isCaller,Wq,MF,guardIds]
theorem ya {A:Cu} :(A.under (.builtin "type.__call__" ⟨.ref C::us,kw⟩)).units=A.units+1:=by
 first | rfl | simp[LY,Code.cUnits,Wq,MF]
theorem Dv.make (r:Dv (k+1) A)(C:Av)(us:List Ah)(kw:List (Str×Ah)):Dv k (A.under (.builtin "type.__call__" ⟨.ref C::us,kw⟩)):=
 ⟨r.hd,by have:=r.dp;rw[xz];ext,by have:=r.un;rw[ya];ext⟩
theorem Dv.depth (r:Dv k A):A.depth<bT:=by have:=r.dp;ext
theorem Dv.units (r:Dv k A):A.units+64<DV:=by have:=r.un;ext
def WS:TA:=λ_ H Q=>Q [] H
def WZ (ta:TE)(tr:TA):TA:=λU H Q=>ta U H λx H1=>tr U H1 λxs H2=>Q (x::xs) H2
section
theorem ZO:PA X [] WS:=λ_ _ _ _ H Q I h=>Jn ⟨[],H,I,.nil,h⟩
theorem ZR (ha:PE X e te)(hr:PA X es t)(hs:Au (e::es) X.env=(false,eval e X.env)::Au es X.env:=by rfl):PA X (e::es) (WZ te t):=by
 intro pos Ae s U H Q I h;rw[hs];show Ar _ _ (UT ((false,eval e X.env)::Cb pos (Au es X.env))) _ _ s;refine IN (Dl (ha Ae s U H _ I h) λu s1 e=>e.el λx H1 I1 r1 q1=>?_);exact Dl (hr pos Ae s1 U H1 _ I1 q1) λus s2 e=>e.el λxs H2 I2 r2 q2=>⟨x::xs,H2,I2,.cons r1 r2,q2⟩
def cK (t:TA):TE:=λU H Q=>t U H λxs H1=>xs.length<=Am/\∀p,H1 p=none->Q (.ref p) (Cv H1 p (.tup xs))
def cQ (t:TA):TE:=λU H Q=>t U H λxs H1=>xs.length<=Am/\∀p,H1 p=none->Q (.ref p) (Cv H1 p (.lst xs))
theorem dm {x1}(h:PA X es t):PE X (.Tuple es x1 pos) (cK t):=by
 intro Ae s U H Q I hq;refine wpAny_Tuple_spliced (Dl (h pos Ae s U H _ I hq) λus s1 e=>e.el λxs H1 I1 r ⟨z,q⟩=>⟨by rw[<- r.length];exact z,?_⟩);have hf:=I1.hok.fresh (AH _);refine⟨.ref s1.heap.objs.size,Cv H1 s1.heap.objs.size (.tup xs),I1.laid (λb u e=>Ag _ e) (AH _) ?_,rfl,q _ hf⟩;exact⟨z,us,r,LG.new _ _⟩
theorem oU (h:PA X es t):PE X (.List es pos) (cQ t):=by
 intro Ae s U H Q I hq;refine wpAny_List_spliced (Dl (h pos Ae s U H _ I hq) λus s1 e=>e.el λxs H1 I1 r ⟨z,q⟩=>⟨by rw[<- r.length];exact z,?_⟩);have hf:=I1.hok.fresh (AH _);refine⟨.ref s1.heap.objs.size,Cv H1 s1.heap.objs.size (.lst xs),I1.laid (λb u e=>Ag _ e) (AH _) ?_,rfl,q _ hf⟩;exact⟨z,us,0,r,Ax _ rfl⟩
end
abbrev Sp:=List V->Hp->VK->XK->Prop
abbrev VT:=List Env->Hp->Aq->XK->Ah->Aq->Prop
structure NS (P:Bp)(w:BK)(K:Ac)(mg:Str->Option Ah)(base:CH)(A:Cu)(outer:List Env)(s:Aq)(H:Hp):Prop where
 frames:A.frames=some outer
 mod:Mod K mg base
 bs:∀b o,base.get? b=some o->s.heap.get? b=some o/\H b=none
 bsz:base.objs.size<=s.heap.objs.size
 funs:s.heap.FunFrames base outer
 frf:∀b∈Pr outer,H b=none
 hok:Ik P w H s.heap
 bare:Iu s.gens
def CE (outer:List Env)(P:Bp)(w:BK)(H:Hp)(s:Aq)(Q:VK)(u:Ah)(s':Aq):Prop:=
 ∃v H',s'.os=s.os/\Iu s'.gens/\Un (Pr outer) [] H H' s.heap s'.heap/\Ik P w H' s'.heap/\RelV v u/\Q v H'
def CR (CX:VT)(outer:List Env)(P:Bp)(w:BK)(H:Hp)(s:Aq)(Q:VK)(E:XK)(r:Tq)(s':Aq):Prop:=
 match r with
 |.ok (.ret u)=>CE outer P w H s Q u s'
 |.ok _=>False
 |.error e=>CX outer H s E e s'
structure FnOk (P:Bp)(w:BK)(K:Ac)(mg:Str->Option Ah)(base:CH)(CX:VT)(k:Nat)(f:Av)(fd:DG)(ps:List Str)(sp:Sp):Prop where
 len:∀vs H Q E,sp vs H Q E->vs.length=ps.length
 run:∀(A:Cu) (outer:List Env) (s:Aq) (H:Hp) (args:Args) (us:List Ah) (vs:List V) (Q:VK) (E:XK),Dv k A->NS P w K mg base A outer s H->MG s fd args (ps.zip us)->BF vs us->sp vs H Q E ->
  DP (Az P w) A (.call (.ref f) args) (CR CX outer P w H s Q E) s
theorem FnOk.mono {K:Ac}(F:FnOk P w K mg base CX j f fd ps sp)(h:j<=k) :
  FnOk P w K mg base CX k f fd ps sp:=⟨F.len,λA outer s H args us vs Q E hr=>F.run A outer s H args us vs Q E (hr.mono h)⟩
theorem NS.make {K:Ac}(e:NS P w K mg base A outer s H)(C:Av)(us:List Ah)(kw:List (Str×Ah)) :
  NS P w K mg base (A.under (.builtin "type.__call__" ⟨.ref C::us,kw⟩)) outer s H:=⟨by first | exact e.frames | (simpa[LY,Code.envs,MF,pushEnvs]using e.frames),e.mod,e.bs,e.bsz,e.funs,e.frf,e.hok,e.bare⟩
section
theorem A4.env0 (I:A4 X Ae U H s):NS X.prog X.w X.K X.mg X.base X.A X.stack s H:=
 ⟨I.ok.frames,I.ok.mod,I.bs,A7 I.ok.bsz I.sz,I.stack,I.stkFree,I.hok,I.bare⟩
theorem A4.after (I:A4 X Ae U H s)(h:CE X.stack X.prog X.w H s Q u s'):EP X Ae U Q u s':=by
 obtain⟨v,H',os,bare,un,hok,r,q⟩:_:=h;obtain⟨hh,g,d,t,os'⟩:=s';obtain rfl:os'=s.os:=os;exact⟨v,H',I.call un hok bare (λb z=>absurd z (by simp)),r,q⟩
end
def SK (sp:Sp)(dvs:List V)(E:XK)(t:TA):TE:=λU H Q=>t U H λvs H1=>sp (vs++dvs) H1 Q E
def PX (C:Av)(m:Str)(sp:Sp)(dvs:List V)(E:XK)(ta:TE)(t:TA):TE:=λU H Q=>ta U H λx H1=>∃a dx fs,x=.ref a/\H1 a=some (.ins C dx fs)/\fs.lookup m=none /\
 t U H1 λvs H2=>sp (x::(vs++dvs)) H2 Q E
def WU (C:Av)(sp:Sp)(dvs:List V)(E:XK)(t:TA):TE:=λU H Q=>t U H λvs H1=>∀x dx,H1 x=none->H1 dx=none->dx≠x ->
 sp (.ref x::(vs++dvs)) (Cv (Cv H1 dx (.own x)) x (.ins C dx [])) (λv H2=>v=.non/\Q (.ref x) H2) E
def HF (K:Ac)(fd:DG)(ps:List Str)(ds:List Ah):Prop:=
 ∀s us,K.In s.heap->(us++ds).length=ps.length->MG s fd ⟨us,[]⟩ (ps.zip (us++ds))
theorem HF.all {K:Ac}(h:∀us,us.length=ps.length->Eb fd ⟨us,[]⟩=pure (ps.zip us)):HF K fd ps []:=λs us _ hl=>by
 rw[CT]at hl ⊢;exact .of_eq (h us hl)
def IB (CX:VT)(X:Cx)(E:XK):Prop:=∀(Ae:List (Av×Obj)) (U:St) (H:Hp) (s:Aq) (e:Ah) (s':Aq),A4 X Ae U H s->CX X.stack H s E e s'->X.xe e s'
section
theorem gY (F:FnOk X.prog X.w X.K X.mg X.base CX k f fd ps sp)(hr:Dv k X.A)(hb:HF X.K fd ps ds)(hd:BF dvs ds)(hx:IB CX X E)
  (I:A4 X Ae U H s) (r:BF vs us) (h:sp (vs++dvs) H Q E):Ar (Az X.prog X.w) X.A (JY (.ref f) us) (EP X Ae U Q) X.xe s:=by
 have r2:=r.append hd;have hl:(us++ds).length=ps.length:=by rw[<- r2.length];exact F.len _ _ _ _ h
 refine Th (GF (F.run X.A X.stack s H ⟨us,[]⟩ (us++ds) (vs++dvs) Q E hr I.env0 (hb s us I.kIn hl) r2 h) λr s' hq=>?_);cases r with
 |error e=>exact hx Ae U H s e s' I hq
 |ok fl=>
  cases fl with
  |ret u=>exact I.after hq
  |next=>exact C7 hq
  |brk=>exact C7 hq
  |cont=>exact C7 hq
theorem kz (F:FnOk X.prog X.w X.K X.mg X.base CX k f fd ps sp)(hr:Dv k X.A)(hg:Gl X x)(hm:X.mg x=some (.ref f))(hk:FI X.K (.ref f)=true)(hb:HF X.K fd ps ds)(hd:BF dvs ds)(hx:IB CX X E)
  (ha:PA X (e::es) t) (hdb:(x == ("__debug__":Str))=false:=by decide) (he:Au (e::es) X.env=(false,eval e X.env)::Au es X.env:=by rfl) (hpl:(Cb pos (Au es X.env)).any (·.1)=false:=by rfl) :
  PE X (.Call (.Name x p) (e::es) [] pos) (SK sp dvs E t):=by
 intro Ae s U H Q I h;refine Cm (iK I hg hm ?_ hdb);refine MZ I.ok.mod.kin hk (Dl (ha pos Ae s U H _ I h) λus s1 e=>e.el λvs H1 I1 r q=>⟨I1.kIn,?_⟩) he hpl;exact gY F hr hb hd hx I1 r q
theorem lg (he:PE X o ta)(c:Ov X.K C)(hm:Sc X.K C m f)(F:FnOk X.prog X.w X.K X.mg X.base CX k f fd ps sp)(hr:Dv k X.A)(hb:HF X.K fd ps ds)(hd:BF dvs ds)(hx:IB CX X E)(ha:PA X (e::es) t)
  (hst:Au (e::es) X.env=(false,eval e X.env)::Au es X.env:=by rfl) (hpl:(Cb pos (Au es X.env)).any (·.1)=false:=by rfl)
  (ht:eval (.Call (.Attribute o m apos) (e::es) [] pos) X.env=(do
   let ov <- eval o X.env
   Mu apos.atName
   let (f,first) <- GD [ov] (Jv ov m pl)
   Rn pos f first (Cb pos (Au (e::es) X.env)) (Fo pos (DC [] X.env))):=by rfl) :
  PE X (.Call (.Attribute o m apos) (e::es) [] pos) (PX C m sp dvs E ta t):=by
 intro Ae s U H Q I h;refine LN (Dl (he Ae s U H _ I h) λu s1 e=>e.el λx H1 I1 rx ⟨a,dx,fs,ex,ea,l,q⟩=>?_) ht;subst ex;obtain rfl:u=AC a:=rx;refine uX I1 ea c hm l ?_;refine MZ I.ok.mod.kin hm.kp (Dl (ha pos Ae s1 U H1 _ I1 q) λus s2 e=>e.el λvs H2 I2 r q2=>⟨I2.kIn,?_⟩) hst hpl;exact gY (vs:=.ref a::vs) F hr hb hd hx I2 (.cons rfl r) q2
theorem qp (he:PE X o ta)(c:Ov X.K C)(hm:Sc X.K C m f)(F:FnOk X.prog X.w X.K X.mg X.base CX k f fd ps sp)(hr:Dv k X.A)(hb:HF X.K fd ps ds)(hd:BF dvs ds)(hx:IB CX X E)
  (ht:eval (.Call (.Attribute o m apos) [] [] pos) X.env=(do
   let ov <- eval o X.env
   Mu apos.atName
   let (f,first) <- GD [ov] (Jv ov m pl)
   Rn pos f first (Cb pos (Au [] X.env)) (Fo pos (DC [] X.env))):=by rfl) :
  PE X (.Call (.Attribute o m apos) [] [] pos) (PX C m sp dvs E ta WS):=by
 intro Ae s U H Q I h;refine LN (Dl (he Ae s U H _ I h) λu s1 e=>e.el λx H1 I1 rx ⟨a,dx,fs,ex,ea,l,q⟩=>?_) ht;subst ex;obtain rfl:u=AC a:=rx;refine uX I1 ea c hm l ?_;exact PySem.W.callWith_K0 I1.kIn hm.kp (gY (vs:=[.ref a]) F hr hb hd hx I1 (.cons rfl .nil) q)
structure Mk (K:Ac)(C f:Av):Prop where
 makes:Pa K C=true
 init:C4 K (.ref C) "__init__" = some (some (.ref f))
 fn:Ln K (.ref f)=true
 kp:FI K (.ref C)=true
theorem sx (M:Mk X.K C f)(F:FnOk X.prog X.w X.K X.mg X.base CX k f fd ps sp)(hr:Dv (k+1) X.A)(hb:HF X.K fd ps ds)(hd:BF dvs ds)
  (hx:IB CX X E) (I:A4 X Ae U H s) (r:BF vs us)
  (h:∀x dx,H x=none->H dx=none->dx≠x->sp (.ref x::(vs++dvs)) (Cv (Cv H dx (.own x)) x (.ins C dx [])) (λv H2=>v=.non/\Q (.ref x) H2) E) :
  Ar (Az X.prog X.w) X.A (JY (.ref C) us) (EP X Ae U Q) X.xe s:=by
 have hq:=h (s.heap.objs.size+1) s.heap.objs.size (I.hok.fresh (Ju _)) (I.hok.fresh (AH _)) (A5 (GB _));have I2:=A4.made (C:=C) I;have r2:BF (V.ref (s.heap.objs.size+1)::(vs++dvs)) (AC (s.heap.objs.size+1)::(us++ds)):=.cons rfl (r.append hd)
 have hl:(AC (s.heap.objs.size+1)::us++ds).length=ps.length:=by
  have e:=r2.length;rw[F.len _ _ _ _ hq]at e;exact e.symm
 refine Th (su (f:=f) I.kIn M.makes M.init (beq_iff_eq.mp M.fn) (GF (F.run _ X.stack _ _ ⟨AC (s.heap.objs.size+1)::us,[]⟩ (AC (s.heap.objs.size+1)::(us++ds)) _ _ E (hr.make C us [])
  (I2.env0.make C us []) (hb _ (AC (s.heap.objs.size+1)::us) I2.kIn hl) r2 hq) λr s' hq'=>?_))
 cases r with
 |error e=>exact hx Ae U _ _ e s' I2 hq'
 |ok fl=>
  cases fl with
  |ret u=>obtain⟨v,H',I3,rv,ev,q3⟩:=I2.after hq';subst ev;exact⟨rv,⟨V.ref (s.heap.objs.size+1),H',I3,rfl,q3⟩⟩
  |next=>exact C7 hq'
  |brk=>exact C7 hq'
  |cont=>exact C7 hq'
theorem k9 (M:Mk X.K C f)(F:FnOk X.prog X.w X.K X.mg X.base CX k f fd ps sp)(hr:Dv (k+1) X.A)(hg:Gl X x)(hm:X.mg x=some (.ref C))(hb:HF X.K fd ps ds)(hd:BF dvs ds)(hx:IB CX X E)
  (ha:PA X (e::es) t) (hdb:(x == ("__debug__":Str))=false:=by decide) (he:Au (e::es) X.env=(false,eval e X.env)::Au es X.env:=by rfl) (hpl:(Cb pos (Au es X.env)).any (·.1)=false:=by rfl) :
  PE X (.Call (.Name x p) (e::es) [] pos) (WU C sp dvs E t):=by
 intro Ae s U H Q I h;refine Cm (iK I hg hm ?_ hdb);refine MZ I.ok.mod.kin M.kp (Dl (ha pos Ae s U H _ I h) λus s1 e=>e.el λvs H1 I1 r q=>⟨I1.kIn,?_⟩) he hpl;exact sx M F hr hb hd hx I1 r q
end
section
end
structure Fb (N P:List Str)(sc:KO):Prop where
 kind:sc.kind=.function
 co:sc.isCoroutine=false
 gen:sc.isGenerator=false
 nd:N.Nodup
 pre:N.take P.length=P
 par:∀x∈P,sc.names.lookup x=some .local\/sc.names.lookup x=some .cell
 nofree:∀y∈sc.names,y.2≠.free
theorem tD {kindOf:Str->Option Fs} :∀{binds:List (Str×Ah)}{m:Str->Option Ah},(∀v,(x,v)∉binds)->O6 kindOf binds m x=m x
 |[],_,_=>rfl
 |(n,v)::r,m,h=>by
  unfold O6;rw[tD λw hw=>h w (AF _ hw)];split
  .have:x≠n:=by rintro rfl;exact h v AG
   simp[this]
  .rfl
theorem sY {kindOf:Str->Option Fs} :∀{binds:List (Str×Ah)}{m:Str->Option Ah},(∀v,(x,v)∉binds)->O7 kindOf binds m x=m x
 |[],_,_=>rfl
 |(n,v)::r,m,h=>by
  unfold O7;rw[sY λw hw=>h w (AF _ hw)];split
  .rfl
  .have:x≠n:=by rintro rfl;exact h v AG
   simp[this]
theorem sZ {kindOf:Str->Option Fs}{x:Str} :∀{P:List Str}{vs:List Ah}{i:Nat}{m:Str->Option Ah},P.Nodup->P[i]? = some x->vs[i]? = some v->kindOf x=some .local ->
  O6 kindOf (P.zip vs) m x=some v
 |[],_,_,_,_,h,_,_=>by simp at h
 |_::_,[],_,_,_,_,h,_=>by simp at h
 |p::P,w::vs,0,m,nd,h1,h2,hk=>by
  simp at h1 h2;subst h1;subst h2;show O6 kindOf ((p,w)::P.zip vs) m p=_;unfold O6;rw[tD λv hv=>(EM.mp nd).1 (MU hv).1,if_pos hk];simp
 |p::P,w::vs,i+1,m,nd,h1,h2,hk=>by
  show O6 kindOf ((p,w)::P.zip vs) m x=_;unfold O6;exact sZ (EM.mp nd).2 (by simpa using h1) (by simpa using h2) hk
theorem sX {kindOf:Str->Option Fs}{x:Str} :∀{P:List Str}{vs:List Ah}{i:Nat}{m:Str->Option Ah},P.Nodup->P[i]? = some x->vs[i]? = some v->kindOf x≠some .local ->
  O7 kindOf (P.zip vs) m x=some v
 |[],_,_,_,_,h,_,_=>by simp at h
 |_::_,[],_,_,_,_,h,_=>by simp at h
 |p::P,w::vs,0,m,nd,h1,h2,hk=>by
  simp at h1 h2;subst h1;subst h2;show O7 kindOf ((p,w)::P.zip vs) m p=_;unfold O7;rw[sY λv hv=>(EM.mp nd).1 (MU hv).1,if_neg hk];simp
 |p::P,w::vs,i+1,m,nd,h1,h2,hk=>by
  show O7 kindOf ((p,w)::P.zip vs) m x=_;unfold O7;exact sX (EM.mp nd).2 (by simpa using h1) (by simpa using h2) hk
noncomputable def start (N:List Str)(vs:List V):St:=vs.map some++Ay (N.length-vs.length) none
noncomputable def JQ (CX:VT)(P:Bp)(w:BK)(K:Ac)(mg:Str->Option Ah)(base:CH)(N:List Str)(qual:Str)(scope:KO)(f:Av)(cd:Ah)(A:Cu)(outer:List Env)(s:Aq)(H:Hp)(E:XK):Cx where
 prog:=P
 w:=w
 K:=K
 mg:=mg
 base:=base
 A:=A.deeper (FG qual scope s.heap.objs.size f cd)
 N:=N
 s₀:=s
 H₀:=H
 env:=FG qual scope s.heap.objs.size f cd
 outer:=outer
 stack:=FG qual scope s.heap.objs.size f cd::outer
 ex:=[]
 calm:=true
 fn:=λ_=>true
 pn:=[]
 xe:=λe s'=>Ar (Az P w) (A.deeper (FG qual scope s.heap.objs.size f cd)) (leaving (FG qual scope s.heap.objs.size f cd) e) (λ_ s''=>CX outer H s E e s'') (λe' s''=>CX outer H s E e' s'') s'
theorem rN {sc:KO}(h:sc.names.lookup x=some .cell):∃c,(V2 n sc.names []).lookup x=some c:=by
 have q:=Lo sc.names n [] (.inl h);exact K8.mp q
theorem ub {K:Ac}
  (S:Fb N ps scope) (hd:A.handled=none) (e0:NS P w K mg base A outer s H) (hl:vs.length=ps.length) (r:BF vs us)
  (x:InCallC s s.heap.objs.size (O6 (FG qual scope s.heap.objs.size f cd).kindOf (ps.zip us) λ_=>none) (V2 (s.heap.objs.size+1) scope.names []) (O7 (FG qual scope s.heap.objs.size f cd).kindOf (ps.zip us) λ_=>none) s1) :
  A4 (JQ CX P w K mg base N qual scope f cd A outer s H E) [] (start N vs) H s1:=by
 have hpl:ps.length<=N.length:=by have:=congrArg Ej S.pre;rw[A6]at this;ext
 obtain⟨h1,tk,rfl,hk⟩:=x.done;have noA:∀b,b∉(JQ CX P w K mg base N qual scope f cd A outer s H E).ex:=λb z=>absurd (show b∈([]:List Av)from z) (by simp)
 refine ⟨⟨e0.mod,S.kind,rfl,rfl,AH _,λy z c h1 h2=>?_,λy hy=>?_,λy c _ h=>?_,λ_=>hd,Around.frames_deeper e0.frames,.inr ⟨rfl,rfl⟩,λb z=>absurd z (noA b),e0.bs,e0.bsz,λb _ _=>noA b,λb z=>absurd z (noA b),e0.funs,e0.frf⟩,
  rfl,e0.bare,Un.kept hk,⟨_,x.toInCall.ns,λi y v h1 h2 h3=>?_⟩,λy c h=>⟨_,x.cell y c h⟩,e0.hok.fresh (AH _),λy c h=>?_,λp hp=>absurd (show p∈([]:List (Av×Obj)) from hp) (by simp),e0.hok.kept hk,?_,λ_ h=>nomatch h⟩
 .exact name_of_addr x.apart (Et h1) (Et h2)
 .have hy:=hy;rcases hy with hy|hy
  .exact rN hy
  .exact absurd rfl (S.nofree _ (Et hy))
 .exact Fl (x.above y c (Et h))
 .have hi:i<vs.length:=by
   unfold start at h2;by_cases hi:i<vs.length
   .exact hi
   .rw[Cg (by simpa using hi)]at h2;rw[List.getElem?_replicate]at h2;split at h2<;>cases h2
  have ha:vs[i]? = some v:=by
   unfold start at h2;rw[CZ (by simpa using hi),AJ]at h2;cases e:vs[i]? with
   |none=>rw[e]at h2;cases h2
   |some a=>rw[e]at h2;cases h2;rfl
  obtain⟨u,hu,rv⟩:=r.get ha
  have hp:ps[i]? = some y:=by
   rw[<- S.pre,List.getElem?_take_of_lt (by ext)];exact h1
  have ndP:ps.Nodup:=by rw[<- S.pre];exact S.nd.sublist (JA _ _)
  refine⟨u,rv,?_⟩;rcases S.par y (AE hp)with k|k
  .exact .inl ⟨k,sZ ndP hp hu k⟩
  .obtain⟨c,e⟩:=rN k;refine .inr ⟨.inl k,c,e,?_⟩;have q:=x.cell y c e;rw[sX ndP hp hu (by show scope.names.lookup y≠_;rw[k];decide)]at q;exact q
 .exact e0.hok.fresh (Fl (x.above y c (Et h)))
 .unfold start;show _=N.length;rw[As,Ab,Bn];ext
theorem yY {K:Ac}{dV kV doc pm cdv ct oc:Ah}
  (lk:K.lookup f=some ⟨oc,od,.func (Fx name qual params body scope dV kV doc pm an cdv ct),osl⟩) (hcd:JZ K cdv qual=true) (S:Fb N ps scope)
  (len:∀vs H Q E,sp vs H Q E->vs.length=ps.length)
  (hbody:∀ A outer s H vs Q E,Dv k (A.deeper (FG qual scope s.heap.objs.size f cdv))->sp vs H Q E ->
   ∃ t,K3 (JQ CX P w K mg base N qual scope f cdv A outer s H E) body t/\t { nx:=λ_ H'=>Q .non H',rt:=Q } (start N vs) H) :
  FnOk P w K mg base CX (k+1) f (Fx name qual params body scope dV kV doc pm an cdv ct) ps sp:=by
 refine⟨len,λA outer s H args us vs Q E hr e0 hb r hsp=>?_⟩;have hl:=len _ _ _ _ hsp;have KX:=e0.mod.kin.keeps λb o e=>(e0.bs b o e).1;have lim:=e0.mod.nolimit.keeps λb o e=>(e0.bs b o e).1
 have hkind:∀y∈ps.zip us,scope.names.lookup y.1=some .local\/(scope.names.lookup y.1=some .cell/\((V2 (s.heap.objs.size+1) scope.names []).lookup y.1).isSome=true):=λ⟨n,v⟩ hy=>by
  rcases S.par n (MU hy).1 with q|q
  .exact .inl q
  .exact .inr ⟨q,Lo _ _ _ (.inl q)⟩
 refine codeAny_call_function hr.depth (KX _ _ lk) rfl S.co S.gen rfl (PySem.W.codeRec_of KX hcd) (hb _ _ _ _ ?_);refine wpAny_newFunctionEnv_cells S.kind hkind λenv he s1 x=>?_;subst he;refine⟨lim.keeps x.toInCall.keep,codeAny_func ?_⟩;obtain⟨t,ht,hq⟩:=hbody A outer s H vs Q E (hr.deeper _) hsp;have I:A4 (JQ CX P w K mg base N qual scope f cdv A outer s H E) [] (start N vs) H s1:=ub S hr.hd e0 hl r x;refine BG (ht [] s1 (start N vs) H _ I hq) (λfl s' hs=>?_) λe s' hs=>hs
 have fin:∀{U':St} {H':Hp} {v:V} {u:Ah},A4 (JQ CX P w K mg base N qual scope f cdv A outer s H E) [] U' H' s'->RelV v u->Q v H'->CE outer P w H s Q u s':=
  λ{U' H' v u} J rv q=>⟨v,H',J.os,J.bare,J.base,J.hok,rv,q⟩
 cases fl with
 |ret u=>obtain⟨v,U',H',J,rv,q⟩:=hs;exact fin J rv q
 |next=>obtain⟨U',H',J,q⟩:=hs;exact fin (v:=V.non) (u:=Ed) J rfl q
 |brk=>obtain⟨_,_,_,q⟩:=hs;exact C7 q
 |cont=>obtain⟨_,_,_,q⟩:=hs;exact C7 q
section
variable       {id:String}
def cU (r:List V->Hp->VK->Prop)(t:TA):TE:=λU H Q=>t U H λvs H1=>r vs H1 Q
theorem qi (hc:E4 X (.builtin id) r)(hg:Gl X x)(hm:X.mg x=none)(hv:EJ x=some (.builtin id))(ha:PA X (e::es) t)(hn:x≠"__name__":=by decide)(hdb:(x == ("__debug__":Str))=false:=by decide)
  (he:Au (e::es) X.env=(false,eval e X.env)::Au es X.env:=by rfl) (hpl:(Cb pos (Au es X.env)).any (·.1)=false:=by rfl):PE X (.Call (.Name x p) (e::es) [] pos) (cU r t):=by
 intro Ae s U H Q I h;refine Cm (Qt I hg hm hv ?_ hn hdb);exact EO (Dl (ha pos Ae s U H _ I h) λus s1 e=>e.el λvs H1 I1 r1 q1=>hc Ae s1 U H1 vs us Q I1 r1 q1) he hpl
theorem vv (hc:E4 X (.type T) r)(hg:Gl X x)(hm:X.mg x=none)(hv:EJ x=some (.type T))(ha:PA X (e::es) t)(hn:x≠"__name__":=by decide)(hdb:(x == ("__debug__":Str))=false:=by decide)
  (he:Au (e::es) X.env=(false,eval e X.env)::Au es X.env:=by rfl) (hpl:(Cb pos (Au es X.env)).any (·.1)=false:=by rfl):PE X (.Call (.Name x p) (e::es) [] pos) (cU r t):=by
 intro Ae s U H Q I h;refine Cm (Qt I hg hm hv ?_ hn hdb);exact Bz (Dl (ha pos Ae s U H _ I h) λus s1 e=>e.el λvs H1 I1 r1 q1=>hc Ae s1 U H1 vs us Q I1 r1 q1) he hpl
end
end L2
namespace HT
open PySem PyProof.Rows
section
open PySem.SeqAt
open PySem.MeetsSeq PySem.MeetsSeq2 PySem.MeetsSeq3
end
section
noncomputable def sIx (n d:Nat):Option Int->Nat
 |none=>d
 |some v=>if v<0 then(v+(n:Int)).toNat else min v.toNat n
theorem sIx_none (n d:Nat):sIx n d none=d:=rfl
theorem sIx_nat (n d k:Nat):sIx n d (some (k:Int))=min k n:=by
 show(if (k:Int)<0 then((k:Int)+(n:Int)).toNat else min (k:Int).toNat n)=min k n;rw[if_neg (by ext),Br]
theorem iw (n d:Nat)(hd:d<=n)(o:Option Int):sIx n d o<=n:=by
 cases o with
 |none=>exact hd
 |some v=>
  show(if v<0 then(v+(n:Int)).toNat else min v.toNat n)<=n;by_cases hv:v<0
  .rw[if_pos hv];ext
  .rw[if_neg hv];exact Nat.min_le_right _ _
theorem qI (v:Int)(n d:Nat):(if v<0 then max (v+(n:Int)) 0 else min v (n:Int))=((sIx n d (some v):Nat):Int):=by
 show(if v<0 then max (v+(n:Int)) 0 else min v (n:Int))=(((if v<0 then(v+(n:Int)).toNat else min v.toNat n):Nat):Int);by_cases hv:v<0
 .simp only[if_pos hv];ext
 .simp only[if_neg hv];ext
theorem xf (lo hi:Option Int)(n:Nat):Ft lo hi 1 (n:Int)=(((sIx n 0 lo:Nat):Int),((sIx n n hi:Nat):Int)):=by
 have h1:¬((1:Int)<0):=by ext
 unfold Ft;simp only[h1,if_false];refine Sj ?_ ?_
 .cases lo with
  |none=>rfl
  |some v=>exact qI v n 0
 .cases hi with
  |none=>rfl
  |some v=>exact qI v n n
theorem wq (i j:Nat):D1 (i:Int) (j:Int) 1=j-i:=by
 unfold D1;have h1:(1:Int) > 0:=by ext
 simp only[h1,if_true,Wo];split<;>ext
theorem uQ (p:Lq v o)(h:Q o s):Ar (Az prog w) A (Ws v) Q E s:=by
 cases p with
 |none=>exact bQ h
 |int i t=>exact slicePart_int h
theorem ZcQ {lo hi:Option Int}{n:Nat}(hs:s.heap.IsSliceOf sl vl vu .none)(pl:Lq vl lo)(pu:Lq vu hi)
  (h:Q (((sIx n 0 lo:Nat):Int),1,sIx n n hi-sIx n 0 lo) s):Ar (Az prog w) A (IP (.ref sl) (pure (n:Int))) Q E s:=by
 obtain⟨os,hos,hcs,hds⟩:=id hs;unfold IP Wt;refine Aa (Aa (F1 hos hds rfl (Aa (F1 hos hds rfl (Aa (F1 hos hds rfl (Ad ?_)))))));refine Aa (bQ ?_);show Ar _ _ (if ((1:Int) == 0)=true then _ else _) _ _ s;rw[if_neg (by decide)];refine Aa (uQ pl (Aa (uQ pu (Aa (Ad ?_)))));show Ar _ _ (match Ft lo hi 1 (n:Int)with | (lo,hi)=>pure (lo,(1:Int),D1 lo hi 1)) _ _ s;rw[xf lo hi n];show Ar _ _ (pure (((sIx n 0 lo:Nat):Int),(1:Int),D1 ((sIx n 0 lo:Nat):Int) ((sIx n n hi:Nat):Int) 1)) _ _ s;rw[wq];exact Ad h
theorem qr (xs:Array Ah)(i k:Nat):((Bk k).filterMap λ(m:Nat)=>xs[((i:Int)+(m:Int)*1).toNat]?).toArray=((xs.toList.drop i).take k).toArray:=by
 have e:(λ(m:Nat)=>xs[((i:Int)+(m:Int)*1).toNat]?)=λm=>xs[i+m]?:=by
  funext m;have:((i:Int)+(m:Int)*1).toNat=i+m:=by ext
  rw[this]
 rw[e];have:=pick_run xs i k;rw[Jc]at this;have e2:((λx=>xs[x]?) ∘ λx=>i+x)=λm=>xs[i+m]?:=rfl;rw[e2]at this;rw[this]
theorem getItem_tuple_cut {lo hi:Option Int}(ht:IsTup s.heap t items)(hs:s.heap.IsSliceOf sl vl vu .none)(pl:Lq vl lo)(pu:Lq vu hi)
  (hw:¬(sIx items.size 0 lo=0/\sIx items.size items.size hi=items.size))
  (h:Q (.ref s.heap.objs.size) {s with heap:=s.heap.push {cls:=.type "tuple",data:=.seq ((items.toList.drop (sIx items.size 0 lo)).take (sIx items.size items.size hi-sIx items.size 0 lo)).toArray} })
  (hsz:items.size<=Am):Ar (Az prog w) A (Jw (.ref t) (.ref sl)) Q E s:=by
 have htake:sizeOk (.seq ((items.toList.drop (sIx items.size 0 lo)).take (sIx items.size items.size hi-sIx items.size 0 lo)).toArray):=by
  show((items.toList.drop (sIx items.size 0 lo)).take (sIx items.size items.size hi-sIx items.size 0 lo)).toArray.size<=Am;rw[AU,A6,Ht,Bt];ext
 have hj:sIx items.size items.size hi<=items.size:=iw _ _ (AH _) hi;obtain⟨os,hos,hcs,hds⟩:=id hs;have hTs:s.TypeIs (.ref sl) "slice":=⟨os,hos,hcs⟩;unfold Jw;try with_reducible refine BQ ?_
 first | refine Aa (Ad ?_) | skip
 refine Aa (wpAny_sequenceKey ht.typeIs (by decide) ?_)
 refine Aa (DR ht.typeIs EG
  (BL EG ht.typeIs entry_tuple_getitem ?_ (args_tuple_getitem _ _)))
 show Ar _ _ (Wr (.ref t) >>= _) _ _ s;refine Aa (tupleItemsOf_ ht ?_);refine Aa (Fi hTs ?_);rw[if_pos (by decide)];refine Aa (ZcQ hs pl pu ?_)
 have hno:¬((((sIx items.size 0 lo:Nat):Int) == 0 && (1:Int) == 1 && (sIx items.size items.size hi-sIx items.size 0 lo) == items.size)=true):=by
  intro q;rw[Bo,Bo]at q;have q1:=eq_of_beq q.1.1;have q2:=eq_of_beq q.2;exact hw ⟨by ext,by ext⟩
 show Ar _ _ (if (((sIx items.size 0 lo:Nat):Int) == 0 && (1:Int) == 1 && (sIx items.size items.size hi-sIx items.size 0 lo) == items.size)=true then _ else _) _ _ s;rw[if_neg hno,qr]
 first
  |exact Aa (BC (Ad ⟨_,rfl,Ad h⟩) htake)
  |exact Aa (BC (Aa (Ad (Ad ⟨_,rfl,Ad h⟩))) htake)
  |exact Aa (Aa (BC (Ad (Ad ⟨_,rfl,Ad h⟩)) htake))
  |exact Aa (Aa (BC (Ad ⟨_,rfl,Ad h⟩) htake))
end
end HT
namespace L2
open PySem PySem.Spec PyProof.Rows
abbrev TO:=St->Hp->(Option Int->Hp->Prop)->Prop
def PO (X:Cx)(e:Option B8)(t:TO):Prop:=
 ∀(Ae:List (Av×Obj)) (s:Aq) (U:St) (H:Hp) (Q:Option Int->Hp->Prop),A4 X Ae U H s->t U H Q ->
  Ar (Az X.prog X.w) X.A (evalPart e X.env) (λu s'=>∃o H',A4 X Ae U H' s'/\Lq u o/\Q o H') X.xe s
def RE:TO:=λ_ H Q=>Q none H
def WQ (t:TE):TO:=λU H Q=>t U H λx H1=>∃i,x=.int i/\Q (some i) H1
section
variable    {lo:Option B8}
theorem lm:PO X none RE:=by
 intro Ae s U H Q I h;rw[evalPart_none];exact Ad ⟨none,H,I,.none,h⟩
theorem ln (h:PE X e te):PO X (some e) (WQ te):=by
 intro Ae s U H Q I hw;rw[evalPart_some];refine Dl (h Ae s U H _ I hw) λu s1 e=>e.el λx H1 I1 r1 q1=>?_;obtain⟨i,rfl,q⟩:=q1;obtain⟨t,rfl⟩:=r1;exact⟨some i,H1,I1,.int i t,q⟩
def Sa (X:Cx)(r:V->Option Int->Option Int->Hp->VK->Prop):Prop:=
 ∀(Ae:List (Av×Obj)) (s:Aq) (U:St) (H:Hp) (x:V) (v vl vu:Ah) (lo hi:Option Int) (sl:Av) (Q:VK),A4 X Ae U H s->RelV x v->s.heap.IsSliceOf sl vl vu .none->Lq vl lo->Lq vu hi->r x lo hi H Q ->
  ∃T id,MQ (.type T) "__getitem__" = pure (some (.builtin id))/\s.TypeIs v T/\Ar (Az X.prog X.w) X.A (Jw v (.ref sl)) (EP X Ae U Q) X.xe s
def xF (r:V->Option Int->Option Int->Hp->VK->Prop)(te:TE)(tl th:TO):TE:=λU H Q=>te U H λx H1=>tl U H1 λl H2=>th U H2 λu H3=>r x l u H3 Q
theorem qq (hr:Sa X r)(he:PE X e te)(hl:PO X lo tl)(hu:PO X hi th):PE X (.Subscript e (.Slice lo hi none p2) pos) (xF r te tl th):=by
 intro Ae s U H Q I h;refine Tp (Dl (he Ae s U H _ I h) λv s1 ⟨x,H1,I1,r1,q1⟩=>?_);refine wpAny_Slice (Dl (hl Ae s1 U H1 _ I1 q1) λvl s2 ⟨l,H2,I2,pl,q2⟩=>Dl (hu Ae s2 U H2 _ I2 q2) λvu s3 ⟨u,H3,I3,pu,q3⟩=>?_);rw[evalPart_none];refine Ad ?_;have I4:A4 X Ae U H3 {s3 with heap:=s3.heap.push {cls:=.type "slice",data:=.fields #[vl,vu,.none]} }:=I3.kept λb ob q=>Ag _ q;obtain⟨T,id,hT,ht,hg⟩:=hr Ae {s3 with heap:=s3.heap.push {cls:=.type "slice",data:=.fields #[vl,vu,.none]} } U H3 x v vl vu l u s3.heap.objs.size Q I4 r1 (Ve ..) pl pu q3;show Ar (Az X.prog X.w) X.A (Ow e (.Slice lo hi none p2) v (.ref s3.heap.objs.size)) (EP X Ae U Q) X.xe {s3 with heap:=s3.heap.push {cls:=.type "slice",data:=.fields #[vl,vu,.none]} };exact bP ht hT hg (by with_unfolding_all rfl)
noncomputable def K1 (xs:List V)(lo hi:Option Int):List V:=(xs.drop (HT.sIx xs.length 0 lo)).take (HT.sIx xs.length xs.length hi-HT.sIx xs.length 0 lo)
theorem vN (xs:List V)(lo hi:Option Int):(K1 xs lo hi).length<=xs.length:=by
 unfold K1;rw[A6,Ht];ext
def eU (K:Ac):V->Option Int->Option Int->Hp->VK->Prop:=λx lo hi H Q=>∃a xs,x=.ref a/\Lg K H a xs /\
 ¬(HT.sIx xs.length 0 lo=0/\HT.sIx xs.length xs.length hi=xs.length)/\∀p,H p=none->Q (.ref p) (Cv H p (.tup (K1 xs lo hi)))
theorem i4:Sa X (eU X.K):=by
 intro Ae s U H x v vl vu lo hi sl Q I rx hs pl pu h;obtain⟨a,xs,rfl,hx,hw,q⟩:=h;cases rx;obtain⟨Bh,r,ht,hz⟩:=I.tuple hx;have hlen:Bh.toArray.size=xs.length:=by rw[AU];exact r.length.symm
 refine⟨"tuple",_,EG.lookup,ht.typeIs,?_⟩;refine HT.getItem_tuple_cut ht hs pl pu (by rw[hlen];exact hw) ?_ (by rw[hlen];exact hz);rw[hlen];refine⟨.ref s.heap.objs.size,_,I.laid (λb ob q=>Ag _ q) (AH _) ?_,rfl,q _ (I.hok.fresh (AH _))⟩;exact⟨A7 (vN xs lo hi) hz,_,(r.drop (HT.sIx xs.length 0 lo)).take (HT.sIx xs.length xs.length hi-HT.sIx xs.length 0 lo),LG.new _ _⟩
end
noncomputable def Q8 (n:Nat)(i:Int):Option Nat:=if 0<=i then(if i<n then some i.toNat else none)else if -(n:Int)<=i then some (i+n).toNat else none
noncomputable def FC {α:Type}(xs:List α)(i:Int):Option α:=(Q8 xs.length i).bind λj=>xs[j]?
theorem pY (h:Q8 n i=some j):V0 i n=some j/\j<n/\-(n:Int)<=i/\i<n:=by
 unfold Q8 at h;by_cases h0:0<=i
 .rw[if_pos h0]at h;by_cases h1:i<n
  .rw[if_pos h1]at h;have e:=A8 h;exact⟨by rw[seqIndex_of h0 h1,e],by ext,by ext,h1⟩
  .rw[if_neg h1]at h;cases h
 .rw[if_neg h0]at h;by_cases h1:-(n:Int)<=i
  .rw[if_pos h1]at h;have e:=A8 h;exact⟨by rw[seqIndex_neg (by ext) h1,e],by ext,h1,by ext⟩
  .rw[if_neg h1]at h;cases h
theorem iC (h:FC xs i=some v):∃j,V0 i xs.length=some j/\xs[j]? = some v/\j<xs.length/\-(xs.length:Int)<=i/\i<xs.length:=by
 unfold FC at h;cases e:Q8 xs.length i with
 |none=>rw[e]at h;cases h
 |some j=>rw[e]at h;obtain⟨h1,h2,h3,h4⟩:=pY e;exact⟨j,h1,h,h2,h3,h4⟩
theorem Ot {α:Type}{xs:List α}{j:Nat}{v:α}(h:xs[j]? = some v):FC xs (j:Int)=some v:=by
 have hj:=(Ai.mp h).1
 have e:Q8 xs.length (j:Int)=some j:=by
  unfold Q8;rw[if_pos (by ext),if_pos (by ext)];simp
 unfold FC;rw[e];exact h
theorem rc (xs:List α)(v:α):FC (xs++[v]) (-1)=some v:=by
 have hl:(xs++[v]).length=xs.length+1:=by simp
 have e:Q8 (xs++[v]).length (-1)=some xs.length:=by
  unfold Q8;rw[hl,if_neg (by decide),if_pos (by ext)];congr 1
  ext
 unfold FC;rw[e];show(xs++[v])[xs.length]? = some v;simp
def Ou (b:B8):Prop:=∀o i,LI b false o i=operate [o,i] (Jw o i)
def OX (X:Cx)(r:R2):Prop:=
 ∀value slice (Ae:List (Av×Obj)) (s:Aq) (U:St) (H:Hp) (x y:V) (v u:Ah) (Q:VK),A4 X Ae U H s->RelV x v->RelV y u->r x y H Q ->
  LI slice false v u=operate [v,u] (Jw v u)->Ar (Az X.prog X.w) X.A (Ow value slice v u) (EP X Ae U Q) X.xe s
def MP (X:Cx)(id:String)(r:V->List V->Hp->VK->Prop):Prop:=
 ∀(Ae:List (Av×Obj)) (s:Aq) (U:St) (H:Hp) (x:V) (xs:List V) (v:Ah) (us:List Ah) (Q:VK),A4 X Ae U H s->RelV x v->BF xs us->r x xs H Q ->
  Ar (Az X.prog X.w) X.A (JY (.builtin id) (v::us)) (EP X Ae U Q) X.xe s
section
variable {X:Cx}
theorem xY (hr:OX X r)(ha:PE X a ta)(hb:PE X b tb)(hs:Ou b):PE X (.Subscript a b pos) (WR r ta tb):=by
 intro Ae s U H Q I h;exact Tp (Uc ha hb I h λv u s2 x y H2 I2 rx ry q=>hr a b Ae s2 U H2 x y v u Q I2 rx ry q (hs _ _))
def eZ (K:Ac):R2:=λx y H Q=>∃p xs i v,x=.ref p/\y=.int i/\F0 K H p xs/\FC xs i=some v/\Q v H
def eX (K:Ac):R2:=λx y H Q=>∃p xs i v,x=.ref p/\y=.int i/\Lg K H p xs/\FC xs i=some v/\Q v H
def eY:R2:=λx y H Q=>∃z i c,x=.str z/\y=.int i/\z.length<=Am/\FC z.cps.toList i=some c/\Q (.str ⟨#[c]⟩) H
theorem kq:OX X (eZ X.K):=by
 intro value slice Ae s U H x y v u Q I rx ry h hs;obtain⟨p,xs,i,z,e1',e2',hq,he,q⟩:_:=h;cases rx;obtain⟨t,rfl⟩:=ry;obtain⟨Bh,r,pl,hz⟩:=I.list hq;obtain⟨j,h1,h2,h3,h4,h5⟩:=iC he;obtain⟨w,ew,rw'⟩:=r.get h2;have hl:=r.length;have hn:=Kf;have fin:EP X Ae U Q w s:=⟨z,H,I,rw',q⟩;by_cases h0:0<=i
 .have hj:i.toNat=j:=by
   rw[seqIndex_of h0 h5]at h1;exact A8 h1
  exact item_listR pl.isList h0 (by ext) (by rw[hj];simpa using ew) fin hs
 .have hj:(i+(Bh.toArray.size:Int)).toNat=j:=by
   rw[seqIndex_neg (by ext) h4]at h1;rw[AU,<- hl];exact A8 h1
  exact Pz pl.isList.typeIs UU.lookup
   (wpAny_getItem_list_neg pl.isList (by ext) (by rw[AU]<;>ext) (by ext) (by rw[hj];simpa using ew) ⟨rfl,fin⟩) hs
theorem cv:OX X (eX X.K):=by
 intro value slice Ae s U H x y v u Q I rx ry h hs;obtain⟨p,xs,i,z,e1',e2',hq,he,q⟩:_:=h;cases rx;obtain⟨t,rfl⟩:=ry;obtain⟨Bh,r,pl,hz⟩:=I.tuple hq;obtain⟨j,h1,h2,h3,h4,h5⟩:=iC he;obtain⟨w,ew,rw'⟩:=r.get h2;have hl:=r.length;have hn:=Kf;have fin:EP X Ae U Q w s:=⟨z,H,I,rw',q⟩
 exact Pz pl.typeIs slot_tuple_getitem.lookup
  (getItem_tuple pl (by ext) (by ext) (by rw[AU,<- hl];exact h1) (by simpa using ew) ⟨rfl,fin⟩) hs
theorem ba:OX X eY:=by
 intro value slice Ae s U H x y v u Q I rx ry h hs;obtain⟨z,i,c,e1',e2',hz,he,q⟩:_:=h;obtain⟨t,rfl⟩:=rx;obtain⟨t',rfl⟩:=ry;obtain⟨j,h1,h2,h3,h4,h5⟩:=iC he;have hl:z.cps.toList.length=z.length:=by simp[Str.length]
 rw[hl]at h1 h4 h5;have hn:=Kf
 exact bP (MR s z t) slot_str_getitem.lookup (getItem_str (by
  have e1:decide (i < -(2^63:Int))=false:=decide_eq_false (by ext);have e2:decide (i >= 2^63)=false:=decide_eq_false (by ext);rw [e1,e2,LW]) (by rw [h1];simpa using h2) ⟨.str ⟨#[c]⟩,H,I.tok _,⟨_,rfl⟩,q⟩) hs
theorem z7 (lo hi:Option Int)(n:Nat):(F2 lo hi none n).1=((HT.sIx n 0 lo:Nat):Int)/\(F2 lo hi none n).2.1=((HT.sIx n n hi:Nat):Int)/\(F2 lo hi none n).2.2=1:=by
 refine⟨?_,?_,rfl⟩
 .cases lo with
  |none=>simp[F2,HT.sIx]
  |some i=>
   simp only[F2,HT.sIx,Pd,show(1:Int) > 0 by decide,if_true];by_cases h:i<0
   .simp only[h,if_true]<;>ext
   .simp only[h,if_false]<;>ext
 .cases hi with
  |none=>simp[F2,HT.sIx]
  |some i=>
   simp only[F2,HT.sIx,Pd,show(1:Int) > 0 by decide,if_true];by_cases h:i<0
   .simp only[h,if_true]<;>ext
   .simp only[h,if_false]<;>ext
theorem Zfi (Bh:List Ah)(lo hi:Option Int):slicePick Bh.toArray lo hi none=((Bh.drop (HT.sIx Bh.length 0 lo)).take (HT.sIx Bh.length Bh.length hi-HT.sIx Bh.length 0 lo)).toArray:=by
 obtain⟨h1,h2,h3⟩:=z7 lo hi Bh.toArray.size;unfold slicePick;rw[h1,h2,h3];simp only[sliceRange_one,pick_run,AU]<;>rfl
def eV (K:Ac):V->Option Int->Option Int->Hp->VK->Prop:=λx lo hi H Q=>∃a xs,x=.ref a/\F0 K H a xs/\∀p,H p=none->Q (.ref p) (Cv H p (.lst (K1 xs lo hi)))
theorem ph:Sa X (eV X.K):=by
 intro Ae s U H x v vl vu lo hi sl Q I rx hs pl pu h;obtain⟨a,xs,rfl,hx,q⟩:=h;cases rx;obtain⟨Bh,r,ht,hz⟩:=I.list hx;have hlen:=r.length;refine⟨"list",_,UU.lookup,ht.isList.typeIs,?_⟩;refine wpAny_getItem_list_slice ht.isList hs pl pu .none (by simp) ?_ (by rw[AU]<;>ext);rw[Zfi,<- hlen];refine⟨.ref s.heap.objs.size,_,I.laid (λb ob q=>Ag _ q) (AH _) ?_,rfl,q _ (I.hok.fresh (AH _))⟩;exact⟨A7 (vN xs lo hi) hz,_,0,(r.drop (HT.sIx xs.length 0 lo)).take (HT.sIx xs.length xs.length hi-HT.sIx xs.length 0 lo),Ax _ rfl⟩
noncomputable def Hc:V->Bool
 |.non=>true
 |.bl _=>true
 |.int _=>true
 |.str _=>true
 |_=>false
noncomputable def Ql:V->V->Bool
 |.non,.non=>true
 |.bl a,.bl b=>a == b
 |.bl a,.int b=>(if a then 1 else 0) == b
 |.int a,.bl b=>a == (if b then 1 else 0)
 |.int a,.int b=>a == b
 |.str a,.str b=>a == b
 |_,_=>false
theorem oA (ry:RelV y u)(rx:RelV x v)(fy:Hc y=true)(fx:Hc x=true):EK A s u v (Ql y x):=by
 cases y with
 |non=>
  cases ry;cases x with
  |non=>cases rx;exact Nd _
  |bl b=>cases rx;exact SeqAt.EqAt.none_bool b
  |int b=>obtain⟨t,rfl⟩:=rx;exact SeqAt.EqAt.none_int b t
  |str b=>obtain⟨t,rfl⟩:=rx;exact SeqAt.EqAt.none_str b t
  |_=>exact absurd (show false=true from fx) Aj
 |bl a=>
  cases ry;cases x with
  |non=>cases rx;exact SeqAt.EqAt.bool_none a
  |bl b=>cases rx;exact SeqAt.EqAt.bool_bool a b
  |int b=>obtain⟨t,rfl⟩:=rx;exact SeqAt.EqAt.bool_int a b t
  |str b=>obtain⟨t,rfl⟩:=rx;exact SeqAt.EqAt.bool_str a b t
  |_=>exact absurd (show false=true from fx) Aj
 |int a=>
  obtain⟨t',rfl⟩:=ry;cases x with
  |non=>cases rx;exact SeqAt.EqAt.int_none a t'
  |bl b=>cases rx;exact SeqAt.EqAt.int_bool a t' b
  |int b=>obtain⟨t,rfl⟩:=rx;exact SeqAt.EqAt.int_int a t' b t
  |str b=>obtain⟨t,rfl⟩:=rx;exact LM a t' b t
  |_=>exact absurd (show false=true from fx) Aj
 |str a=>
  obtain⟨t',rfl⟩:=ry;cases x with
  |non=>cases rx;exact SeqAt.EqAt.str_none a t'
  |bl b=>cases rx;exact SeqAt.EqAt.str_bool a t' b
  |int b=>obtain⟨t,rfl⟩:=rx;exact LL a t' b t
  |str b=>obtain⟨t,rfl⟩:=rx;exact SeqAt.EqAt.str_str a t' b t
  |_=>exact absurd (show false=true from fx) Aj
 |_=>exact absurd (show false=true from fy) Aj
noncomputable def NL (x:V)(u:Ah):Bool:=match u with
 |.none=>Ql .non x
 |.bool b=>Ql (.bl b) x
 |.int i _=>Ql (.int i) x
 |.str z _=>Ql (.str z) x
 |_=>false
theorem oB (r:RelV y u)(f:Hc y=true):NL x u=Ql y x:=by
 cases y with
 |non=>cases r;rfl
 |bl b=>cases r;rfl
 |int i=>obtain⟨t,rfl⟩:=r;rfl
 |str z=>obtain⟨t,rfl⟩:=r;rfl
 |_=>exact absurd (show false=true from f) Aj
theorem Yb :∀{xs:List V}{us:List Ah},BF xs us->xs.all Hc=true->us.any (NL x)=xs.any λy=>Ql y x
 |_,_,.nil,_=>rfl
 |y::xs,u::us,.cons r t,f=>by
  rw[F6,Bo]at f;rw[Fp,Fp,oB r f.1,Yb t f.2]
theorem Yt (rx:RelV x v)(fx:Hc x=true):∀{xs:List V}{us:List Ah},BF xs us->xs.all Hc=true->∀u∈us,EK A s u v (NL x u)
 |_,_,.nil,_=>λu hu=>by cases hu
 |y::xs,u::us,.cons r t,f=>λu' hu=>by
  rw[F6,Bo]at f;rcases Bc.mp hu with rfl|hu
  .rw[oB r f.1];exact oA r rx f.1 fx
  .exact Yt rx fx t f.2 u' hu
noncomputable def Zw (x:V)(xs:List V):Bool:=xs.any λy=>Ql y x
def mB (K:Ac)(neg:Bool):R2:=λx y H Q=>∃p xs,y=.ref p/\(F0 K H p xs\/Lg K H p xs)/\Hc x=true/\xs.all Hc=true/\Q (.bl (if neg then !Zw x xs else Zw x xs)) H
theorem vp:FS X (Bb .In) (mB X.K false):=by
 intro Ae s U H x y v u Q I rx ry;ext1⟨p,xs,e1',hq,fx,fs,q⟩;cases ry;rcases hq with hq|hq
 .obtain⟨Bh,r,pl,hz⟩:=I.list hq;refine QK (NL x) pl.isList (λw hw=>Yt rx fx r fs w (by simpa using hw)) ⟨.bl _,H,I,rfl,?_⟩;rw[show Bh.toArray.any (NL x)=Bh.any (NL x) by simp,Yb r fs];exact q
 .obtain⟨Bh,r,pl,hz⟩:=I.tuple hq;refine PK (NL x) pl (λw hw=>Yt rx fx r fs w (by simpa using hw)) ⟨.bl _,H,I,rfl,?_⟩;rw[show Bh.toArray.any (NL x)=Bh.any (NL x) by simp,Yb r fs];exact q
theorem zz:FS X (Bb .NotIn) (mB X.K true):=by
 intro Ae s U H x y v u Q I rx ry;ext1⟨p,xs,e1',hq,fx,fs,q⟩;cases ry;rcases hq with hq|hq
 .obtain⟨Bh,r,pl,hz⟩:=I.list hq;refine SeqAt.notIn_listAt (NL x) pl.isList (λw hw=>Yt rx fx r fs w (by simpa using hw)) ⟨.bl _,H,I,rfl,?_⟩;rw[show Bh.toArray.any (NL x)=Bh.any (NL x) by simp,Yb r fs];exact q
 .obtain⟨Bh,r,pl,hz⟩:=I.tuple hq;refine SeqAt.notIn_tupleAt (NL x) pl (λw hw=>Yt rx fx r fs w (by simpa using hw)) ⟨.bl _,H,I,rfl,?_⟩;rw[show Bh.toArray.any (NL x)=Bh.any (NL x) by simp,Yb r fs];exact q
theorem yz:E4 X (.builtin "len") (λxs H Q=>∃p ys,xs=[.ref p]/\(F0 X.K H p ys\/Lg X.K H p ys)/\Q (.int ys.length) H):=by
 intro Ae s U H xs us Q I r h;obtain⟨p,ys,rfl,hq,q⟩:=h;obtain⟨u,rfl,rx⟩:=GH r;cases rx;have hn:=Kf;rcases hq with hq|hq
 .obtain⟨Bh,r',pl,hz⟩:=I.list hq;have hlen:=r'.length;exact Calls.call_len_list pl.isList (by simp only[AU]<;>ext) ⟨.int ys.length,H,I.tok _,⟨s.toks+1,by rw[AU,hlen]⟩,q⟩
 .obtain⟨Bh,r',pl,hz⟩:=I.tuple hq;have hlen:=r'.length;exact len_tuple pl (by simp only[AU]<;>ext) ⟨.int ys.length,H,I.tok _,⟨s.toks+1,by rw[AU,hlen]⟩,q⟩
theorem y0:E4 X (.builtin "len") (λxs H Q=>∃z,xs=[.str z]/\z.length<=Am/\Q (.int z.length) H):=by
 intro Ae s U H xs us Q I r h;obtain⟨z,rfl,hz,q⟩:=h;obtain⟨u,rfl,t,rfl⟩:=GH r;have hn:=Kf;exact len_str (by ext) ⟨.int z.length,H,I.tok _,⟨_,rfl⟩,q⟩
theorem y9:E4 X (.type "list") (λxs H Q=>∃p ys,xs=[.ref p]/\(F0 X.K H p ys\/Lg X.K H p ys)/\∀l,H l=none->Q (.ref l) (Cv H l (.lst ys))):=by
 intro Ae s U H xs us Q I r h;obtain⟨p,ys,rfl,hq,q⟩:=h;obtain⟨u,rfl,rx⟩:=GH r;cases rx
 have fin:∀Bh,BF ys Bh->ys.length<=Am->∀h' c',(∀b o',s.heap.get? b=some o'->h'.get? b=some o') ->
   h'.get? s.heap.objs.size=some {cls:=.type "list",dict:=none,data:=.seq Bh.toArray c',slots:=#[]}->EP X Ae U Q (.ref s.heap.objs.size) {s with heap:=h' }:=λBh r' hz h' c' kp e=>
  ⟨.ref s.heap.objs.size,_,I.laid kp (AH _) (show Do X.prog X.w _ h' _ (.lst ys)from⟨hz,Bh,c',r',e⟩),rfl,q _ (I.hok.fresh (AH _))⟩
 rcases hq with hq|hq
 .obtain⟨Bh,r',pl,hz⟩:=I.list hq;have hlen:=r'.length;obtain⟨o,ho,hc,n,hd⟩:=pl.isList;exact call_list_seq p (.inl rfl) ho hc hd (λh' c' kp e=>fin Bh r' hz h' c' kp e) (by simp only[AU]<;>ext)
 .obtain⟨Bh,r',pl,hz⟩:=I.tuple hq;have hlen:=r'.length;obtain⟨o,ho,hc,n,hd⟩:=pl;exact call_list_seq p (.inr rfl) ho hc hd (λh' c' kp e=>fin Bh r' hz h' c' kp e) (by simp only[AU]<;>ext)
theorem ZfO:E4 X (.type "tuple") (λxs H Q=>∃p ys,xs=[.ref p]/\((F0 X.K H p ys/\∀l,H l=none->Q (.ref l) (Cv H l (.tup ys)))\/(Lg X.K H p ys/\Q (.ref p) H))):=by
 intro Ae s U H xs us Q I r h;obtain⟨p,ys,rfl,h⟩:=h;obtain⟨u,rfl,rx⟩:=GH r;cases rx;rcases h with⟨hq,q⟩|⟨hq,q⟩
 .obtain⟨Bh,r',pl,hz⟩:=I.list hq;have hlen:=r'.length;refine call_tuple_list pl.isList (λh' kp=>?_) (by simp only[AU]<;>ext);have I1:A4 X Ae U H {s with heap:=h' }:=I.kept kp
  have I2:A4 X Ae U (Cv H h'.objs.size (.tup ys)) {s with heap:=h'.push {cls:=.type "tuple",data:=.seq Bh.toArray} }:=
   I1.laid (λb o e=>Ag _ e) (AH _) (show Do X.prog X.w _ _ _ (.tup ys)from⟨hz,Bh,r',LG.new _ _⟩)
  exact⟨.ref h'.objs.size,_,I2,rfl,q _ (I1.hok.fresh (AH _))⟩
 .obtain⟨Bh,r',pl,hz⟩:=I.tuple hq;exact call_tuple_same pl ⟨.ref p,H,I,rfl,q⟩
def Zn (K:Ac)(T:String)(x:V)(H:Hp):Prop:=match x with
 |.str _=>T = "str"
 |.int _=>T = "int"
 |.ref p=>(T = "list"/\∃xs,F0 K H p xs)\/(T = "tuple"/\∃o,K.lookup p=some o/\o.cls=.type "tuple"/\o.dict=none) \/
   (T = "dict"/\((∃kvs,H p=some (.dK kvs))\/∃kvs,H p=some (.dT kvs)))\/(T = "set"/\∃S n,H p=some (.set S n))
 |_=>False
theorem pM (I:A4 X Ae U H s)(r:RelV x v)(ty:Zn X.K T x H) :
  s.TypeIs v T/\∀a,v=.ref a->∃ob,s.heap.get? a=some ob/\ob.dict=none:=by
 cases x with
 |str z=>obtain⟨t,rfl⟩:=r;cases(show T = "str" from ty);exact⟨MR s z t,λ_ e=>nomatch e⟩
 |int i=>obtain⟨t,rfl⟩:=r;cases(show T = "int" from ty);exact⟨typeIs_int s i t,λ_ e=>nomatch e⟩
 |ref p=>
  cases r;rcases ty with⟨rfl,xs,hq⟩|⟨rfl,o,hk,hc,hd⟩|⟨rfl,hk⟩|⟨rfl,S,n,hk⟩
  .obtain⟨Bh,_,pl,_⟩:=I.list hq;refine⟨pl.isList.typeIs,λa e=>?_⟩;cases e;obtain⟨o,n,e,c,hd,_⟩:=pl;exact⟨o,e,hd⟩
  .refine⟨⟨o,I.kIn p o hk,hc⟩,λa e=>?_⟩;cases e;exact⟨o,I.kIn _ o hk,hd⟩
  .have z:∃o,s.heap.get? p=some o/\o.ExactDict:=by
    rcases hk with⟨kvs,hk⟩|⟨kvs,hk⟩
    .obtain⟨_,_,_,_,o,_,_,e,ex,_⟩:=I.hok p _ hk;exact⟨o,e,ex⟩
    .obtain⟨_,_,_,_,o,_,_,e,ex,_⟩:=I.hok p _ hk;exact⟨o,e,ex⟩
   obtain⟨o,e,ex⟩:=z;refine⟨⟨o,e,ex.1⟩,λa e2=>?_⟩;cases e2;exact⟨o,e,ex.2.1⟩
  .obtain⟨o,_,_,_,e,ex,_⟩:=I.hok p _ hk;refine⟨⟨o,e,ex.1⟩,λa e2=>?_⟩;cases e2;exact⟨o,e,ex.2.1⟩
 |_=>exact C7 ty
def cV (K:Ac)(T:String)(r:V->List V->Hp->VK->Prop)(to:TE):TE:=λU H Q=>to U H λx H1=>Zn K T x H1/\r x [] H1 Q
def xK (K:Ac)(T:String)(r:V->List V->Hp->VK->Prop)(to:TE)(t:TA):TE:=λU H Q=>to U H λx H1=>Zn K T x H1/\t U H1 λxs H2=>r x xs H2 Q
variable {o e:B8}{es:List B8}{to:TE}{t:TA}{name:Str}{apos cpos:Pos}{T id:String}{r:V->List V->Hp->VK->Prop}
theorem c9 (pa:Nf T)(slot:cD T name id)(hty:Tj (.builtin id)=pure (.type "method_descriptor"))(hm:MP X id r)(ho:PE X o to)
  (hbase:CD o name X.env (eval o X.env)=eval o X.env:=by rfl) (hline:(apos.endLine == cpos.line)=true:=by rfl):PE X (.Call (.Attribute o name apos) [] [] cpos) (cV X.K T r to):=by
 intro Ae s U H Q I h;refine wpAny_Call_method0_late hbase hline (Dl (ho Ae s U H _ I h) λv s1 e=>e.el λx H1 I1 r1 ⟨ty,q1⟩=>?_);obtain⟨h1,h2⟩:=pM I1 r1 ty;exact⟨T,id,pa,slot,hty,h1,h2,Hh rfl (PySem.evalArgs_none (hm Ae s1 U H1 x [] v [] Q I1 r1 .nil q1))⟩
theorem nF (pa:Nf T)(slot:cD T name id)(hty:Tj (.builtin id)=pure (.type "method_descriptor"))(hm:MP X id r)(ho:PE X o to)(ha:PA X (e::es) t)
  (hbase:CD o name X.env (eval o X.env)=eval o X.env:=by rfl)
  (hfew:((Cb cpos (Au (e::es) X.env)).all (λx=>!x.1) && (Fo cpos (DC [] X.env)).all (λx=>x.1.isSome)
   && decide ((e::es).length+([]:List E2).length+(if ([]:List E2).isEmpty then 0 else 1)<30))=true:=by rfl)
  (hline:(apos.endLine == cpos.line)=true:=by rfl) (hs:Au (e::es) X.env=(false,eval e X.env)::Au es X.env:=by rfl) (hplain:(Cb cpos (Au es X.env)).any (·.1)=false:=by rfl) :
  PE X (.Call (.Attribute o name apos) (e::es) [] cpos) (xK X.K T r to t):=by
 intro Ae s U H Q I h;refine Py hbase hfew hline rfl (Dl (ho Ae s U H _ I h) λv s1 e=>e.el λx H1 I1 r1 ⟨ty,q1⟩=>?_);obtain⟨h1,h2⟩:=pM I1 r1 ty;refine⟨T,id,pa,slot,hty,h1,h2,?_⟩;have hA:=ha cpos Ae s1 U H1 _ I1 q1;rw[hs]at hA ⊢;refine Hh (by show(false || (Cb cpos (Au es X.env)).any (·.1))=false;rw[hplain]<;>rfl) (Nm ?_);exact Dl hA λus s2 e=>e.el λvs H2 I2 r2 q2=>hm Ae s2 U H2 x vs v us Q I2 r1 r2 q2
end
def YI (X:Cx)(id:String)(r:V->List V->Hp->VK->Prop):Prop:=
 ∀(Ae:List (Av×Obj)) (s:Aq) (U:St) (H:Hp) (x:V) (xs:List V) (v:Ah) (us:List Ah) (Q:VK),A4 X Ae U H s->RelV x v->BF xs us->r x xs H Q ->
  Ar (Az X.prog X.w) X.A (JY (.builtin id) (v::us)) (EP X Ae U Q) X.xe s
theorem BF.one:∀{x:V}{us:List Ah},BF [x] us->∃u,us=[u]/\RelV x u
 |_,_,h=>by
  cases h with | cons r t=>cases t;exact⟨_,rfl,r⟩
theorem BF.zero:∀{us:List Ah},BF [] us->us=[]
 |_,.nil=>rfl
theorem BF.dropLast {xs:List V}{us:List Ah}(h:BF xs us):BF xs.dropLast us.dropLast:=by
 induction h with
 |nil=>exact .nil
 |cons r t ih=>
  cases t with
  |nil=>exact .nil
  |cons q t'=>exact .cons r ih
theorem BF.eraseIdx:∀{xs:List V}{us:List Ah}(i:Nat),BF xs us->BF (xs.eraseIdx i) (us.eraseIdx i)
 |_,_,_,.nil=>.nil
 |_,_,0,.cons _ t=>t
 |_,_,i+1,.cons r t=>.cons r (BF.eraseIdx i t)
theorem BF.reverse {xs:List V}{us:List Ah}(h:BF xs us):BF xs.reverse us.reverse:=by
 induction h with
 |nil=>exact .nil
 |cons r t ih=>rw[Gz,Gz];exact BF.append ih (.cons r .nil)
theorem xq {α:Type}(l:List α):l.eraseIdx (l.length-1)=l.dropLast:=by
 induction l with
 |nil=>rfl
 |cons a r ih=>
  cases r with
  |nil=>rfl
  |cons b r=>
   have e:(a::b::r).length-1=((b::r).length-1)+1:=by
    have h1:(a::b::r).length=r.length+2:=rfl;have h2:(b::r).length=r.length+1:=rfl;ext
   rw[e,List.eraseIdx_cons_succ,ih]
   all_goals rfl
theorem tT {α:Type}:∀(l:List α) (i:Nat),(l.eraseIdx i).length<=l.length
 |[],_=>AH _
 |_::_,0=>Ju _
 |_::r,i+1=>Nat.succ_le_succ (tT r i)
section
theorem A4.lset {Bh its':List Ah}{n:Nat}{f:Array Ah->Array Ah}{t':Nat}(I:A4 X Ae U H s)(hH:H l=some (.lst xs))
  (e:s.heap.get? l=some {cls:=.type "list",data:=.seq Bh.toArray n}) (hf:f Bh.toArray=its'.toArray) (hv:BF ys its') (hz:ys.length<=Am) :
  A4 X Ae U (Cv H l (.lst ys)) {s with heap:=s.heap.update l (Hy f),toks:=t' }:=by
 have q:=PySem.IsL.update e f;rw[hf]at q;refine I.write (by rw[hH];exact trivial) (.inl rfl) (λb' u hb hu=>(A9 s.heap (Hy f) (Bj hb)).trans hu) ⟨_,q⟩ ?_;exact⟨hz,its',_,hv,q⟩
theorem A4.lnew (I:A4 X Ae U H s)(hv:BF ys Bh)(hz:ys.length<=Am) :
  A4 X Ae U (Cv H s.heap.objs.size (.lst ys)) {s with heap:=s.heap.push {cls:=.type "list",data:=.seq Bh.toArray},toks:=t' }:=
 I.laid (λ_ _ q=>Ag _ q) (AH _) ⟨hz,Bh,0,hv,Ax _ rfl⟩
theorem A4.fresh (I:A4 X Ae U H s):H s.heap.objs.size=none:=I.hok.fresh (AH _)
theorem A4.lstM (I:A4 X Ae U H s)(hH:H l=some (.lst xs)):xs.length<=Am/\∃(Bh:List Ah) (n:Nat),BF xs Bh/\xs.length=Bh.length/\s.heap.get? l=some {cls:=.type "list",data:=.seq Bh.toArray n}:=by
 obtain⟨z,Bh,n,r,e⟩:=I.hok l _ hH;exact⟨z,Bh,n,r,r.length,e⟩
theorem Qf {n:Nat}(h:n<=Am):JC n=false:=by
 unfold JC;exact decide_eq_false (by ext)
end
section
variable {X:Cx}
def RH:V->List V->Hp->VK->Prop:=λx vs H Q=>∃l xs y,x=.ref l/\vs=[y]/\H l=some (.lst xs)/\xs.length<Am/\Q .non (Cv H l (.lst (xs++[y])))
theorem vm:YI X "list.append" RH:=by
 intro Ae s U H x vs v us Q I rx rv;ext1⟨l,xs,y,e1',e2',hH,hz,q⟩;cases rx;obtain⟨u,rfl,ru⟩:=rv.one;obtain⟨z,Bh,n,r,hl,e⟩:=I.lstM hH;refine Iq F.slot_list_append ⟨_,e,rfl⟩ F.entry_list_append (F.args_list_append_2 _ _) (PySem.list_append l Bh.toArray n u (by rw[AU];ext)) ⟨e,?_⟩;refine⟨.non,_,I.lset hH e (by simp) (r.append (.cons ru .nil)) ?_,rfl,q⟩;rw[As,Dg];ext
def eW:V->List V->Hp->VK->Prop:=λx vs H Q=>∃l xs y,x=.ref l/\vs=[]/\H l=some (.lst xs)/\xs[xs.length-1]? = some y/\Q y (Cv H l (.lst xs.dropLast))
theorem gf:YI X "list.pop" eW:=by
 intro Ae s U H x vs v us Q I rx rv;ext1⟨l,xs,y,e1',e2',hH,hy,q⟩;cases rx;have hus:=rv.zero;subst hus;obtain⟨z,Bh,n,r,hl,e⟩:=I.lstM hH;obtain⟨u,hu,ru⟩:=r.get hy
 have hy':Bh.toArray[Bh.toArray.size-1]? = some u:=by
  show Bh.toArray[Bh.length-1]? = some u;rw[<- C3,<- hl];exact hu
 refine Iq F.slot_list_pop ⟨_,e,rfl⟩ F.entry_list_pop (F.args_list_pop_1 _) (MeetsSeq.list_pop_last l Bh.toArray n u hy' (by rw[AU];ext)) ⟨e,?_⟩;refine⟨y,_,I.lset hH e ?_ r.dropLast ?_,ru,q⟩
 .show Bh.toArray.eraseIdxIfInBounds (Bh.toArray.size-1)=Bh.dropLast.toArray;rw[AU,JK,xq]
 .rw[List.length_dropLast];ext
def TR:V->List V->Hp->VK->Prop:=λx vs H Q=>∃l xs i k y,x=.ref l/\vs=[.int i]/\H l=some (.lst xs)/\-(2^63)<=i/\i<2^63/\V0 i xs.length=some k/\xs[k]? = some y/\Q y (Cv H l (.lst (xs.eraseIdx k)))
theorem sv:YI X "list.pop" TR:=by
 intro Ae s U H x vs v us Q I rx rv;ext1⟨l,xs,i,k,y,e1',e2',hH,h1,h2,hk,hy,q⟩;cases rx;obtain⟨u,rfl,ru⟩:=rv.one;obtain⟨t,rfl⟩:=ru;obtain⟨z,Bh,n,r,hl,e⟩:=I.lstM hH;obtain⟨w,hw,rw'⟩:=r.get hy
 refine Iq F.slot_list_pop ⟨_,e,rfl⟩ F.entry_list_pop (F.args_list_pop_2 _ _)
  (MeetsSeq.list_pop_at l Bh.toArray n i t k w (fitsIndex_both h1 h2) (by rw[AU,<- hl];exact hk) (by rw[<- C3];exact hw) (by rw[AU];ext)) ⟨e,?_⟩
 refine⟨y,_,I.lset hH e ?_ (r.eraseIdx k) ?_,rw',q⟩
 .show Bh.toArray.eraseIdxIfInBounds k=(Bh.eraseIdx k).toArray;rw[JK]
 .have:=tT xs k;ext
def P6:V->List V->Hp->VK->Prop:=λx vs H Q=>∃l xs,x=.ref l/\vs=[]/\H l=some (.lst xs)/\Q .non (Cv H l (.lst xs.reverse))
theorem we:YI X "list.reverse" P6:=by
 intro Ae s U H x vs v us Q I rx rv h;obtain⟨l,xs,rfl,rfl,hH,q⟩:=h;cases rx;have hus:=rv.zero;subst hus;obtain⟨z,Bh,n,r,hl,e⟩:=I.lstM hH;refine Iq F.slot_list_reverse ⟨_,e,rfl⟩ F.entry_list_reverse (F.args_list_reverse_1 _) (AutoSeq1.list_reverse_list_0 l Bh.toArray n (by rw[AU];ext)) ⟨e,?_⟩;refine⟨.non,_,I.lset hH e (by simp) r.reverse ?_,rfl,q⟩;rw[OF];ext
end
section
end
section
end
end L2
namespace Att
open PySem PySem.W PySem.Calls PyProof.Rows
theorem ZdN :∀ns vs,WellAll P h vs (ns.map YR)->PP vs ns:=by
 intro ns;induction ns with
 |nil=>intro vs w;rw[DB]at w;cases w;exact .nil
 |cons n ns ih=>
  intro vs w;rw[AT]at w;cases w with
  |cons a b=>cases a;exact .cons _ _ (ih _ b)
theorem vb {l:OpenLaw}(hn:l.most=some n)
  (hpre:l.row.toRowW.claim.pre args=true) (hwl:WellAll P h Wu args) :
  ∃a vs ns,Wu=[AC a]/\args=[WData.list (ns.map YR)]/\h.get? a=some {cls:=.type "list",data:=.seq vs.toArray}/\PP vs ns/\ns.length<=n:=by
 have hsh:=(pre_splitW hpre).1;have hc:l.pre.holds [] {args:=args}=true:=(pre_splitW hpre).2;obtain⟨d,r,rfl,h1,h2⟩:=hasAllW_cons hsh;obtain rfl:=hasAllW_nil h2;obtain⟨xs,rfl,h3⟩:=hasW_list h1;obtain⟨ns,rfl⟩:=items_int h3
 have hlen:ns.length<=n:=by
  unfold OpenLaw.pre at hc
  have h4:(WTm.not (.lt (.lit (.int (n:Int))) (.len (.arg 0)))).holds [] {args:=[.list (ns.map .int)]}=true:=by
   have h4:=(holds_andW hc).1;rw[hn]at h4;exact h4
  have h5:=condW_of h4 (w_not (w_lt w_lit (w_len_list (w_arg rfl))));rw[Ab]at h5;refine Nat.le_of_not_lt λq=>?_;have q':(n:Int)<((ns.length:Nat):Int):=by ext
  first
   |(rw[decide_eq_true q']at h5;exact absurd h5 (by decide))
   |(simp at h5;ext)
 cases hwl with
 |cons w1 w2=>
  cases w2;cases w1 with
  |list ho hall=>exact⟨_,_,ns,rfl,rfl,ho,ZdN ns _ hall,hlen⟩
theorem u7 (l:OpenLaw)(args:List WData):l.row.toRowW.claim.post args (.bool true) args=true:=
 postW_of
  (show UZ [] (.bool true) .bool=true by first | rfl | decide | simp[UZ,WShape.arms,WShape.armsAll])
  (show(WTm.eq .res (.lit (.bool true))).value [] {args:=args,res:=some (.bool true),after:=args}=some (.bool (true == true))from w_eq_bool (w_res rfl) w_lit) rfl
theorem attach_call {l:OpenLaw}
  (hn:l.most=some n) (hdf:d.params.defaults=[])
  (JY:∀ w s₀ s₁ mg mb fa o pm cd doc a vs ns,
   Ground q loose [] XP w s₀ mg mb s₁.heap->YP w s₁.heap ->
   s₁.heap.get? fa=some o->o.data=.func (docDef d.name d.params d.body d.scope pm cd doc)->s₁.heap.CodeRec cd d.name->mg d.name=some (.ref fa) ->
   s₁.heap.get? a=some {cls:=.type "list",data:=.seq vs.toArray}->PP vs ns->ns.length<=n->s₁.gens=#[] ->
   DP (Az l.prog w) Jx (.call (.ref fa) ⟨[.ref a],[]⟩) (λr s'=>r=.ok (.ret (.bool true))/\OldK s₁.heap s'.heap/\s'.os=s₁.os/\Iu s'.gens) s₁) :
  WalkO q loose XP YP l.row.toRowW d [] (λf vs=>Oz f vs):=by
 intro w s₀ s₁ mg mb G Y fa o pm cd doc dV kV ho hd hcd hD hmg hg args Wu as hpre hlay hrd hwl hlo;obtain rfl:dV=.none:=Dflts.none hD hdf;obtain rfl:kV=.none:=Dflts.noKw hD;obtain⟨a,vs,ns,e1',e2',hobj,hints,hlen⟩:_:=vb hn hpre hwl;refine enter_call (GF (JY w s₀ s₁ mg mb fa o pm cd doc a vs ns G Y ho (fd_plain hd) hcd hmg hobj hints hlen hg) λr s' hq=>?_);obtain⟨rfl,h2,h3,h4⟩:=hq;exact⟨.inl ⟨.bool true,.bool true,[],rfl,λ_=>rfl,.bool true,u7 l _,λ_=>⟨Wg,λ_ hm=>(nomatch hm)⟩⟩,h2,h3,h4⟩
section
variable      {K:Tw}
noncomputable def fP (h:CH)(L d:Av):List (Av×Obj):=(Bk h.objs.size).filterMap λa=>if a=L\/a=d then none else(h.get? a).map λo=>(a,o)
end
end Att
namespace L2
open PySem PySem.Spec PyProof.Rows
theorem uH:∀{vs:List Ah}{ns:List Int},PP vs ns->BF (ns.map V.int) vs
 |_,_,.nil=>.nil
 |_,_,.cons n t h=>.cons ⟨t,rfl⟩ (uH h)
def UG (H:Hp):Prop:=∀b,H b=none\/∃o xs,H b=some (.frz o (.lst xs))
theorem sr {K:Ac}
  (KX:K.In s₁.heap) (hns:s₁.heap.Ns BS mg) (hb:s₁.heap.Ns To mb) (hbb:∀x:Str,x≠"__name__"->mb x=EJ x) (hlim:s₁.heap.NoLimit) (hg:s₁.gens=#[])
  (ha:s₁.heap.get? a=some {cls:=.type "list",data:=.seq vs.toArray}) (hi:PP vs ns) (hl:ns.length<=Am) (hr:Dv k Jx)
  (F:∀base:CH,K.In base->base.Ns BS mg->FnOk P w K mg base CX k fa fd [x] sp) (hbind:∀(s:Aq) (u:Ah),MG s fd ⟨[u],[]⟩ [(x,u)])
  (hsp:∀H:Hp,UG H->F0 K H a (ns.map V.int)->sp [.ref a] H (λv _=>v=.bl true) λ_ _ _=>False)
  (hCX:∀H e s',CX [] H s₁ (λ_ _ _=>False) e s'->False) :
  DP (Az P w) Jx (.call (.ref fa) ⟨[.ref a],[]⟩) (λr s'=>r=.ok (.ret (.bool true))/\OldK s₁.heap s'.heap/\s'.os=s₁.os/\Iu s'.gens) s₁:=by
 have rv:=uH hi;have lenV:=hi.length
 have core:∀H:Hp,UG H->F0 K H a (ns.map V.int)->Ik P w H s₁.heap->(∀b,H b≠none->b=a)->(H a≠none->K.lookup a=none) ->
   DP (Az P w) Jx (.call (.ref fa) ⟨[.ref a],[]⟩) (λr s'=>r=.ok (.ret (.bool true))/\OldK s₁.heap s'.heap/\s'.os=s₁.os/\Iu s'.gens) s₁:=by
  intro H hO hS hok hA hK;have base_of:∀{b:Av} {o:Obj},s₁.heap.get? b=some o->H b=none->(Lz s₁.heap H).get? b=some o:=λe n=>si e n
  have noA:∀{b:Av} {o:Obj} {es:Array GQ} {ep:Nat},s₁.heap.get? b=some o->o.data=.dict es ep->H b=none:=λ{b o es ep} e d=>by
   cases q:H b with
   |none=>rfl
   |some u=>have e':=hA b (by rw[q];simp);subst e';rw[ha]at e;cases e;have d':=d;cases d'
  have nsK:∀{b:Av} {m:Str->Option Ah},s₁.heap.Ns b m->(Lz s₁.heap H).Ns b m:=λ{b m} ⟨o,es,ep,e,d,r⟩=>⟨o,es,ep,base_of e (noA e d),d,r⟩
  have hKb:K.In (Lz s₁.heap H):=λb o e=>base_of (KX b o e) (by
   cases q:H b with
   |none=>rfl
   | some u=>have e':=hA b (by rw [q];simp);subst e';rw [hK (by rw [q];simp)] at e;cases e)
  have hM:Mod K mg (Lz s₁.heap H):=⟨hKb,nsK hns,⟨mb,nsK hb,hbb⟩,let ⟨mc,h1,h2⟩:=hlim;⟨mc,nsK h1,h2⟩⟩;have e0:NS P w K mg (Lz s₁.heap H) Jx [] s₁ H:=⟨rfl,hM,λb o e=>np e,We (t9 _ _),trivial,λb hb=>absurd (show b∈([]:List Av)from hb) (by simp),hok,.of_eq hg⟩;refine GF ((F _ hKb (nsK hns)).run Jx [] s₁ H ⟨[.ref a],[]⟩ [.ref a] [.ref a] _ _ hr e0 (hbind s₁ (.ref a)) (.cons rfl .nil) (hsp H hO hS)) λr s' h=>?_;cases r with
  |error e=>exact(hCX H e s' h).elim
  |ok fl=>
   cases fl with
   |next=>exact C7 h
   |brk=>exact C7 h
   |cont=>exact C7 h
   |ret u=>
    obtain⟨v,H',os,bare,un,hok',r',q⟩:_:=h;have q':=q;subst q';obtain rfl:u=KJ true:=r';refine⟨rfl,OldK.of_keep λb o e=>?_,os,bare⟩;cases q:H b with
    |none=>exact un.keep b o e q (by intro z;exact absurd (show b∈([]:List Av)from z) (by simp)) (by simp)
    |some u=>
     rcases hO b with z|⟨ob,xs,z⟩
     .rw[q]at z;cases z
     .have z2:=un.frzs b ob _ z;obtain⟨e1,_⟩:=hok b _ z;obtain⟨e2,_⟩:=hok' b _ z2;rw[e]at e1;cases e1;exact e2
 cases hk:K.lookup a with
 |some o=>have e:=KX a o hk;rw[ha]at e;cases e;refine core (λ_=>none) (λ_=>.inl rfl) (.inr ⟨_,vs.toArray,_,hk,rfl,rfl,rfl,by rw[AU,lenV];exact hl,by simpa using rv⟩) (λb u z=>by have z':(none:Option HO)=some u:=z;cases z') (λb z=>absurd rfl z) λz=>absurd rfl z
 |none=>
  refine core (λb=>if b=a then some (.frz {cls:=.type "list",data:=.seq vs.toArray} (.lst (ns.map V.int)))else none) (λb=>?_) (.inl (.inr ⟨{cls:=.type "list",data:=.seq vs.toArray},if_pos rfl⟩)) (λb u z=>?_) (λb z=>?_) λ_=>hk
  .by_cases hb:b=a
   .exact .inr ⟨_,_,if_pos hb⟩
   .exact .inl (if_neg hb)
  .by_cases hb:b=a
   .have z':=(if_pos hb).symm.trans z;cases z';subst hb;exact⟨ha,by rw[Ab];exact hl,vs,_,rv,ha⟩
   .have z':=(if_neg hb).symm.trans z;cases z'
  .by_cases hb:b=a
   .exact hb
   .exact absurd (if_neg hb) z
theorem walk_of {l:Pb}{n k:Nat}{q:Bp}{loose:List Str}{XP:(Str->Option Ah)->CH->Prop}{YP:BK->CH->Prop}{d:DefRec}{K:J0->Ac}{CX:BK->VT}{sp:BK->Sp}{x:Str}
  (hn:l.most=some n) (hn2:n<=Am) (hdf:d.params.defaults=[]) (hr:Dv k Jx)
  (hY:∀w h,YP w h->(K w.params).In h)
  (F:∀ w mg fa h,(K w.params).In h->h.Ns BS mg->mg d.name=some (.ref fa) ->
   ∃fd,(∀s u,MG s fd ⟨[u],[]⟩ [(x,u)]) /\
    ∀ base,(K w.params).In base->base.Ns BS mg->FnOk l.prog w (K w.params) mg base (CX w) k fa fd [x] (sp w))
  (hsp:∀w H a (ns:List Int),ns.length<=n->UG H->F0 (K w.params) H a (ns.map V.int)->sp w [.ref a] H (λv _=>v=.bl true) λ_ _ _=>False)
  (hCX:∀(w:BK) (H:Hp) (s:Aq) (e:Ah) (s':Aq),CX w [] H s (λ_ _ _=>False) e s'->False) :
  QM q loose XP YP l.row.toRowW d [] (λf vs=>Oz f vs):=by
 refine Att.attach_call hn hdf λw s₀ s₁ mg mb fa o pm cd doc a vs ns G Y ho hd hcd hmg hobj hints hlen hg=>?_;have KX:=hY w _ Y;obtain⟨fd,hb,hF⟩:=F w mg fa _ KX G.T.g hmg;exact sr KX G.T.g G.T.b G.T.builtins G.T.nolimit hg hobj hints (A7 hlen hn2) hr hF hb (λH hO hS=>hsp w H a ns hlen hO hS) λH e s'=>hCX w H s₁ e s'
noncomputable def RS (s:DE):Arguments:=match s with
 |.FunctionDef _ a _ _ _ _ _ _ _ _=>a
 |_=>{posonlyargs:=[],args:=[],vararg:=none,kwonlyargs:=[],kw_defaults:=[],kwarg:=none,defaults:=[]}
noncomputable def NM (s:DE):List DE:=match s with
 |.FunctionDef _ _ b _ _ _ _ _ _ _=>b
 |_=>[]
noncomputable def IJ (s:DE):KO:=match s with
 |.FunctionDef _ _ _ _ _ _ sc _ _ _=>sc
 |_=>{kind:=.function,names:=[],isGenerator:=false,isCoroutine:=false}
abbrev CX0:VT:=λ_ _ _ _ _ _=>False
abbrev E0:XK:=λ_ _ _=>False
theorem Ol :IB CX0 X E0:=λ_ _ _ _ _ _ _ h=>h.elim
structure Cz (K:Ac)(x qual:Str)(st:DE)(f:Av)(fd:DG):Prop where
 ex:∃(oc:Ah) (od:Option Av) (kV doc pm:Ah) (an:Option Av) (cdv ct:Ah) (osl:Array (Option Ah)),
  fd=Fx x qual (RS st) (NM st) (IJ st) .none kV doc pm an cdv ct/\K.lookup f=some ⟨oc,od,.func fd,osl⟩/\JZ K cdv qual=true
 kp:FI K (.ref f)=true
section
variable   {K:Ac}
theorem Cz.ok {st:DE}(F:Cz K x qual st f fd)(S:Fb N ps (IJ st))(len:∀vs H Q E,sp vs H Q E->vs.length=ps.length)
  (hbody:∀ cdv A outer s H vs Q E,Dv k (A.deeper (FG qual (IJ st) s.heap.objs.size f cdv))->sp vs H Q E ->
   ∃ t,K3 (JQ CX0 P w K mg base N qual (IJ st) f cdv A outer s H E).nox (NM st) t/\t { nx:=λ_ H'=>Q .non H',rt:=Q } (start N vs) H):FnOk P w K mg base CX0 (k+1) f fd ps sp:=by
 obtain⟨oc,od,kV,doc,pm,an,cdv,ct,osl,rfl,lk,hcd⟩:=F.ex;refine yY lk hcd S len λA outer s H vs Q E hr hsp=>?_;obtain⟨t,h,q⟩:=hbody cdv A outer s H vs Q E hr hsp;exact⟨t,h.nox,q⟩
theorem Cz.binds {st:DE}(F:Cz K x qual st f fd)
  (h:∀kV doc pm an cdv ct us,us.length=ps.length->Eb (Fx x qual (RS st) (NM st) (IJ st) .none kV doc pm an cdv ct) ⟨us,[]⟩=pure (ps.zip us)):HF K fd ps []:=by
 obtain⟨oc,od,kV,doc,pm,an,cdv,ct,osl,rfl,lk,hcd⟩:=F.ex;exact .all (h kV doc pm an cdv ct)
theorem fun_mk {x qual:Str}{st:DE}{f:Av}{oc:Ah}{od an:Option Av}{osl:Array (Option Ah)}{kV doc pm cdv ct:Ah}(l:K.lookup f=some ⟨oc,od,.func (Fx x qual (RS st) (NM st) (IJ st) .none kV doc pm an cdv ct),osl⟩)
  (c:JZ K cdv qual=true) (k:FI K (.ref f)=true):Cz K x qual st f (Fx x qual (RS st) (NM st) (IJ st) .none kV doc pm an cdv ct):=⟨⟨oc,od,kV,doc,pm,an,cdv,ct,osl,rfl,l,c⟩,k⟩
end
theorem Kp (hr:Dv k A):A.units+1<DV:=Fk (IM (by decide:1<=64) _) hr.units
theorem B5 (h:n<=1000):n<Am:=Fk h (by decide)
section
theorem pv (i:Nat)(hN:X.N[i]? = some x:=by rfl)(hv:UD X.env.scope x:=by first | exact Cd rfl | exact FX (Cd rfl) | exact FX (FX rfl))(hd:(x == ("__debug__":Str))=false:=by decide)
  (hcd:(x == ("__classdict__":Str))=false:=by decide):PE X (.Name x pos) (OM i):=ZP hN hv hd hcd
end
theorem Cy {c A B:Prop}[Decidable c](h1:c->A)(h2:¬c->B):if c then A else B:=by
 by_cases h:c
 .rw[if_pos h];exact h1 h
 .rw[if_neg h];exact h2 h
theorem nj :MP X "int.bit_length" (λx xs H Q=>∃i,x=.int i/\xs=[]/\Q (.int (D6 i)) H):=by
 intro Ae s U H x xs v us Q I rx r h;obtain⟨i,rfl,rfl,q⟩:=h;obtain⟨t,rfl⟩:=(show∃t,v=D0 i t from rx);cases r;exact Za ⟨.int _,H,I.tok _,⟨_,rfl⟩,q⟩
theorem A4.track (I:A4 X Ae U H s)(f:Jb X Ae H D)
  (new:Do X.prog X.w (Cv H D o) s.heap D o):A4 X Ae U (Cv H D o) s:=by
 obtain⟨hn,h2,_,h1,h3,h4⟩:=f;have hu:∀b u,H b=some u->Cv H D o b=some u:=λb u e=>by rw[HL (VQ e hn)];exact e
 have hok:Ik X.prog X.w (Cv H D o) s.heap:=λb u e=>by
  by_cases hb:b=D
  .subst hb;rw[L1]at e;cases e;exact new
  .rw[HL hb]at e;exact(I.hok b u e).stay (λ_ _ _ q=>q) (λc q=>hu c _ q) λc xs q=>hu c _ q
 exact I.step (ch:=[D])
  (λb hb=>by
   have e:b=D:=by simpa using hb
   subst e;exact ⟨h1,h2,h3,h4⟩)
  (λb o' _ _ _ e _=>e) (λb o' _ _ _ e _=>⟨o'.slots,e⟩)
  (λb o' hb e n=>by rw[HL (λz=>hb (by simp[z]))];exact n)
  (λb o' _ e=>⟨o',e⟩) (λb xs e=>hu b _ e) (λb o' u e=>hu b _ e) (λb ps e=>⟨#[],by rw[hu b _ e];simp⟩) (λm hm=>hm) hok I.bare
theorem uW {α β:Type}{f:α->β->Sem (ForInStep β)}(g:α->β->β):∀(l:List α) (c:β),(∀x∈l,∀c,f x c=pure (.yield (g x c)))->forIn l c f=pure (l.foldl (λc x=>g x c) c)
 |[],c,_=>rfl
 |x::l,c,h=>by
  rw[G0,h x AG,pure_bind];exact uW g l (g x c) λy hy=>h y (AF _ hy)
noncomputable def I9 (env:Env)(y:Str×Fs)(c:List (Str×Av)):List (Str×Av):=if (y.2 == .free)=true then(y.1,(env.cells.lookup y.1).getD 0)::c else c
noncomputable def Eo (env:Env)(l:List (Str×Fs))(c:List (Str×Av)):List (Str×Av):=l.foldl (λc y=>I9 env y c) c
theorem kG {scope:KO}{env:Env}(h:∀y∈scope.names,y.2=.free->∃c,env.cells.lookup y.1=some c):closureFor scope env=pure (Eo env scope.names []):=by
 simp only[closureFor]
 rw [uW (I9 env) scope.names [] (λx hx c=>by
  obtain⟨n,k⟩:=x;by_cases hk:k=.free
  .subst hk;obtain⟨a,ha⟩:=h _ hx rfl;simp[I9,cellOf,ha]
  .have:(k == B4)=false:=by simpa using hk
   simp [I9,this])]
 rfl
theorem lookup_mem :∀{l:List (Str×α)},l.lookup x=some k->(x,k)∈l
 |[],h=>by simp at h
 |(n,a)::r,h=>by
  rw[Bs]at h;cases e:x == n with
  |true=>
   rw[e]at h;have e':x=n:=by simpa using e
   have h':a=k:=by simpa using h
   rw[e',h'];exact AG
  |false=>rw[e]at h;exact AF _ (lookup_mem (by simpa using h))
theorem Uw :∀(l:List (Str×Fs)) (acc:List (Str×Av)),(∀y∈l,y.2=.free->∃c,env.cells.lookup y.1=some c) ->
  (∀x c,acc.lookup x=some c->env.cells.lookup x=some c)->∀x c,(Eo env l acc).lookup x=some c->env.cells.lookup x=some c
 |[],acc,_,ha,x,c,e=>ha x c e
 |(n,k)::l,acc,h,ha,x,c,e=>by
  refine Uw l (I9 env (n,k) acc) (λy hy=>h y (AF _ hy)) (λx c e=>?_) x c e;by_cases hk:k=.free
  .subst hk;obtain⟨a,hb⟩:=h (n,.free) AG rfl;have z:I9 env (n,B4) acc=(n,a)::acc:=by simp[I9,hb]
   rw[z,Bs]at e;cases q:x == n with
   |true=>
    rw[q]at e;have q':x=n:=by simpa using q
    have e':a=c:=by simpa using e
    rw[q',<- e'];exact hb
   |false=>rw[q]at e;exact ha x c (by simpa using e)
  .have:(k == B4)=false:=by simpa using hk
   have z:I9 env (n,k) acc=acc:=by simp[I9,this]
   rw[z]at e;exact ha x c e
theorem iF :∀(l:List (Str×Fs)) (acc:List (Str×Av)),((∃c,acc.lookup x=some c)\/(x,B4)∈l)->∃c,(Eo env l acc).lookup x=some c
 |[],acc,h=>by
  rcases h with h|h
  .exact h
  .cases h
 |(n,k)::l,acc,h=>by
  refine iF l (I9 env (n,k) acc) ?_;by_cases hk:k=.free
  .subst hk;have z:I9 env (n,B4) acc=(n,(env.cells.lookup n).getD 0)::acc:=by simp[I9]
   cases q:x == n with
   |true=>exact .inl ⟨_,by rw[z,Bs,q]⟩
   |false=>
    rcases h with⟨c,h⟩|h
    .exact .inl ⟨c,by rw[z,Bs,q];exact h⟩
    .rcases Bc.mp h with e|h
     .have e':=(Si e).1;rw[e']at q;simp at q
     .exact .inr h
  .have:(k == B4)=false:=by simpa using hk
   have z:I9 env (n,k) acc=acc:=by simp[I9,this]
   rw[z];rcases h with h|h
   .exact .inl h
   .rcases Bc.mp h with e|h
    .exact absurd (Si e).2.symm hk
    .exact .inr h
theorem bI {env:Env} :∀{names:List (Str×Fs)}{k:Fs},
  (names.map λ(n,k)=>if (k == B4 && env.scope.kind == .function && env.kindOf n == some .cell)then(n,HY)else(n,k)).lookup x=some k ->
  names.lookup x=some k\/(k=.cell/\names.lookup x=some .free)
 |[],_,h=>by simp at h
 |(n,k0)::r,k,h=>by
  rw[AT]at h;by_cases hc:(k0 == B4 && env.scope.kind == .function && env.kindOf n == some .cell)=true
  .have hf:k0=.free:=by
    simp only[Bo]at hc;simpa using hc.1.1
   simp only[hc,if_true]at h;rw[Bs]at h ⊢;cases q:x == n with
   |true=>
    rw[q]at h;have h':HY=k:=by simpa using h
    exact .inr ⟨h'.symm,by rw[hf]⟩
   |false=>rw[q]at h;exact bI (by simpa using h)
  .have hc':(k0 == B4 && env.scope.kind == .function && env.kindOf n == some .cell)=false:=by simpa using hc
   simp only[hc',if_false,FV]at h;rw[Bs]at h ⊢;cases q:x == n with
   |true=>rw[q]at h;exact .inl (by simpa using h)
   |false=>rw[q]at h;exact bI (by simpa using h)
theorem kC {env:Env} :∀{names:List (Str×Fs)},names.lookup x=some .free ->
  (names.map λ(n,k)=>if (k == B4 && env.scope.kind == .function && env.kindOf n == some .cell)then(n,HY)else(n,k)).lookup x=some .cell \/
  (names.map λ(n,k)=>if (k == B4 && env.scope.kind == .function && env.kindOf n == some .cell)then(n,HY)else(n,k)).lookup x=some .free
 |[],h=>by simp at h
 |(n,k0)::r,h=>by
  rw[AT];rw[Bs]at h;by_cases hc:(k0 == B4 && env.scope.kind == .function && env.kindOf n == some .cell)=true
  .simp only[hc,if_true];rw[Bs];cases q:x == n with
   |true=>exact .inl rfl
   |false=>rw[q]at h;exact kC (by simpa using h)
  .have hc':(k0 == B4 && env.scope.kind == .function && env.kindOf n == some .cell)=false:=by simpa using hc
   simp only[hc',if_false,FV];rw[Bs];cases q:x == n with
   |true=>rw[q]at h;exact .inr (by simpa using h)
   |false=>rw[q]at h;exact kC (by simpa using h)
theorem ZbT (I:Nat->Aq->Prop)
  (turn:∀ n s,I n s->Ar (Az prog w) A (Ip it) (λr s₁=>match r with
   |none=>R (.ok .next) s₁
   | some v=>Ar (Az prog w) A (IF target it v) (λ_ s₁'=>Ar (Az prog w) A (Lm target env v) (λ_ s₂ =>
     Ar (Az prog w) A (forIn ifs true λc r=>if r=true then do let ok <- PH c env (eval c env);pure (C9 ok) else pure (C9 r)) (λok s₃ =>
      if ok=true then Ar (Az prog w) A (eval elt env) (λx s₄ =>
       Ar (Az prog w) A (JY (.builtin "list.append") [acc,x]) (λ_ s₅=>∃ m,m<n/\I m s₅) (Mv (Az prog w) A env λe s'=>R (.error e) s') s₄) (Mv (Az prog w) A env λe s'=>R (.error e) s') s₃
      else ∃ m,m<n/\I m s₃) (Mv (Az prog w) A env λe s'=>R (.error e) s') s₂) (Mv (Az prog w) A env λe s'=>R (.error e) s') s₁') (Mv (Az prog w) A env λe s'=>R (.error e) s') s₁)
      (Mv (Az prog w) A env λe s'=>R (.error e) s') s)
  (n:Nat) (h:I n s) :
  DP (Az prog w) A (.compLoop (.ListComp elt [⟨target,iter,ifs,0⟩] scope pos) 0 it acc env) R s:=by
 refine codeAny_loop rfl I (λn s hI=>?_) n h;show Ar _ A ((compTurn (.ListComp elt [⟨target,iter,ifs,0⟩] scope pos) 0 it acc env).onRaise (λx=>do noteFrame x env;theTreesLotGoes x)) _ _ s;refine wpAny_noted ?_;rw[compTurn_list];refine Aa (wpAny_standAt (Aa (BG (turn n s hI) (λr s₁ h₁=>?_) λ_ _ h'=>h')));cases r with
 |none=>exact Ad h₁
 |some v=>
  refine Aa (BG h₁ (λ_ s₁' h₁'=>Aa (BG h₁' (λ_ s₂ h₂=>Aa (BG h₂ (λok s₃ h₃=>?_) λ_ _ h'=>h')) λ_ _ h'=>h')) λ_ _ h'=>h');cases ok with
  |false=>exact Ad ⟨rfl,h₃⟩
  |true=>exact Aa (Aa (BG h₃ (λx s₄ h₄=>Aa (BG h₄ (λ_ s₅ h₅=>Ad (Ad ⟨rfl,h₅⟩)) λ_ _ h'=>h')) λ_ _ h'=>h'))
noncomputable def FZ (X:Cx)(scope:KO)(cl:List (Str×Av))(C:Av)(N:List Str)(fp:List Av)(Ae:List (Av×Obj))(s:Aq)(H:Hp):Cx where
 prog:=X.prog
 w:=X.w
 K:=X.K
 mg:=X.mg
 base:=X.base
 A:=X.A
 N:=N
 s₀:=s
 H₀:=H
 env:=MY scope cl C X.env
 outer:=X.stack
 stack:=X.stack
 ex:=fp
 calm:=X.calm
 fn:=λ_=>false
 pn:=X.pn++Ae
 xe:=λ_ _=>False
 fz:=X.fz
def SJ:TT:=λ_ H Q=>Q true H
inductive GN (Y:Cx):List B8->TT->Prop where
 |nil:GN Y [] SJ
 |one {c:B8} {t:TT} (h:PT Y c t):GN Y [c] t
noncomputable def Mn (U:St)(caps:List (Str×Nat))(v:Option V):St:=v::caps.map λc=>(U[c.2]?).join
def Ih (wi:TI)(caps:List (Str×Nat))(tt:TT)(te:TE):TE:=λU H Q=>wi U H λJ H1=>∃(n:Nat) (W:Nat->List V->Hp->Prop),W 0 [] H1/\∀i ys H,W i ys H ->
 (J.stop i H/\ys.length<=Am/\∀p,H p=none->Q (.ref p) (Cv H p (.lst ys))) \/
 (J.go i H/\i<n/\ys.length<Am/\∀x H',J.yld i H x H'->tt (Mn U caps (some x)) H' λb H2=>if b=true then te (Mn U caps (some x)) H2 λy H3=>W (i+1) (ys++[y]) H3 else W (i+1) ys H2)
structure Dx (X:Cx)(scope:KO)(x:Str)(caps:List (Str×Nat)):Prop where
 kind:scope.kind=.function
 frees:(scope.names.all λy=>y.2 != .free || X.env.scope.names.lookup y.1 == some .cell || X.env.scope.names.lookup y.1 == some .free)=true
 nocell:(scope.names.all λy=>y.2 != .cell)=true
 locs:(scope.names.all λy=>y.2 != .local || scope.names.lookup y.1 == some .local)=true
 var:scope.names.lookup x=some .local
 capsOk:(caps.all λc=>scope.names.lookup c.1 == some .free && X.N[c.2]? == some c.1 && (X.env.scope.names.lookup c.1 == some .cell || X.env.scope.names.lookup c.1 == some .free))=true
 nd:(x::caps.map (·.1)).Nodup
noncomputable def Fg (U:St)(caps:List (Str×Nat))(vs:List (Option V)):St:=vs++caps.map λc=>(U[c.2]?).join
structure Kj (X:Cx)(scope:KO)(x:Str)(ns:List Str)(caps:List (Str×Nat)):Prop where
 b:Dx X scope x caps
 C8:(ns.all λy=>scope.names.lookup y == some .local)=true
 nd:(x::(ns++caps.map (·.1))).Nodup
section
variable       {x:Str}
theorem Dx.hfree (B:Dx X scope x caps):∀y∈scope.names,y.2=.free->X.env.kindOf y.1=some .cell\/X.env.kindOf y.1=some .free:=λy hy hf=>by
 have:=Ck.mp B.frees y hy;rw[hf]at this;simp only[GY]at this;rcases this with(h|h)|h
 .simp at h
 .exact .inl (show X.env.scope.names.lookup y.1=_ by simpa using h)
 .exact .inr (show X.env.scope.names.lookup y.1=_ by simpa using h)
theorem Dx.hcell (B:Dx X scope x caps):∀y∈scope.names,y.2≠.cell:=λy hy hf=>by
 have:=Ck.mp B.nocell y hy;rw[hf]at this;simp at this
theorem Dx.hloc (B:Dx X scope x caps):∀y∈scope.names,y.2=.local->scope.names.lookup y.1=some .local:=λy hy hf=>by
 have:=Ck.mp B.locs y hy;rw[hf]at this;simpa using this
theorem Dx.hcaps (B:Dx X scope x caps):∀c∈caps,scope.names.lookup c.1=some .free/\X.N[c.2]? = some c.1/\(X.env.kindOf c.1=some .cell\/X.env.kindOf c.1=some .free):=λc hc=>by
 have:=Ck.mp B.capsOk c hc;simp only[Bo,GY]at this;obtain⟨⟨h1,h2⟩,h3⟩:=this;refine⟨by simpa using h1,by simpa using h2,?_⟩;rcases h3 with h|h
 .exact .inl (show X.env.scope.names.lookup c.1=_ by simpa using h)
 .exact .inr (show X.env.scope.names.lookup c.1=_ by simpa using h)
theorem ae (B:Dx X scope x caps)(I:A4 X Ae U H s)(hC:C=s.heap.objs.size+1)(hf:∀b∈fp,Jb X Ae H b)(hfo:∀b∈fp,∃o,s.heap.get? b=some o)(hcl:∀y∈scope.names,y.2=.free->∃c,X.env.cells.lookup y.1=some c) :
  (FZ X scope (Eo X.env scope.names []) C (x::caps.map (·.1)) fp Ae s H).Ok where
 mod:=I.ok.mod
 kind:=B.kind
 glob:=I.ok.glob
 blt:=I.ok.blt
 above:=by show s.heap.objs.size<=C;rw[hC];exact Ju _
 inj:=λy z c h1 h2=>I.ok.inj y z c (Uw _ _ hcl (λ_ _ e=>by simp at e) _ _ h1) (Uw _ _ hcl (λ_ _ e=>by simp at e) _ _ h2)
 has:=λy h=>by
  refine iF _ _ (.inr ?_);rcases h with h|h
  .rcases bI h with e|⟨_,e⟩
   .exact absurd rfl (B.hcell _ (lookup_mem e))
   .exact lookup_mem e
  .rcases bI h with e|⟨z,e⟩
   .exact lookup_mem e
   .cases z
 cab:=λ_ _ h=>nomatch h
 hd:=I.ok.hd
 frames:=I.ok.frames
 stk:=.inl rfl
 exf:=λb hb=>by
  obtain⟨o,ho⟩:=hfo b hb;refine⟨λz=>?_,λy c e=>(hf b hb).2.2.2.2.1 y c (Uw _ _ hcl (λ_ _ e=>by simp at e) _ _ e)⟩;exact absurd (show b=C from z) (A5 (by rw[hC];exact Eh (Ap ho)))
 bs:=I.bs
 bsz:=A7 I.ok.bsz I.sz
 noex:=λb o e hb=>by
  rcases(hf b hb).2.2.2.1 with z|z
  .exact I.ok.noex b o e z
  .exact absurd (Bm (Ap e) (A7 I.ok.bsz z)) (EI _)
 exfs:=λb hb hs=>by
  rcases Bc.mp (I.stkSub b hs)with e|e
  .exact(hf b hb).2.1 e
  .exact(hf b hb).2.2.1 e
 funs:=I.stack
 frf:=I.stkFree
noncomputable def JP (Bh:List Ah)(n:Nat):Obj:={cls:=.type "list",data:=.seq Bh.toArray n}
theorem jh (B:Kj X scope x ns caps)(I:A4 X Ae U H s)(hC:C=s.heap.objs.size+1)(hf:∀b∈fp,Jb X Ae H b)(hfo:∀b∈fp,∃o,s.heap.get? b=some o)(hcl:∀y∈scope.names,y.2=.free->∃c,X.env.cells.lookup y.1=some c) :
  (FZ X scope (Eo X.env scope.names []) C (x::(ns++caps.map (·.1))) fp Ae s H).Ok:=by
 have h:=ae B.b I hC hf hfo hcl;exact{h with}
theorem uS {Q:VK}{RR:Ah->Av->Tq->Aq->Prop}(B:Kj X scope x ns caps)(hc:X.calm=true)
  (he:∀cl C fp pn s H,PE (FZ X scope cl C (x::(ns++caps.map (·.1))) fp pn s H) elt te) (hif:∀cl C fp pn s H,GN (FZ X scope cl C (x::(ns++caps.map (·.1))) fp pn s H) ifs tt)
  (hg:∀cl C fp pn s H,PG (FZ X scope cl C (x::(ns++caps.map (·.1))) fp pn s H) tgt g)
  (hRR:∀D C s' H' ys m,A4 X Ae U (Cv H' D (.lst ys)) s'->Jb X Ae (Cv H' D (.lst ys)) C->s'.heap.Ns C m->Q (.ref D) (Cv H' D (.lst ys))->RR (.ref D) C (.ok .next) s')
  (h:YG X Ae U tgt (λJ H1=>∃ (n:Nat) (W:Nat->List V->Hp->Prop),W 0 [] H1/\∀ i ys H,W i ys H ->
   (J.stop i H/\ys.length<=Am/\∀p,H p=none->Q (.ref p) (Cv H p (.lst ys))) \/
   (J.go i H/\i<n/\ys.length<Am/\∀ v H',J.yld i H v H'->∃ us:List V,us.length=ns.length+1/\(∀ (o:List (Option V)) (R:St->Hp->Prop),o.length=ns.length+1->R (Fg U caps (us.map some)) H'->g v (Fg U caps o) H' R)/\tt (Fg U caps (us.map some)) H' λb H2=>if b=true then te (Fg U caps (us.map some)) H2 λy H3=>W (i+1) (ys++[y]) H3 else W (i+1) ys H2)) it s₂) :
  Ar (Az X.prog X.w) X.A (PD []) (λacc s₃=>Ar (Az X.prog X.w) X.A (MV scope X.env.globals (Eo X.env scope.names []) [] X.env.qual none .none (some X.env)) (λcenv s₄ =>
   DP (Az X.prog X.w) X.A (.compStart (.ListComp elt [⟨tgt,iter,ifs,0⟩] scope pos) 0 it acc { cenv with scope:=relabel scope X.env }) (RR acc cenv.locals) s₄) E s₃) E s₂:=by
 obtain⟨itA,fp,tn,J,H2,e1',I2,T,st2,f2,n,W,w0,turn⟩:_:=h;have hcl:∀y∈scope.names,y.2=.free->∃c,X.env.cells.lookup y.1=some c:=λy hy hf=>I2.ok.has y.1 (B.b.hfree y hy hf);have hfo:∀b∈fp,∃o,s₂.heap.get? b=some o:=λb hb=>by obtain⟨o,e,_⟩:=T.obj _ _ st2 b hb;exact⟨o,e⟩
 refine BC (wpAny_newFunctionEnv B.b.hcell (by intro y hy;simp at hy) (λh₁ hns₁ hsb₁=>?_) B.b.kind);dsimp only at hns₁ hsb₁ ⊢;generalize hH2:s₂.heap.push {cls:=.type "list",dict:=none,data:=.seq ([]:List Ah).toArray}=G2 at hns₁ hsb₁ ⊢;have hC:G2.objs.size=s₂.heap.objs.size+1:=by rw[<- hH2,Gg]
 have hDC:s₂.heap.objs.size≠G2.objs.size:=by rw[hC];exact A5 (GB _)
 have old:∀b o,s₂.heap.get? b=some o->h₁.get? b=some o:=λb o e=>hsb₁.extBut b o (A5 (by rw[hC];exact Eh (Ap e))) (Ag _ (hH2 ▸ Ag _ e));have hacc:=hsb₁.extBut _ _ hDC (Ag _ (hH2 ▸ Ax _ rfl));have okY:=jh B I2 hC f2 hfo hcl;generalize hY:FZ X scope (Eo X.env scope.names []) G2.objs.size (x::(ns++caps.map (·.1))) fp Ae s₂ H2=Y at okY;have freshD:=I2.hok.fresh (AH _);have freshC:H2 G2.objs.size=none:=I2.hok.fresh (by ext)
 have IY:∀tk,A4 Y [(s₂.heap.objs.size,JP [] 0)] (Fg U caps (Ay (ns.length+1) none)) H2 {s₂ with heap:=h₁,toks:=tk}:=λtk=>by
  subst hY;refine⟨okY,rfl,I2.bare,Un.kept old,⟨_,hns₁,λi y v e1 e2 e3=>?_⟩,λy c e=>?_,freshC,λy c e=>?_,λp hp=>?_,I2.hok.kept old,?_,I2.fzd⟩
  .by_cases hin:i<ns.length+1
   .have hx:(Fg U caps (Ay (ns.length+1) none))[i]? = some none:=by
     unfold Fg;rw[CZ (by simpa using hin),List.getElem?_replicate_of_lt hin]
    rw[hx]at e2;cases e2
   .obtain⟨j,rfl⟩:∃j,i=ns.length+1+j:=⟨i-(ns.length+1),by ext⟩
    have e1':(caps.map (·.1))[j]? = some y:=by
     have z:(x::(ns++caps.map (·.1)))[ns.length+1+j]? = some y:=e1;rw[<- ED,Cg (by simp)]at z;simpa[Hg]using z
    have e2':(caps.map λc=>(U[c.2]?).join)[j]? = some (some v):=by
     have z:=e2;unfold Fg at z;rw[Cg (by simp)]at z;simpa[Hg]using z
    rw[AJ]at e1' e2';cases ec:caps[j]? with
    |none=>rw[ec]at e1';cases e1'
    |some c=>
     rw[ec]at e1' e2';have e1'':c.1=y:=by simpa using e1'
     have e2'':(U[c.2]?).join=some v:=by simpa using e2'
     have hv:U[c.2]? = some (some v):=by
      cases q:U[c.2]? with
      |none=>rw[q]at e2'';cases e2''
      |some w'=>rw[q]at e2'';rw[show w'=some v from e2'']
     obtain⟨k1,k2,k3⟩:=B.b.hcaps c (AE ec);obtain⟨m,_,hl⟩:=I2.loc;obtain⟨u,ru,lk⟩:=hl c.2 c.1 v k2 hv (.inr k3);refine⟨u,ru,.inr ?_⟩;rcases lk with⟨z,_⟩|⟨_,cc,ce,ci⟩
     .rcases k3 with k3|k3
      .rw[k3]at z;cases z
      .rw[k3]at z;cases z
     .obtain⟨c',hc'⟩:=iF scope.names [] (.inr (lookup_mem k1));have hs':=Uw scope.names [] hcl (λ_ _ e=>by simp at e) _ _ hc';rw[ce]at hs';cases hs';refine⟨?_,cc,?_,?_⟩
      .rw[<- e1''];exact kC k1
      .rw[<- e1''];exact hc'
      .obtain⟨o,ho,hd⟩:=ci;exact⟨o,old _ _ ho,hd⟩
  .obtain⟨v,o,ho,hd⟩:=I2.cell y c (Uw _ _ hcl (λ_ _ e=>by simp at e) _ _ e);exact⟨v,o,old _ _ ho,hd⟩
  .exact I2.freeC y c (Uw _ _ hcl (λ_ _ e=>by simp at e) _ _ e)
  .rcases AY.mp hp with hp|hp
   .obtain⟨e,n,ne,nf,d⟩:=I2.pin p hp;refine⟨old _ _ e,n,λz=>?_,λhs=>?_,d⟩
    .exact absurd (show p.1=G2.objs.size from z) (A5 (by rw[hC];exact Eh (Ap e)))
    .rcases Bc.mp (I2.stkSub _ hs)with z|z
     .exact ne z
     .exact nf z
   .have e:p=(s₂.heap.objs.size,JP [] 0):=by simpa using hp
    subst e;refine⟨hacc,freshD,hDC,λhs=>?_,λv z=>by cases z⟩;rcases Bc.mp (I2.stkSub _ hs)with z|z
    .exact absurd z (EW I2.lt)
    .exact I2.nofs (AH _) z
  .simp[Fg,FZ];ext
 have fpY:∀{H':Hp} {l:Obj},(∀b∈fp,H' b=none)->∀b∈fp,Jb Y [(s₂.heap.objs.size,l)] H' b:=λ{H' l} hn b hb=>by
  subst hY;obtain⟨o,ho⟩:=hfo b hb;have:=Ap ho;refine⟨hn b hb,(okY.exf b hb).1,okY.exfs b hb,.inl hb,(okY.exf b hb).2,λp hp=>?_⟩;rcases AY.mp hp with hp|hp
  .exact(f2 b hb).2.2.2.2.2 p hp
  .have e:p=(s₂.heap.objs.size,l):=by simpa using hp
   subst e;exact λz=>absurd (show s₂.heap.objs.size=b from z) (EW (Ap ho))
 have loop:∀s₃:Aq,s₃={s₂ with heap:=h₁,toks:=s₂.toks+([]:List (Str×Ah)).length} ->
   DP (Az X.prog X.w) X.A (.compLoop (.ListComp elt [⟨tgt,iter,ifs,0⟩] scope pos) 0 (.ref itA) (.ref s₂.heap.objs.size) (MY scope (Eo X.env scope.names []) G2.objs.size X.env))
    (RR (.ref s₂.heap.objs.size) G2.objs.size) s₃:=by
  rintro s₃ rfl
  refine ZbT (λk s'=>∃i ys H' v Bh l,k+i=n+1/\v.length=ns.length+1/\A4 Y [(s₂.heap.objs.size,JP Bh l)] (Fg U caps v) H' s'/\tn i s'.heap/\(∀b∈fp,H' b=none)/\W i ys H'/\BF ys Bh) ?_ (n+1)
   ⟨0,[],H2,Ay (ns.length+1) none,[],0,rfl,Bn,IY _,T.keep _ _ _ st2 λb hb o e=>old b o e,λb hb=>(f2 b hb).1,w0,.nil⟩
  intro k s';ext1⟨i,ys,H',v,Bh,l,hk,hv,J1,st,fr,w1,rv⟩
  have hYe:Y.prog=X.prog/\Y.w=X.w/\Y.K=X.K/\Y.calm=true/\Y.A=X.A/\Y.env=MY scope (Eo X.env scope.names []) G2.objs.size X.env/\Y.N=x::(ns++caps.map (·.1))/\(∀e s,Y.xe e s->False)/\Y.fz=X.fz:=by
   subst hY;exact⟨rfl,rfl,rfl,hc,rfl,rfl,rfl,λ_ _ h=>h,rfl⟩
  obtain⟨y1,y2,y3,y4,y5,y6,y7,y8,yF⟩:_:=hYe;rcases turn i ys H' w1 with⟨stop,hz,qn⟩|⟨go,hin,hz,step⟩
  .have d:=T.done Y y1 y2 y3 yF y4 i _ s' _ H' (λ_ _=>False) J1 (fpY fr) st stop;rw[y5]at d;refine BG d (λr s4 ⟨hr,J4⟩=>?_) λ_ _ f=>f.elim;subst hr;have pD:=J4.pin (s₂.heap.objs.size,JP Bh l) (AS _ (by simp));obtain⟨m,hm,_⟩:=J4.loc;have hC4:s4.heap.Ns G2.objs.size m:=by subst hY;exact hm
   have fC:H' G2.objs.size=none:=by subst hY;exact J4.free
   have baseY:Un (Pr X.stack) fp H2 H' s₂.heap s4.heap:=by subst hY;exact J4.base
   have hokY:Ik X.prog X.w H' s4.heap:=by rw[<- y1,<- y2];exact J4.hok
   have osY:s4.os=s₂.os:=by subst hY;exact J4.os
   have I4:=I2.call' osY baseY hokY J4.bare λb hb=>⟨(f2 b hb).2.2.2.1,(f2 b hb).2.1,(f2 b hb).2.2.2.2.1,(f2 b hb).2.2.2.2.2⟩;have fD4:=I2.fpOk (AH _) pD.2.1;have fC4:=I2.fpOk (by ext) fC;have I5:A4 X Ae U (Cv H' s₂.heap.objs.size (.lst ys)) s4:=I4.track fD4 ⟨hz,Bh,l,rv,pD.1⟩;refine hRR _ _ s4 H' ys m I5 ⟨by rw[HL hDC.symm];exact fC4.1,fC4.2⟩ hC4 (qn _ pD.2.1)
  .have d:=T.item Y y1 y2 y3 yF y4 i _ s' _ H' (λ_ _=>False) J1 (fpY fr) st go;rw[y5]at d;refine BG d (λr s4 ⟨u,hr,h4⟩=>?_) λ_ _ f=>f.elim;subst hr;refine BG h4 (λ_ s5 ⟨v5,H5,J5,r5,yl5,st5,fr5⟩=>?_) λ_ _ f=>f.elim;have J5':=J5.pinned (fpY fr5) (T.obj _ _ st5);obtain⟨us,hus,hset,q5⟩:=step v5 H5 yl5;have hgY:=hg (Eo X.env scope.names []) G2.objs.size fp Ae s₂ H2;rw[hY]at hgY;have d6:=hgY _ s5 _ H5 v5 u (λU' H'=>U'=Fg U caps (us.map some)/\H5=H') J5' r5 (hset _ _ hv ⟨rfl,rfl⟩);rw[y1,y2,y5,y6]at d6;refine BG d6 (λ_ s6 ⟨U6,H6,J6,e6,e6'⟩=>?_) λe s z=>(y8 e s z).elim;subst e6 e6'
   have Nb:∀{s7:Aq} {H7:Hp} {ys7:List V} {its7:List Ah} {l7:Nat},A4 Y [(s₂.heap.objs.size,JP its7 l7)] (Fg U caps (us.map some)) H7 s7->(∀b∈fp,∀o,s5.heap.get? b=some o->s7.heap.get? b=some o/\H7 b=none)->W (i+1) ys7 H7->BF ys7 its7 ->
     ∃m,m<k/\∃i ys H' v Bh l,m+i=n+1/\v.length=ns.length+1/\A4 Y [(s₂.heap.objs.size,JP Bh l)] (Fg U caps v) H' s7/\tn i s7.heap/\(∀b∈fp,H' b=none)/\W i ys H'/\BF ys Bh:=λ{s7 H7 ys7 its7 l7} K7 hb w7 r7=>by
    refine⟨k-1,by ext,i+1,ys7,H7,us.map some,its7,l7,by ext,by rw[Ab];exact hus,K7,T.keep _ _ _ st5 λb hb' o e=>(hb b hb' o e).1,λb hb'=>?_,w7,r7⟩;obtain⟨o,e,_⟩:=T.obj _ _ st5 b hb';exact(hb b hb' o e).2
   have pinD:∀{U7:St} {H7:Hp} {s7:Aq},A4 Y ([(s₂.heap.objs.size,JP Bh l)]++Iw fp s5.heap) U7 H7 s7->(∀b∈fp,∀o,s5.heap.get? b=some o->s7.heap.get? b=some o/\H7 b=none):=λK7 b hb o e=>by
    have z:=K7.pin (b,o) (AS _ (AS _ (aR hb e)));exact⟨z.1,z.2.1⟩
   have dt:Ar (Az X.prog X.w) X.A (forIn ifs true λc r=>if r=true then do let ok <- PH c (MY scope (Eo X.env scope.names []) G2.objs.size X.env) (eval c (MY scope (Eo X.env scope.names []) G2.objs.size X.env));pure (C9 ok)else pure (C9 r))
     (λok s7=>∃H7,A4 Y ([(s₂.heap.objs.size,JP Bh l)]++Iw fp s5.heap) (Fg U caps (us.map some)) H7 s7/\(if ok=true then te (Fg U caps (us.map some)) H7 λy H3=>W (i+1) (ys++[y]) H3 else W (i+1) ys H7)) (λ_ _=>False) s6:=by
    have q:=q5;have pif:=hif (Eo X.env scope.names []) G2.objs.size fp Ae s₂ H2;rw[hY]at pif;cases pif with
    |nil=>exact Ad ⟨H5,J6,q⟩
    |one pt=>have z:=pt _ s6 _ H5 _ J6 q;rw[y1,y2,y5,y6]at z;exact wpAny_tests_one (BG z (λb s7 ⟨H7,J7,q7⟩=>⟨H7,J7,q7⟩) λe s z=>(y8 e s z).elim)
   refine BG dt (λok s7 ⟨H7,J7,q7⟩=>?_) λ_ _ f=>f.elim;cases ok with
   |false=>rw[if_neg Aj]at q7 ⊢;exact Nb J7.unpinned (pinD J7) q7 rv
   |true=>
    rw[if_pos rfl]at q7 ⊢;have pe:=he (Eo X.env scope.names []) G2.objs.size fp Ae s₂ H2;rw[hY]at pe;have z:=pe _ s7 _ H7 _ J7 q7;rw[y1,y2,y5,y6]at z;refine BG z (λu8 s8 ⟨v8,H8,J8,r8,w8⟩=>?_) λe s z=>(y8 e s z).elim;have pD:=J8.pin (s₂.heap.objs.size,JP Bh l) (AS _ (CK _ (by simp)));have lits:=rv.length;refine wpAny_list_append_plain ⟨l,pD.1⟩ λh9 pl9 sb9=>?_;obtain⟨l9,e9⟩:=pl9
    have J9:A4 Y (Iw fp s5.heap) (Fg U caps (us.map some)) H8 {s8 with heap:=h9}:=by
     refine(J8.pins_of λp hp=>J8.pin p (AS _ (AS _ hp))).turned (λb o hb e=>(sb9.2 b hb).trans e) pD.2.1 pD.2.2.1 ?_ (λy c e z=>?_) λp hp z=>?_
     .subst hY;exact .inr (AH _)
     .obtain⟨v',o',ho',hd'⟩:=J8.cell y c e;rw[z,pD.1]at ho';cases ho';exact pD.2.2.2.2 _ hd'
     .rcases AY.mp hp with hp|hp
      .have hp':p∈X.pn++Ae:=by subst hY;exact hp
       exact absurd z (A5 (Ap (I2.pin p hp').1))
      .obtain⟨hb,_⟩:=uE hp;obtain⟨o,ho⟩:=hfo _ hb;exact absurd z (A5 (Ap ho))
    have J10:A4 Y [(s₂.heap.objs.size,JP (Bh++[u8]) l9)] (Fg U caps (us.map some)) H8 {s8 with heap:=h9}:=J9.pins_of λp hp=>by
     have e:p=(s₂.heap.objs.size,JP (Bh++[u8]) l9):=by simpa using hp
     subst e;refine⟨?_,pD.2.1,pD.2.2.1,pD.2.2.2.1,λv z=>by cases z⟩;rw[e9];simp[JP]
    refine Nb J10 (λb hb o e=>?_) w8 (rv.append (.cons r8 .nil));have z:=J9.pin (b,o) (AS _ (aR hb e));exact⟨z.1,z.2.1⟩
 exact codeAny_compStart_list (loop _ rfl) (T.self _ 0 _ _ _ (T.keep _ _ _ st2 λb hb o e=>old b o e) (loop _ rfl))
theorem Yx {Q:VK}{RR:Ah->Av->Tq->Aq->Prop}(B:Dx X scope x caps)(hc:X.calm=true)
  (he:∀cl C fp pn s H,PE (FZ X scope cl C (x::caps.map (·.1)) fp pn s H) elt te) (hif:∀cl C fp pn s H,GN (FZ X scope cl C (x::caps.map (·.1)) fp pn s H) ifs tt)
  (hRR:∀D C s' H' ys m,A4 X Ae U (Cv H' D (.lst ys)) s'->Jb X Ae (Cv H' D (.lst ys)) C->s'.heap.Ns C m->Q (.ref D) (Cv H' D (.lst ys))->RR (.ref D) C (.ok .next) s')
  (h:YG X Ae U (.Name x px) (λJ H1=>∃ (n:Nat) (W:Nat->List V->Hp->Prop),W 0 [] H1/\∀ i ys H,W i ys H ->
   (J.stop i H/\ys.length<=Am/\∀p,H p=none->Q (.ref p) (Cv H p (.lst ys))) \/
   (J.go i H/\i<n/\ys.length<Am/\∀ v H',J.yld i H v H'->tt (Mn U caps (some v)) H' λb H2=>if b=true then te (Mn U caps (some v)) H2 λy H3=>W (i+1) (ys++[y]) H3 else W (i+1) ys H2)) it s₂) :
  Ar (Az X.prog X.w) X.A (PD []) (λacc s₃=>Ar (Az X.prog X.w) X.A (MV scope X.env.globals (Eo X.env scope.names []) [] X.env.qual none .none (some X.env)) (λcenv s₄ =>
   DP (Az X.prog X.w) X.A (.compStart (.ListComp elt [⟨.Name x px,iter,ifs,0⟩] scope pos) 0 it acc { cenv with scope:=relabel scope X.env }) (RR acc cenv.locals) s₄) E s₃) E s₂:=by
 refine uS (ns:=[]) (tgt:=.Name x px) (g:=I8 0) ⟨B,rfl,B.nd⟩ hc he hif (λcl C fp pn s H=>LD B.nd rfl (.inl (Rm B.var)) (.inr (Rm B.var))) hRR ?_;obtain⟨itA,fp,tn,J,H2,e,I2,T,st2,f2,n,W,w0,turn⟩:_:=h;refine⟨itA,fp,tn,J,H2,e,I2,T,st2,f2,n,W,w0,λi ys H w=>(turn i ys H w).imp id λ⟨z1,z2,z3,st⟩=>⟨z1,z2,z3,λv H' y=>⟨[v],rfl,λo R ho q=>?_,st v H' y⟩⟩⟩;cases o with
 |nil=>cases ho
 |cons o r=>cases AD (GP ho);exact q
theorem ZS (B:Dx X scope x caps)(hc:X.calm=true)(hi:PI X (.Name x px) iter wi)
  (he:∀cl C fp pn s H,PE (FZ X scope cl C (x::caps.map (·.1)) fp pn s H) elt te) (hif:∀cl C fp pn s H,GN (FZ X scope cl C (x::caps.map (·.1)) fp pn s H) ifs tt)
  (hs:∀x,Ba iter X.env x=pure x:=by intro _;rfl):PE X (.ListComp elt [⟨.Name x px,iter,ifs,0⟩] scope pos) (Ih wi caps tt te):=by
 intro Ae s U H Q I h;rw[eval_ListComp];have hcl:∀y∈scope.names,y.2=.free->∃c,X.env.cells.lookup y.1=some c:=λy hy hf=>I.ok.has y.1 (B.hfree y hy hf);refine Hw rfl hs (kG hcl) B.kind B.hloc (Dl (hi Ae s U H _ I h) λv s1 h1=>Dl h1 λitv s2 h2=>?_);refine Yx B hc he hif (λD C s' H' ys m I' f' hn q=>?_) h2;refine⟨m,hn,λh' sb=>⟨.ref D,Cv H' D (.lst ys),?_,rfl,q⟩⟩;obtain⟨g0,g1,g2,g3,g4,g5⟩:=f';exact I'.turned (λb o hb e=>(sb.2 b hb).trans e) g0 g1 g3 g4 g5
theorem ZU (hN:X.N.Nodup)(hi0:X.N[i]? = some y)(hy:X.env.scope.names.lookup y=some .local)(B:Dx X scope x caps)(hc:X.calm=true)(hi:PI X (.Name x px) iter wi)
  (he:∀cl C fp pn s H,PE (FZ X scope cl C (x::caps.map (·.1)) fp pn s H) elt te) (hif:∀cl C fp pn s H,GN (FZ X scope cl C (x::caps.map (·.1)) fp pn s H) ifs tt)
  (hsw:De (.ListComp elt [⟨.Name x px,iter,ifs,0⟩] scope pos) (some (.Name y py)) spos.line X.env=pure true:=by rfl)
  (hs:∀x,Ba iter X.env x=pure x:=by intro _;rfl):PS X (.Assign [.Name y py] (.ListComp elt [⟨.Name x px,iter,ifs,0⟩] scope pos) spos) (Ma (Ih wi caps tt te) (I8 i)):=by
 intro Ae s U H D I h;rw[exec_Assign_Name_used _ _ _ _ hsw];refine Aa (wpAny_standAt (Aa ?_));show Ar _ X.A (do let _ <- comprehension (.ListComp elt [⟨.Name x px,iter,ifs,0⟩] scope pos) scope X.env _ (PD []) false (eval iter X.env) (some (Lm (.Name y py) X.env))) _ _ s;have hcl:∀y∈scope.names,y.2=.free->∃c,X.env.cells.lookup y.1=some c:=λy hy hf=>I.ok.has y.1 (B.hfree y hy hf)
 refine Aa (BG (Hw rfl hs (kG hcl) B.kind B.hloc (Dl (hi Ae s U H _ I h) λv s1 h1=>Dl h1 λitv s2 h2=>?_))
  (λ_ s' hq=>Ad (Ad hq)) λ_ _ e=>e)
 refine Yx (Q:=λv H'=>D.nx (U.set i (some v)) H') (RR:=λacc C=>compPost (Az X.prog X.w) X.A X.xe (some (Lm (.Name y py) X.env)) (λ_ s'=>SP X Ae D .next s') acc C) B hc he hif (λD' C s' H' ys m I' f' hn q=>?_) h2;show Ar _ _ (Lm (.Name y py) X.env (.ref D')) _ _ s';obtain⟨g0,g1,g2,g3,g4,g5⟩:=f';refine UR (uF I' hN hi0 (.inl hy) (v:=.ref D') rfl (λs'' I'' sb=>?_) (.inr hy));obtain⟨a,sb,ha⟩:=sb
 have nC:C≠a:=by
  rcases ha with rfl|ha
  .exact g1
  .exact λz=>g4 _ _ ha z.symm
 refine⟨m,hn.sameBut sb nC,λh' sb'=>⟨U.set i (some (.ref D')),Cv H' D' (.lst ys),?_,q⟩⟩;exact I''.turned (λb o hb e=>(sb'.2 b hb).trans e) g0 g1 g3 g4 g5
end
section
variable {K:Ac}{a:Av}{xs:List V}{caps:List (Str×Nat)}{tt:TT}{te:TE}{U:St}{H:Hp}{Q:VK}
end
section
variable {κ:Type}[DecidableEq κ]
noncomputable def FL (kvs:List (κ×V))(k:κ):Option V:=(kvs.find? λkv=>decide (kv.1=k)).map (·.2)
noncomputable def putK (kvs:List (κ×V))(k:κ)(v:V):List (κ×V):=
 if (kvs.any λkv=>decide (kv.1=k))=true then kvs.map (λkv=>if kv.1=k then(kv.1,v)else kv)else kvs++[(k,v)]
theorem jE {p:κ×V}{r:List (κ×V)}{k:κ}(e:p.1=k):FL (p::r) k=some p.2:=by simp[FL,CG,e]
theorem jD {p:κ×V}{r:List (κ×V)}{k:κ}(e:¬p.1=k):FL (p::r) k=FL r k:=by simp[FL,CG,e]
theorem rT (k:κ):∀kvs,(kvs.any λkv=>decide (kv.1=k))=(FL kvs k).isSome
 |[]=>rfl
 |p::r=>by
  rw[Fp];by_cases e:p.1=k
  .simp only[jE e,decide_eq_true e,Bool.true_or,NX]
  .rw[jD e,decide_eq_false e,Tz];exact rT k r
theorem aP (kvs:List (κ×V))(k:κ)(v:V):(putK kvs k v).length<=kvs.length+1:=by
 unfold putK;split
 .rw[Ab];ext
 .rw[As,AK,EB];ext
theorem Ie.isSome_eq (r:Ie o u):o.isSome=u.isSome:=by
 cases o with
 |none=>cases u with
  |none=>rfl
  |some _=>exact(show False from r).elim
 |some _=>cases u with
  |none=>exact(show False from r).elim
  |some _=>rfl
theorem KV.val {kvs:List (κ×V)}{vs:List (κ×Ah)}(r:KV kvs vs)(k:κ):Ie (FL kvs k) (Kw vs k):=by
 unfold KV at r;induction r with
 |nil=>exact Dr
 | @cons p q ps qs h t ih=>
  obtain⟨h1,h2⟩:=h;by_cases e:p.1=k
  .have e':=h1.symm.trans e;have b:Kw (q::qs) k=some q.2:=by simp[Kw,CG,e']
   rw[jE e,b];exact h2
  .have e':¬q.1=k:=λz=>e (h1.trans z);have b:Kw (q::qs) k=Kw qs k:=by simp[Kw,CG,e']
   rw[jD e,b];exact ih
theorem KV.any (r:KV kvs vs)(k:κ):(kvs.any λkv=>decide (kv.1=k))=vs.any λkv=>decide (kv.1=k):=by
 unfold KV at r;induction r with
 |nil=>rfl
 |cons h t ih=>rw[Fp,Fp,ih,h.1]
theorem KV.repl (r:KV kvs vs)(k:κ)(ry:RelV y u) :
  KV (kvs.map λkv=>if kv.1=k then(kv.1,y)else kv) (vs.map λkv=>if kv.1=k then(kv.1,u)else kv):=by
 unfold KV at r ⊢;induction r with
 |nil=>exact .nil
 | @cons p q ps qs h t ih=>
  rw[AT,AT];refine .cons ?_ ih;obtain⟨h1,h2⟩:=h;by_cases e:p.1=k
  .rw[if_pos e,if_pos (h1.symm.trans e)];exact⟨h1,ry⟩
  .rw[if_neg e,if_neg (λz=>e (h1.trans z))];exact⟨h1,h2⟩
theorem KV.put (r:KV kvs vs)(k:κ)(ry:RelV y u):KV (putK kvs k y) (stored vs k u):=by
 unfold putK stored;rw[r.any k];by_cases e:(vs.any λkv=>decide (kv.1=k))=true
 .rw[if_pos e,if_pos e];exact r.repl k ry
 .rw[if_neg e,if_neg e];exact Tt r ⟨rfl,ry⟩
theorem KV.keys {kvs:List (κ×V)}{vs:List (κ×Ah)}(r:KV kvs vs):kvs.map (·.1)=vs.map (·.1):=by
 unfold KV at r;induction r with
 |nil=>rfl
 |cons h t ih=>rw[AT,AT,ih,h.1]
theorem KV.length {kvs:List (κ×V)}{vs:List (κ×Ah)}(r:KV kvs vs):kvs.length=vs.length:=DW r
end
theorem RY (r:RelV (kV k) u):(BO P w).is k u=true:=by
 cases k with
 |inl i=>obtain⟨t,e⟩:=(show∃t,u=D0 i t from r);subst e;exact zc P w i t
 |inr x=>obtain⟨t,e⟩:=(show∃t,u=DD x t from r);subst e;exact zd P w x t
theorem tP :∀{ks:List Co}{us:List Ah},BF (ks.map kV) us->ItemsAre (BO P w) ks us
 |[],_,r=>by rw[DB]at r;cases r;exact .nil
 |k::ks,_,r=>by
  rw[AT]at r;cases r with
  |cons h t=>exact .cons (RY h) (tP t)
abbrev KT (H:Hp):List (List Co×V)->List (List Co×Av×Ah)->Prop:=DX λp q=>p.1=q.1/\H q.2.1=some (.tup (p.1.map kV))/\RelV p.2 q.2.2
theorem KT.val {H:Hp}{kvs:List (List Co×V)}{xs:List (List Co×Av×Ah)}(r:KT H kvs xs)(k:List Co):Ie (FL kvs k) ((O8 xs k).map (·.2)):=by
 induction r with
 |nil=>exact Dr
 | @cons p q ps qs h t ih=>
  obtain⟨h1,_,h2⟩:=h;by_cases e:p.1=k
  .have e':=h1.symm.trans e;have b:O8 (q::qs) k=some q.2:=by simp[O8,CG,e']
   rw[jE e,b];exact h2
  .have e':¬q.1=k:=λz=>e (h1.trans z);have b:O8 (q::qs) k=O8 qs k:=by simp[O8,CG,e']
   rw[jD e,b];exact ih
theorem KT.repl (r:KT H kvs xs)(k:List Co)(ry:RelV y u) :
  KT H (kvs.map λkv=>if kv.1=k then(kv.1,y)else kv) (xs.map (putAt k u)):=by
 induction r with
 |nil=>exact .nil
 | @cons p q ps qs h t ih=>
  rw[AT,AT];refine .cons ?_ ih;obtain⟨h1,h2,h3⟩:=h;unfold putAt;by_cases e:p.1=k
  .rw[if_pos e,if_pos (h1.symm.trans e)];exact⟨h1,h2,ry⟩
  .rw[if_neg e,if_neg (λz=>e (h1.trans z))];exact⟨h1,h2,h3⟩
theorem KT.put (r:KT H kvs xs)(k:List Co)(hb:H b=some (.tup (k.map kV)))(ry:RelV y u) :
  KT H (putK kvs k y) (storedH xs k b u):=by
 have e:(kvs.any λkv=>decide (kv.1=k))=(O8 xs k).isSome:=by
  rw[rT,(r.val k).isSome_eq,MW]
 unfold putK storedH;rw[e];by_cases q:(O8 xs k).isSome=true
 .rw[if_pos q,if_pos q];exact r.repl k ry
 .rw[if_neg q,if_neg q];exact Tt r ⟨rfl,hb,ry⟩
theorem KT.keeps (r:KT H kvs xs)(ht:∀b ys,H b=some (.tup ys)->H' b=some (.tup ys)):KT H' kvs xs:=
 DX.mapP r λ_ _ z=>⟨z.1,ht _ _ z.2.1,z.2.2⟩
section
theorem nK (ok:Ik P w H h)(e:Rd H a u):Do P w H h a u:=e.ok ok
theorem S4 (ok:Ik P w H h)(e:Rd H a (.dK kvs)):kvs.length<=Am/\(a == E5)=false/\∃vs,KV kvs vs/\h.DictOf (BO P w) a vs:=
 show Do P w H h a (.dK kvs)from nK ok e
theorem gD (ok:Ik P w H h)(e:H a=some (.dK kvs)):kvs.length<=Am/\(a == E5)=false/\∃vs,KV kvs vs/\h.DictOf (BO P w) a vs:=S4 ok (.inl e)
theorem X5 (ok:Ik P w H h)(e:H a=some (.tup (ks.map kV))):(Lj (BO P w)).is h ks a:=by
 obtain⟨_,Bh,r,o,h1,h2,n,h3,_⟩:=(show Do P w H h a (.tup (ks.map kV))from ok a _ e);exact⟨o,Bh.toArray,n,h1,h2,h3,by simpa using tP r⟩
theorem XW (ok:Ik P w H h)(e:Rd H a (.dT kvs)):kvs.length<=Am/\(a == E5)=false /\
  ∃xs,KT H kvs xs/\h.DictOfH (Lj (BO P w)) a xs:=by
 obtain⟨z,y,xs,r,o,es,ep,h1,h2,h3,h4,h5⟩:=(show Do P w H h a (.dT kvs)from nK ok e);refine⟨z,y,xs,r,o,es,ep,h1,h2,h3,h4,λx hx=>?_,h5⟩
 have all:∀{l:List (List Co×V)} {m:List (List Co×Av×Ah)},KT H l m->∀x∈m,(Lj (BO P w)).is h x.1 x.2.1:=by
  intro l m q;induction q with
  |nil=>intro x hx;exact nomatch hx
  | @cons p q ps qs hq t ih=>
   intro x hx;rcases Bc.mp hx with e|hx
   .subst e;exact X5 ok (by rw[<- hq.1];exact hq.2.1)
   .exact ih x hx
 exact all r x hx
theorem yX (ok:Ik P w H h)(e:H a=some (.dT kvs)):kvs.length<=Am/\(a == E5)=false /\
  ∃xs,KT H kvs xs/\h.DictOfH (Lj (BO P w)) a xs:=XW ok (.inl e)
end
def QG (H:Hp)(a:Av)(y:V)(r:Option V):Prop:=
 (∃kvs k,Rd H a (.dK kvs)/\y=kV k/\r=FL kvs k)\/∃kvs k b,Rd H a (.dT kvs)/\y=.ref b/\H b=some (.tup (k.map kV))/\r=FL kvs k
def QF (H:Hp)(a:Av)(y v:V)(H':Hp):Prop:=
 (∃kvs k,H a=some (.dK kvs)/\y=kV k/\kvs.length<Am/\H'=Cv H a (.dK (putK kvs k v))) \/
 ∃kvs k b,H a=some (.dT kvs)/\y=.ref b/\H b=some (.tup (k.map kV))/\kvs.length<Am/\H'=Cv H a (.dT (putK kvs k v))
theorem QF.k {k:Co}(e:H a=some (.dK kvs))(hl:kvs.length<Am):QF H a (kV k) v (Cv H a (.dK (putK kvs k v))):=.inl ⟨kvs,k,e,rfl,hl,rfl⟩
section
theorem A4.big (I:A4 X Ae U H s):E5<s.heap.objs.size:=by
 have h:=(I.mod.glob.keeps I.bk).lt;exact Nat.lt_trans (by decide) h
theorem t3 (hu:A.units+1<DV)(I:A4 X Ae U H s)(g:QG H a y (some v))(ry:RelV y u)(h:∀w' s',A4 X Ae U H s'->RelV v w'->Q w' s') :
  Ar (Az X.prog X.w) A (Jw (.ref a) u) Q E s:=by
 rcases g with⟨kvs,k,e,ey,l⟩|⟨kvs,k,b,e,ey,eb,l⟩
 .subst ey;obtain⟨z,hd,vs,rel,dd⟩:=S4 I.hok e;obtain⟨w',hw,rw'⟩:=Ie.some_of (by rw[l];exact rel.val k);exact VX (RY ry) dd.mapOf hw (h w' _ (I.tok _) rw')
 .subst ey;cases(show u=AC b from ry);obtain⟨z,hd,xs,rel,dd⟩:=XW I.hok e;obtain⟨w',hw,rw'⟩:=Ie.some_of (by rw[l];exact rel.val k);obtain⟨p,hp,hp2⟩:=EV.mp hw;refine wpAny_getItem_heap (GX hu) (X5 I.hok eb) dd hp ?_;rw[hp2];exact h w' _ (I.tok _) rw'
theorem fX (hu:A.units+1<DV)(I:A4 X Ae U H s)(g:QG H a y o)(ry:RelV y u)(h:∀s',A4 X Ae U H s'->Q (.bool o.isSome) s') :
  Ar (Az X.prog X.w) A (Bb .In u (.ref a)) Q E s:=by
 rcases g with⟨kvs,k,e,ey,l⟩|⟨kvs,k,b,e,ey,eb,l⟩
 .subst ey;obtain⟨z,hd,vs,rel,dd⟩:=S4 I.hok e;refine wpAny_in_of (RY ry) hd dd.mapOf ?_;rw[<- (rel.val k).isSome_eq,<- l];exact h _ (I.tok _)
 .subst ey;cases(show u=AC b from ry);obtain⟨z,hd,xs,rel,dd⟩:=XW I.hok e;refine wpAny_in_heap (GX hu) (X5 I.hok eb) hd dd ?_;have q:=(rel.val k).isSome_eq;rw[MW]at q;rw[<- q,<- l];exact h _ (I.tok _)
theorem j9 (hu:A.units+1<DV)(I:A4 X Ae U H s)(g:QG H a y o)(ry:RelV y u)(h:∀s',A4 X Ae U H s'->Q (.bool (!o.isSome)) s') :
  Ar (Az X.prog X.w) A (Bb .NotIn u (.ref a)) Q E s:=by
 rcases g with⟨kvs,k,e,ey,l⟩|⟨kvs,k,b,e,ey,eb,l⟩
 .subst ey;obtain⟨z,hd,vs,rel,dd⟩:=S4 I.hok e;refine wpAny_notIn_of (RY ry) hd dd.mapOf ?_;rw[<- (rel.val k).isSome_eq,<- l];exact h _ (I.tok _)
 .subst ey;cases(show u=AC b from ry);obtain⟨z,hd,xs,rel,dd⟩:=XW I.hok e;refine wpAny_notIn_heap (GX hu) (X5 I.hok eb) hd dd ?_;have q:=(rel.val k).isSome_eq;rw[MW]at q;rw[<- q,<- l];exact h _ (I.tok _)
theorem ZY (I:A4 X Ae U H s)(mu:YH (H a))(hs:Bx a s.heap h')(he:∃q,h'.get? a=some q)(new:Do X.prog X.w (Cv H a ob) h' a ob) :
  A4 X Ae U (Cv H a ob) {s with heap:=h',toks:=t' }:=
 I.write mu (.inl rfl) (λb q hb z=>(hs.2 b hb).trans z) he new
theorem ZM (z:kvs.length<=Am)(hd:(a == E5)=false)(rel:KV kvs vs)(dd:h'.DictOf (BO P w) a vs) :
  Do P w H' h' a (.dK kvs):=⟨z,hd,vs,rel,dd⟩
theorem t4 (hu:A.units+1<DV)(I:A4 X Ae U H s)(g:QF H a y v H')(ry:RelV y u)(rv:RelV v r)(h:∀s',A4 X Ae U H' s'->Q () s') :
  Ar (Az X.prog X.w) A (setItem (.ref a) u r) Q E s:=by
 rcases g with⟨kvs,k,e,ey,l,eH⟩|⟨kvs,k,b,e,ey,eb,l,eH⟩
 .subst ey eH;obtain⟨z,hd,vs,rel,dd⟩:=gD I.hok e;have hz:vs.length<=Am:=by rw[<- rel.length];exact z
  have hl:(putK kvs k v).length<=Am:=by have:=aP kvs k v;ext
  refine wpAny_setItem_pairs (RY ry) dd λh' dd' hs=>h _ ?_;have he:∃q,h'.get? a=some q:=let ⟨q,_,_,hq,_⟩:=dd';⟨q,hq⟩;exact ZY I (by rw[e];exact Dr) hs he (ZM hl hd (rel.put k rv) dd')
 .subst ey eH;cases(show u=AC b from ry);obtain⟨z,hd,xs,rel,dd⟩:=yX I.hok e;have hz:xs.length<=Am:=by rw[<- DW rel];exact z
  have hl:(putK kvs k v).length<=Am:=by have:=aP kvs k v;ext
  refine wpAny_setItem_heap (GX hu) (X5 I.hok eb) dd λh' dd' hs=>h _ ?_;obtain⟨q,es,ep,hq,h2,h3,h4,_,h5⟩:=dd';refine ZY I (by rw[e];exact Dr) hs ⟨q,hq⟩ ⟨hl,hd,_,(rel.put k eb rv).keeps λc ys ec=>?_,q,es,ep,hq,h2,h3,h4,h5⟩;rw[HL (zB ec e (λz=>nomatch z))];exact ec
end
section
theorem yW (I:A4 X Ae U H s)(e:Rd H a (.dK kvs))(h:∀t s',A4 X Ae U H s'->Q (.int kvs.length t) s'):Ar (Az X.prog X.w) A (JY (.builtin "len") [.ref a]) Q E s:=by
 obtain⟨z,hd,vs,rel,dd⟩:=S4 I.hok e;refine call_len_dict hd dd (by rw[<- rel.length];rw[Hs]at z;ext) ?_;rw[<- rel.length];exact h _ _ (I.tok _)
end
def UH (i:B8):Prop:=∀ov iv,LI i false ov iv=operate [ov,iv] (Jw ov iv)
theorem p7 {T id:String}
  (hl:MQ (.type T) "__getitem__" = pure (some (.builtin id))) (hs:UH slice)
  (h:Ar (Az prog w) A (eval value env) (λo s₁=>Ar (Az prog w) A (eval slice env) (λi s₂=>s₂.TypeIs o T/\Ar (Az prog w) A (Jw o i) Q E s₂) E s₁) E s) :
  Ar (Az prog w) A (eval (.Subscript value slice pos) env) Q E s:=by
 refine Tp (BG h (λo s₁ h₁=>BG h₁ (λi s₂ h₂=>?_) λ_ _ x=>x) λ_ _ x=>x);obtain⟨hT,h₂⟩:=h₂;unfold Ow;refine Aa ?_;rw[getitemInPython_of_ne hT.not_modules];refine Aa (YO hT hl ?_)
 have fin:Ar (Az prog w) A (LI slice false o i) (λr s₃=>Ar (Az prog w) A (letTemporaryGo value o r >>= λ_=>pure r) Q E s₃) E s₂:=by
  rw[hs o i];exact wpAny_operating (BG h₂ (λr s₃ h₃=>Aa (wpAny_letTemporaryGo (Ad h₃))) λ_ _ x=>x)
 first
  |exact Ad (Aa fin)
  |exact Aa (Ad (Aa fin))
  |exact Aa fin
theorem ye (I:A4 X Ae U H s)(g:QG H a y o):s.TypeIs (.ref a) "dict":=by
 rcases g with⟨kvs,k,e,_,_⟩|⟨kvs,k,b,e,_,_,_⟩
 .obtain⟨_,_,vs,_,dd⟩:=S4 I.hok e;exact dd.typeIs
 .obtain⟨_,_,xs,_,dd⟩:=XW I.hok e;exact dd.typeIs
def WY (td ty:TE):TE:=λU H Q=>td U H λx H1=>ty U H1 λy H2=>∃a v,x=.ref a/\QG H2 a y (some v)/\Q v H2
def W9 (td ty tv:TE):TS:=λD U H=>tv U H λv H1=>td U H1 λx H2=>ty U H2 λy H3=>∃a H4,x=.ref a/\QF H3 a y v H4/\D.nx U H4
section
theorem k7 (hu:X.A.units+1<DV)(ho:PE X o td)(hi:PE X i ty)(hs:UH i):PE X (.Subscript o i pos) (WY td ty):=by
 intro Ae s U H Q I h;refine p7 PySem.F.slot_dict_getitem.lookup hs (Dl (ho Ae s U H _ I h) λu s1 e=>e.el λx H1 I1 rx q1=>Dl (hi Ae s1 U H1 _ I1 q1) λiv s2 e=>e.el λy H2 I2 ry ⟨a,v,ex,g,q2⟩=>?_);subst ex;obtain rfl:u=AC a:=rx;exact⟨ye I2 g,t3 hu I2 g ry λw' s3 I3 rw'=>⟨v,H2,I3,rw',q2⟩⟩
theorem lv (hu:X.A.units+1<DV)(ho:PE X o td)(hi:PE X i ty)(hv:PE X value tv)(hs:De value (some (.Subscript o i pos')) pos.line X.env=pure false) :
  PS X (.Assign [.Subscript o i pos'] value pos) (W9 td ty tv):=by
 intro Ae s U H D I h;refine wpAny_Assign_Subscript (Dl (hv Ae s U H _ I h) λr s1 e=>e.el λv H1 I1 rv q1=>Dl (ho Ae s1 U H1 _ I1 q1) λu s2 e=>e.el λx H2 I2 rx q2=>Dl (hi Ae s2 U H2 _ I2 q2) λiv s3 e=>e.el λy H3 I3 ry ⟨a,H4,ex,g,q3⟩=>?_) hs;subst ex;obtain rfl:u=AC a:=rx;exact t4 hu I3 g ry rv λs4 I4=>⟨U,H4,I4,q3⟩
end
theorem rQ (h:CH)(hb:E5<h.objs.size):Do P w H (h.push {cls:=.type "dict",data:=.dict #[]}) h.objs.size (.dK []):=
 ⟨DO _,beq_eq_false_iff_ne.mpr (Bj (A5 hb)),[],.nil,ME h⟩
def TK:TE:=λ_ H Q=>∀p,H p=none->Q (.ref p) (Cv H p (.dK []))
section
theorem ql:PE X (.Dict [] [] pos) TK:=λAe s U H Q I h=>
 wpAny_Dict_empty ⟨.ref s.heap.objs.size,_,I.laid (λ_ _ q=>Ag _ q) (AH _) (rQ s.heap I.big),rfl,h _ (I.hok.fresh (AH _))⟩
end
def Nv:List (TE×TE)->St->Hp->(List (V×V)->Hp->Prop)->Prop
 |[],_,H,Q=>Q [] H
 |(tk,tv)::r,U,H,Q=>tk U H λx H1=>tv U H1 λy H2=>Nv r U H2 λps H3=>Q ((x,y)::ps) H3
abbrev VV:List (V×V)->List (Ah×Ah)->Prop:=DX λp q=>RelV p.1 q.1/\RelV p.2 q.2
def bK (X:Cx)(pos:Pos)(keys:List (Option B8))(values:List B8)(trs:List (TE×TE)):Prop:=
 ∀(Ae:List (Av×Obj)) (s:Aq) (U:St) (H:Hp) (Q:List (V×V)->Hp->Prop),A4 X Ae U H s->Nv trs U H Q ->
  Ar (Az X.prog X.w) X.A (evalPairs (pairTrees keys values X.env pos)) (λvs s'=>∃ps H',A4 X Ae U H' s'/\VV ps vs/\Q ps H') X.xe s
theorem lr :bK X pos [] [] []:=λAe s U H Q I h=>pairTrees_nil_walk ⟨[],H,I,.nil,h⟩
theorem aO (hk:PE X k tk)(hv:PE X v tv)(hr:bK X pos ks vs trs) :
  bK X pos (some k::ks) (v::vs) ((tk,tv)::trs):=λAe s U H Q I h=>
 pairTrees_cons_walk (Dl (hk Ae s U H _ I h) λu s1 ⟨x,H1,I1,rx,q1⟩=>Dl (hv Ae s1 U H1 _ I1 q1) λw2 s2 ⟨y,H2,I2,ry,q2⟩ =>
  Dl (hr Ae s2 U H2 _ I2 q2) λws s3 ⟨ps,H3,I3,rel,q3⟩=>⟨(x,y)::ps,H3,I3,.cons ⟨rx,ry⟩ rel,q3⟩)
noncomputable def mergeK (kvs more:List (Co×V)):List (Co×V):=more.foldl (λacc kv=>putK acc kv.1 kv.2) kvs
theorem KV.merge:∀{more:List (Co×V)}{rs:List (Co×Ah)}{kvs:List (Co×V)}{vs:List (Co×Ah)},KV more rs->KV kvs vs->KV (mergeK kvs more) (Jg vs rs):=by
 intro more rs kvs vs r;unfold KV at r;induction r generalizing kvs vs with
 |nil=>intro q;exact q
 | @cons p q ps qs h t ih=>
  intro r0
  have e:KV (putK kvs p.1 p.2) (stored vs q.1 q.2):=by
   have:=r0.put p.1 h.2;rw[<- h.1];exact this
  exact ih e
theorem vW:∀(more kvs:List (Co×V)),(mergeK kvs more).length<=kvs.length+more.length
 |[],kvs=>by show kvs.length<=kvs.length+0;ext
 |p::r,kvs=>by
  have h1:=vW r (putK kvs p.1 p.2);have h2:=aP kvs p.1 p.2;show(mergeK (putK kvs p.1 p.2) r).length<=_;rw[AK];ext
theorem uR :∀{kvs:List (Co×V)}{ws:List (Ah×Ah)},VV (kvs.map λkv=>(kV kv.1,kv.2)) ws->∃rs,Carries (BO P w) ws rs/\KV kvs rs
 |[],_,r=>by rw[DB]at r;cases r;exact⟨[],Dr,.nil⟩
 |p::kvs,_,r=>by
  rw[AT]at r;cases r with
  | @cons a b as bs h t=>obtain⟨rs,c,q⟩:=uR t;obtain⟨b1,b2⟩:=b;exact⟨(p.1,b2)::rs,⟨RY h.1,rfl,c⟩,.cons ⟨rfl,h.2⟩ q⟩
def WX (trs:List (TE×TE)):TE:=λU H Q=>∀p,H p=none->Nv trs U (Cv H p (.dK [])) λps H2=>H2 p=some (.dK [])/\∃kvs,ps=kvs.map (λkv=>(kV kv.1,kv.2))/\kvs.length<=15/\Q (.ref p) (Cv H2 p (.dK (mergeK [] kvs)))
theorem k8 (h:bK X pos keys values trs)(hall:keys.all (·.isSome)=true)(hl:keys.length=values.length)(h0:keys≠[])
  (h15:keys.length<=15):PE X (.Dict keys values pos) (WX trs):=by
 intro Ae s U H Q I q;have hn:=I.hok.fresh (AH s.heap.objs.size);have I1:=I.laid (a:=s.heap.objs.size) (o:=.dK []) (h':=s.heap.push {cls:=.type "dict",data:=.dict #[]}) (t':=s.toks) (λ_ _ q=>Ag _ q) (AH _) (rQ s.heap I.big);refine wpAny_Dict_walk (knd:=BO X.prog X.w) hall hl h0 h15 (Dl (h Ae _ U _ _ I1 (q _ hn)) λws s2 ⟨ps,H2,I2,rel,e,kvs,ep,lk,q2⟩=>?_);subst ep;obtain⟨rs,c,rk⟩:=uR (P:=X.prog) (w:=X.w) rel;obtain⟨z,hd,vs0,r0,dd⟩:=gD I2.hok e;cases r0;refine⟨rs,c,dd,λh' dd' hs=>⟨.ref s.heap.objs.size,_,?_,rfl,q2⟩⟩
 have hz:(mergeK [] kvs).length<=Am:=by
  have h1:=vW kvs [];rw[EB]at h1;rw[Hs];ext
 have he:∃q,h'.get? s.heap.objs.size=some q:=let ⟨q,_,_,hq,_⟩:=dd';⟨q,hq⟩;exact ZY I2 (by rw[e];exact Dr) hs he (ZM hz hd (rk.merge .nil) dd')
structure M1 (X:Cx)(o:B8)(m:Str)(apos:Pos)(e:B8)(cpos:Pos):Prop where
 base:CD o m X.env (eval o X.env)=eval o X.env
 few:((Cb cpos (Au [e] X.env)).all (λx=>!x.1) && (Fo cpos (DC [] X.env)).all (λx=>x.1.isSome)
  && decide (([e]:List B8).length+([]:List E2).length+(if ([]:List E2).isEmpty then 0 else 1)<30))=true
 line:(apos.endLine == cpos.line)=true
 trees:Cb cpos (Au [e] X.env)=[(false,eval e X.env)]
structure M2 (X:Cx)(o:B8)(m:Str)(apos:Pos)(e f:B8)(cpos:Pos):Prop where
 base:CD o m X.env (eval o X.env)=eval o X.env
 few:((Cb cpos (Au [e,f] X.env)).all (λx=>!x.1) && (Fo cpos (DC [] X.env)).all (λx=>x.1.isSome)
  && decide (([e,f]:List B8).length+([]:List E2).length+(if ([]:List E2).isEmpty then 0 else 1)<30))=true
 line:(apos.endLine == cpos.line)=true
 trees:Cb cpos (Au [e,f] X.env)=[(false,eval e X.env),(false,eval f X.env)]
section
end
section
end
section
end
section
end
section
end
section
variable {κ:Type}[DecidableEq κ]
end
structure Df (K:Ac)(mg:Str->Option Ah)(x:Str)(st:DE)(ps:List Str)(f:Av)(fd:DG):Prop where
 F:Cz K x x st f fd
 b:HF K fd ps []
 m:mg x=some (.ref f)
structure Blt (mg:Str->Option Ah):Prop where
 len:mg "len" = none
 range:mg "range" = none
 isinstance:mg "isinstance" = none
 int:mg "int" = none
 bool:mg "bool" = none
 list:mg "list" = none
 tuple:mg "tuple" = none
 max:mg "max" = none
 min:mg "min" = none
 dict:mg "dict" = none
 reversed:mg "reversed" = none
 sorted:mg "sorted" = none
 set:mg "set" = none
 str:mg "str" = none
 sum:mg "sum" = none
 enumerate:mg "enumerate" = none
 zip:mg "zip" = none
 all:mg "all" = none
section
theorem Xv {st:DE}(d:Df X.K X.mg x st ps f fd)(G:FnOk X.prog X.w X.K X.mg X.base CX0 k f fd ps sp)(hr:Dv k X.A)(ha:PA X (e::es) t)
  (hg:Gl X x:=by rfl) (hdb:(x == ("__debug__":Str))=false:=by decide) (he:Au (e::es) X.env=(false,eval e X.env)::Au es X.env:=by rfl) (hpl:(Cb pos (Au es X.env)).any (·.1)=false:=by rfl) :
  PE X (.Call (.Name x p) (e::es) [] pos) (SK sp [] E0 t):=kz G hr hg d.m d.F.kp d.b .nil Ol ha hdb he hpl
theorem Xu (hm:X.mg x=some (.int i t))(hg:Gl X x:=by rfl)(hd:(x == ("__debug__":Str))=false:=by decide):PE X (.Name x pos) (tC (.int i)):=rG hg hm ⟨_,rfl⟩ hd
end
theorem small (h:n<=1000):n<=Am:=Fl (B5 h)
theorem nX (xs)(k:Nat):K1 xs none (some (k:Int))=xs.take k:=by
 unfold K1;rw[HT.sIx_none,HT.sIx_nat,Ll,MT];by_cases h:k<=xs.length
 .rw[F4 h]
 .rw[GA (by ext),BD,BW (by ext)]
theorem rP (xs)(k:Nat):K1 xs (some (k:Int)) none=xs.drop k:=by
 unfold K1;rw[HT.sIx_none,HT.sIx_nat];by_cases h:k<=xs.length
 .rw[F4 h,BW (by rw[Ht];exact AH _)]
 .rw[GA (by ext),Ky,O1,List.drop_eq_nil_of_le (by ext)]
def TabOk (K:Ac)(w:BK)(h:Av)(D:List (Str×Int)):Prop:=
 ∃es n,K.lookup h=some ⟨.type "dict",none,.dict es n,#[]⟩/\PySem.W.KeysLit w.params es.toList/\∀x v,D.lookup x=some v->∃t,PySem.W.nsIn K h x=some (some (.int v t))
theorem TZ (hm:X.mg x=some (.ref h))(hg:Gl X x:=by rfl)(hd:(x == ("__debug__":Str))=false:=by decide):PE X (.Name x pos) (tC (.ref h)):=rG hg hm rfl hd
def fB (K:Ac)(w:BK):R2:=λx y H Q=>∃h D k v,x=.ref h/\y=.str k/\TabOk K w h D/\D.lookup k=some v/\Q (.int v) H
theorem cu :OX X (fB X.K X.w):=by
 intro value slice Ae s U H x y v u Q I rx ry h hs;obtain⟨a,D,k,z,e1',e2',⟨es,n,hl,hk,he⟩,hz,q⟩:_:=h;cases(show v=AC a from rx);obtain⟨t,rfl⟩:=(show∃t,u=DD k t from ry);obtain⟨t',e⟩:=he k z hz;have hm:=PySem.W.mapOf_K (prog:=X.prog) (w:=X.w) I.kIn hl hk;exact bP hm.typeIs slot_dict_getitem.lookup (VX (strKind_is X.prog X.w k t) hm (PySem.W.find_K hl e) ⟨.int z,H,I.tok _,⟨_,rfl⟩,q⟩) hs
theorem gU (h0:0<=i)(h1:i<(xs.length:Int)):∃v,FC xs i=some v/\v∈xs:=by
 have hk:i.toNat<xs.length:=by ext
 have e:i=((i.toNat:Nat):Int):=by ext
 have z:=Ot (Af hk);rw[<- e]at z;exact⟨xs[i.toNat],z,F5 hk⟩
end L2
namespace L3
open PySem PySem.Spec PyProof.Rows L2
inductive D where
 |non | bl (b:Bool) | int (i:Int) | str (x:Str) | ref (a:Av) | ty (n:String)
 |tup (xs:List D) | lst (xs:List D) | dic (kvs:List (Co×D)) | dct (kvs:List (List Co×D))
noncomputable def Qj:Bool:=false
abbrev Zt:=Av->D->Prop
def At (Z:Zt)(v:V):D->Prop
 |.non=>v=.non
 |.bl b=>v=.bl b
 |.int i=>v=.int i
 |.str x=>v=.str x
 |.ref a=>v=.ref a
 |.ty n=>v=.ty n
 |.tup xs=>∃p,v=.ref p/\Z p (.tup xs)
 |.lst xs=>∃p,v=.ref p/\Z p (.lst xs)
 |.dic kvs=>∃p,v=.ref p/\Z p (.dic kvs)
 |.dct kvs=>∃p,v=.ref p/\Z p (.dct kvs)
abbrev Dm (Z:Zt):List V->List D->Prop:=DX (At Z)
def KAt (Z:Zt)(p:κ×V)(q:κ×D):Prop:=p.1=q.1/\At Z p.2 q.2
abbrev CV (Z:Zt):List (κ×V)->List (κ×D)->Prop:=DX (KAt Z)
def Le (Z Z':Zt):Prop:=∀p d,Z p d->Z' p d
theorem Le.refl (Z:Zt):Le Z Z:=λ_ _ h=>h
theorem Le.trans (a:Le Z Z1)(b:Le Z1 Z2):Le Z Z2:=λp d h=>b p d (a p d h)
theorem At.mono (l:Le Z Z')(h:At Z v d):At Z' v d:=by
 cases d with
 |tup xs=>obtain⟨p,e,z⟩:=h;exact⟨p,e,l _ _ z⟩
 |lst xs=>obtain⟨p,e,z⟩:=h;exact⟨p,e,l _ _ z⟩
 |dic xs=>obtain⟨p,e,z⟩:=h;exact⟨p,e,l _ _ z⟩
 |dct xs=>obtain⟨p,e,z⟩:=h;exact⟨p,e,l _ _ z⟩
 |_=>exact h
theorem Dm.mono (l:Le Z Z'):∀{vs:List V}{ds:List D},Dm Z vs ds->Dm Z' vs ds
 |_,_,.nil=>.nil
 |_,_,.cons r t=>.cons (At.mono l r) (Dm.mono l t)
theorem CV.mono (l:Le Z Z'):∀{vs:List (κ×V)}{ds:List (κ×D)},CV Z vs ds->CV Z' vs ds
 |_,_,.nil=>.nil
 |_,_,.cons r t=>.cons ⟨r.1,At.mono l r.2⟩ (CV.mono l t)
theorem Dm.length (h:Dm Z vs ds):vs.length=ds.length:=DW h
theorem Dm.get :∀{vs:List V}{ds:List D}{i:Nat}{d:D},Dm Z vs ds->ds[i]? = some d->∃v,vs[i]? = some v/\At Z v d
 |_,_,_,_,.nil,e=>by simp at e
 |_,_,0,_,.cons r _,e=>by simp at e;subst e;exact⟨_,rfl,r⟩
 |_,_,i+1,d,.cons _ t,e=>by
  obtain⟨v,h1,h2⟩:=Dm.get t (by simpa using e);exact⟨v,by simpa using h1,h2⟩
theorem Dm.got :∀{vs:List V}{ds:List D}{i:Nat}{v:V},Dm Z vs ds->vs[i]? = some v->∃d,ds[i]? = some d/\At Z v d
 |_,_,_,_,.nil,e=>by simp at e
 |_,_,0,_,.cons r _,e=>by simp at e;subst e;exact⟨_,rfl,r⟩
 |_,_,i+1,d,.cons _ t,e=>by
  obtain⟨v,h1,h2⟩:=Dm.got t (by simpa using e);exact⟨v,by simpa using h1,h2⟩
theorem Dm.append :∀{xs ys:List V}{us ws:List D},Dm Z xs us->Dm Z ys ws->Dm Z (xs++ys) (us++ws)
 |_,_,_,_,.nil,s=>s
 |_,_,_,_,.cons r t,s=>.cons r (Dm.append t s)
theorem Dm.take :∀{xs:List V}{us:List D}(n:Nat),Dm Z xs us->Dm Z (xs.take n) (us.take n)
 |_,_,0,_=>.nil
 |_,_,_+1,.nil=>.nil
 |_,_,n+1,.cons r t=>.cons r (Dm.take n t)
theorem Dm.drop :∀{xs:List V}{us:List D}(n:Nat),Dm Z xs us->Dm Z (xs.drop n) (us.drop n)
 |_,_,0,r=>r
 |_,_,_+1,.nil=>.nil
 |_,_,n+1,.cons _ t=>Dm.drop n t
inductive MO where
 |lst (xs:List D) | dic (kvs:List (Co×D)) | dct (kvs:List (List Co×D)) | obj (C:Av) (fs:List (Str×D))
abbrev Mp:=Av->Option MO
noncomputable def put (M:Mp)(a:Av)(o:MO):Mp:=λb=>if b=a then some o else M b
noncomputable def JU (M:Mp)(a:Av):Mp:=λb=>if b=a then none else M b
theorem Dq :put M a o a=some o:=by unfold put;rw[if_pos rfl]
theorem DK (h:b≠a):put M a o b=M b:=by unfold put;rw[if_neg h]
theorem R3 :put (put M a o) a u=put M a u:=by funext b;unfold put;split<;>rfl
theorem Yk (h:M a=none):JU (put M a o) a=M:=by
 funext b;unfold JU put;split
 .next e=>rw[e,h]
 .rfl
def Sub (M M':Mp):Prop:=∀a o,M a=some o->M' a=some o
theorem Sub.refl (M:Mp):Sub M M:=λ_ _ h=>h
theorem Sub.trans {M M1 M2:Mp}(a:Sub M M1)(b:Sub M1 M2):Sub M M2:=λp o h=>b p o (a p o h)
theorem Sub.put (h:M a=none):Sub M (put M a o):=λb u e=>by
 rw[DK (λz=>by rw[z,h]at e;cases e)];exact e
theorem Sub.puts (s:Sub M M')(h:M a=none):Sub M (L3.put M' a o):=λb u e=>by
 rw[DK (λz=>by rw[z,h]at e;cases e)];exact s b u e
section
variable (K:Ac)
def HB (H:Hp)(Z:Zt)(p:Av):D->Prop
 |.tup ds=>∃vs,H p=some (.tup vs)/\Dm Z vs ds
 |.lst ds=>∃vs,Rd H p (.lst vs)/\Dm Z vs ds
 |.dic kvs=>∃ks,Rd H p (.dK ks)/\CV Z ks kvs
 |.dct kvs=>∃ks,Rd H p (.dT ks)/\CV Z ks kvs
 |_=>False
def KB (Z:Zt)(p:Av):D->Prop
 |.tup ds=>Qj=true/\∃vs,(∃o Bh n,K.lookup p=some o/\o.cls=.type "tuple"/\o.data=.seq Bh n/\Bh.size<=Am/\BF vs Bh.toList)/\Dm Z vs ds
 |.lst ds=>∃vs,(∃o Bh n,K.lookup p=some o/\o.cls=.type "list"/\o.dict=none/\o.data=.seq Bh n/\Bh.size<=Am/\BF vs Bh.toList)/\Dm Z vs ds
 |_=>False
def MB (H:Hp)(Z:Zt)(p:Av):MO->Prop
 |.lst ds=>∃vs,H p=some (.lst vs)/\Dm Z vs ds
 |.dic kvs=>∃ks,H p=some (.dK ks)/\CV Z ks kvs
 |.dct kvs=>∃ks,H p=some (.dT ks)/\CV Z ks kvs
 |.obj C fs=>∃dx ks,H p=some (.ins C dx ks)/\CV Z ks fs
structure HR (H:Hp)(M:Mp)(Z:Zt):Prop where
 z:∀p d,Z p d->HB H Z p d\/KB K Z p d
 m:∀p o,M p=some o->(∀d,Z p d->KB K Z p d)/\MB H Z p o
end
section
variable {K:Ac}{H:Hp}{M M':Mp}{Z:Zt}{p:Av}{d:D}
theorem HB.mono (l:Le Z Z')(h:HB H Z p d):HB H Z' p d:=by
 cases d with
 |tup ds=>obtain⟨vs,r,a⟩:=h;exact⟨vs,r,a.mono l⟩
 |lst ds=>obtain⟨vs,r,a⟩:=h;exact⟨vs,r,a.mono l⟩
 |dic ds=>obtain⟨vs,r,a⟩:=h;exact⟨vs,r,a.mono l⟩
 |dct ds=>obtain⟨vs,r,a⟩:=h;exact⟨vs,r,a.mono l⟩
 |_=>exact h.elim
theorem KB.mono (l:Le Z Z')(h:KB K Z p d):KB K Z' p d:=by
 cases d with
 |tup ds=>obtain⟨g,vs,r,a⟩:=h;exact⟨g,vs,r,a.mono l⟩
 |lst ds=>obtain⟨vs,r,a⟩:=h;exact⟨vs,r,a.mono l⟩
 |_=>exact h.elim
theorem MB.mono (l:Le Z Z')(h:MB H Z p o):MB H Z' p o:=by
 cases o with
 |lst ds=>obtain⟨vs,r,a⟩:=h;exact⟨vs,r,a.mono l⟩
 |dic ds=>obtain⟨vs,r,a⟩:=h;exact⟨vs,r,a.mono l⟩
 |dct ds=>obtain⟨vs,r,a⟩:=h;exact⟨vs,r,a.mono l⟩
 |obj C fs=>obtain⟨dx,vs,r,a⟩:=h;exact⟨dx,vs,r,a.mono l⟩
theorem Rd.at (e:H' p=H p)(h:Rd H p u):Rd H' p u:=by
 rcases h with h|⟨o,h⟩
 .exact .inl (e.trans h)
 .exact .inr ⟨o,e.trans h⟩
theorem HB.at (e:H' p=H p)(h:HB H Z p d):HB H' Z p d:=by
 cases d with
 |tup ds=>obtain⟨vs,r,a⟩:=h;exact⟨vs,e.trans r,a⟩
 |lst ds=>obtain⟨vs,r,a⟩:=h;exact⟨vs,Rd.at e r,a⟩
 |dic ds=>obtain⟨vs,r,a⟩:=h;exact⟨vs,Rd.at e r,a⟩
 |dct ds=>obtain⟨vs,r,a⟩:=h;exact⟨vs,Rd.at e r,a⟩
 |_=>exact h.elim
theorem MB.at (e:H' p=H p)(h:MB H Z p o):MB H' Z p o:=by
 cases o with
 |lst ds=>obtain⟨vs,r,a⟩:=h;exact⟨vs,e.trans r,a⟩
 |dic ds=>obtain⟨vs,r,a⟩:=h;exact⟨vs,e.trans r,a⟩
 |dct ds=>obtain⟨vs,r,a⟩:=h;exact⟨vs,e.trans r,a⟩
 |obj C fs=>obtain⟨dx,vs,r,a⟩:=h;exact⟨dx,vs,e.trans r,a⟩
theorem HB.some (h:HB H Z p d):H p≠none:=λe=>by
 cases d with
 |tup ds=>obtain⟨vs,r,a⟩:=h;rw[e]at r;cases r
 |lst ds=>obtain⟨vs,r | ⟨o,r⟩,a⟩:=h<;>rw[e]at r<;>cases r
 |dic ds=>obtain⟨vs,r | ⟨o,r⟩,a⟩:=h<;>rw[e]at r<;>cases r
 |dct ds=>obtain⟨vs,r | ⟨o,r⟩,a⟩:=h<;>rw[e]at r<;>cases r
 |_=>exact h.elim
theorem MB.some (h:MB H Z p o):H p≠none:=λe=>by
 cases o with
 |lst ds=>obtain⟨vs,r,a⟩:=h;rw[e]at r;cases r
 |dic ds=>obtain⟨vs,r,a⟩:=h;rw[e]at r;cases r
 |dct ds=>obtain⟨vs,r,a⟩:=h;rw[e]at r;cases r
 |obj C fs=>obtain⟨dx,vs,r,a⟩:=h;rw[e]at r;cases r
theorem HR.fresh (h:HR K H M Z)(e:H p=none):M p=none:=by
 cases q:M p with
 |none=>rfl
 |some o=>exact absurd e (h.m p o q).2.some
theorem HR.sub (h:HR K H M Z)(s:Sub M' M):HR K H M' Z:=⟨h.z,λp o e=>h.m p o (s p o e)⟩
def ext (Z:Zt)(p:Av)(d:D):Zt:=λb u=>Z b u\/(b=p/\u=d)
theorem Le.ext:Le Z (ext Z p d):=λ_ _ h=>.inl h
theorem HR.lay (h:HR K H M Z)(e:H p=none)(o:HO):(∀b u,Z b u->HB (Cv H p o) Z b u\/KB K Z b u)/\∀b u,M b=some u->(∀d,Z b d->KB K Z b d)/\MB (Cv H p o) Z b u:=by
 refine⟨λb u z=>?_,λb u q=>?_⟩
 .rcases h.z b u z with k|k
  .exact .inl (k.at (HL λq=>k.some (by rw[q];exact e)))
  .exact .inr k
 .obtain⟨k1,k2⟩:=h.m b u q;exact⟨k1,k2.at (HL λq=>k2.some (by rw[q];exact e))⟩
theorem HR.datum (h:HR K H M Z)(e:H p=none){o:HO}(hb:HB (Cv H p o) Z p d):HR K (Cv H p o) M (ext Z p d):=by
 obtain⟨h1,h2⟩:=h.lay e o;have mn:=h.fresh e;refine⟨λb u z=>?_,λb u q=>?_⟩
 .rcases z with z|⟨rfl,rfl⟩
  .rcases h1 b u z with k|k
   .exact .inl (k.mono Le.ext)
   .exact .inr (k.mono Le.ext)
  .exact .inl (hb.mono Le.ext)
 .obtain⟨k1,k2⟩:=h2 b u q;refine⟨λd' z=>?_,k2.mono Le.ext⟩;rcases z with z|⟨rfl,rfl⟩
  .exact(k1 d' z).mono Le.ext
  .rw[mn]at q;cases q
theorem HR.newT (h:HR K H M Z)(e:H p=none){vs:List V}{ds:List D}(a:Dm Z vs ds):HR K (Cv H p (.tup vs)) M (ext Z p (.tup ds)):=h.datum e ⟨vs,L1,a⟩
theorem HR.newF (h:HR K H M Z)(e:H p=none){vs:List V}{ds:List D}(a:Dm Z vs ds):HR K (Cv H p (.lst vs)) M (ext Z p (.lst ds)):=h.datum e ⟨vs,.inl L1,a⟩
theorem HR.newFD (h:HR K H M Z)(e:H p=none){vs:List (Co×V)}{ds:List (Co×D)}(a:CV Z vs ds):HR K (Cv H p (.dK vs)) M (ext Z p (.dic ds)):=h.datum e ⟨vs,.inl L1,a⟩
theorem re :At (ext Z p (.dct xs)) (.ref p) (.dct xs):=⟨p,rfl,.inr ⟨rfl,rfl⟩⟩
theorem qF :At (ext Z p (.tup xs)) (.ref p) (.tup xs):=⟨p,rfl,.inr ⟨rfl,rfl⟩⟩
theorem iD :At (ext Z p (.lst xs)) (.ref p) (.lst xs):=⟨p,rfl,.inr ⟨rfl,rfl⟩⟩
theorem qD :At (ext Z p (.dic xs)) (.ref p) (.dic xs):=⟨p,rfl,.inr ⟨rfl,rfl⟩⟩
theorem HR.newM (h:HR K H M Z)(e:H p=none){o:HO}{u:MO}(hb:MB (Cv H p o) Z p u):HR K (Cv H p o) (put M p u) Z:=by
 obtain⟨h1,h2⟩:=h.lay e o;refine⟨h1,λb w q=>?_⟩;by_cases hbp:b=p
 .subst hbp;rw[Dq]at q;cases q;refine⟨λd z=>?_,hb⟩;rcases h.z b d z with k|k
  .exact absurd e k.some
  .exact k
 .rw[DK hbp]at q;exact h2 b w q
theorem HR.newL (h:HR K H M Z)(e:H p=none){vs:List V}{ds:List D}(a:Dm Z vs ds):HR K (Cv H p (.lst vs)) (put M p (.lst ds)) Z:=h.newM e ⟨vs,L1,a⟩
theorem HR.newD (h:HR K H M Z)(e:H p=none){vs:List (Co×V)}{ds:List (Co×D)}(a:CV Z vs ds):HR K (Cv H p (.dK vs)) (put M p (.dic ds)) Z:=h.newM e ⟨vs,L1,a⟩
theorem HR.chg (h:HR K H M Z){u u':MO}{o:HO}(e:M p=some u)(hb:MB (Cv H p o) Z p u'):HR K (Cv H p o) (put M p u') Z:=by
 obtain⟨hk,_⟩:=h.m p u e;refine⟨λb d z=>?_,λb w q=>?_⟩
 .by_cases hbp:b=p
  .subst hbp;exact .inr (hk d z)
  .rcases h.z b d z with k|k
   .exact .inl (k.at (HL hbp))
   .exact .inr k
 .by_cases hbp:b=p
  .subst hbp;rw[Dq]at q;cases q;exact⟨hk,hb⟩
  .rw[DK hbp]at q;obtain⟨k1,k2⟩:=h.m b w q;exact⟨k1,k2.at (HL hbp)⟩
theorem HR.chgL (h:HR K H M Z){u:MO}(e:M p=some u){vs:List V}{ds:List D}(a:Dm Z vs ds):HR K (Cv H p (.lst vs)) (put M p (.lst ds)) Z:=h.chg e ⟨vs,L1,a⟩
theorem HR.chgD (h:HR K H M Z){u:MO}(e:M p=some u){vs:List (Co×V)}{ds:List (Co×D)}(a:CV Z vs ds):HR K (Cv H p (.dK vs)) (put M p (.dic ds)) Z:=h.chg e ⟨vs,L1,a⟩
theorem HR.frzM (h:HR K H M Z){u:MO}(e:M p=some u)(hb:HB H Z p d):HR K H (JU M p) (ext Z p d):=by
 refine⟨λb d' z=>?_,λb w q=>?_⟩
 .rcases z with z|⟨rfl,rfl⟩
  .rcases h.z b d' z with k|k
   .exact .inl (k.mono Le.ext)
   .exact .inr (k.mono Le.ext)
  .exact .inl (hb.mono Le.ext)
 .unfold JU at q;split at q
  .cases q
  .next hbp=>
   obtain⟨k1,k2⟩:=h.m b w q;refine⟨λd' z=>?_,k2.mono Le.ext⟩;rcases z with z|⟨z,_⟩
   .exact(k1 d' z).mono Le.ext
   .exact absurd z hbp
theorem HR.frzL (h:HR K H M Z){ds:List D}(e:M p=some (.lst ds)):HR K H (JU M p) (ext Z p (.lst ds)):=by
 obtain⟨_,vs,r,a⟩:=h.m p _ e;exact h.frzM e ⟨vs,.inl r,a⟩
theorem HR.frzD (h:HR K H M Z){ds:List (Co×D)}(e:M p=some (.dic ds)):HR K H (JU M p) (ext Z p (.dic ds)):=by
 obtain⟨_,vs,r,a⟩:=h.m p _ e;exact h.frzM e ⟨vs,.inl r,a⟩
theorem HR.frzDT (h:HR K H M Z){ds:List (List Co×D)}(e:M p=some (.dct ds)):HR K H (JU M p) (ext Z p (.dct ds)):=by
 obtain⟨_,vs,r,a⟩:=h.m p _ e;exact h.frzM e ⟨vs,.inl r,a⟩
theorem HR.rdT (h:HR K H M Z){v:V}{ds:List D}(a:At Z v (.tup ds)):∃p vs,v=.ref p/\Lg K H p vs/\Dm Z vs ds:=by
 obtain⟨p,rfl,z⟩:=a;rcases h.z p _ z with⟨vs,r,a⟩|⟨_,vs,r,a⟩
 .exact⟨p,vs,rfl,.inl (.inl r),a⟩
 .exact⟨p,vs,rfl,.inr r,a⟩
theorem HR.rdK (hg:Qj=false)(h:HR K H M Z){v:V}{ds:List D}(a:At Z v (.tup ds)):∃p vs,v=.ref p/\H p=some (.tup vs)/\Dm Z vs ds:=by
 obtain⟨p,rfl,z⟩:=a;rcases h.z p _ z with⟨vs,r,a⟩|⟨g,_⟩
 .exact⟨p,vs,rfl,r,a⟩
 .rw[hg]at g;cases g
theorem HR.rdF (h:HR K H M Z){v:V}{ds:List D}(a:At Z v (.lst ds)):∃p vs,v=.ref p/\F0 K H p vs/\Dm Z vs ds:=by
 obtain⟨p,rfl,z⟩:=a;rcases h.z p _ z with⟨vs,r,a⟩|⟨vs,r,a⟩
 .exact⟨p,vs,rfl,.inl r,a⟩
 .exact⟨p,vs,rfl,.inr r,a⟩
theorem HR.rdM (h:HR K H M Z){ds:List D}(e:M p=some (.lst ds)):∃vs,H p=some (.lst vs)/\Dm Z vs ds:=(h.m p _ e).2
theorem HR.rdMO (h:HR K H M Z){C:Av}{fs:List (Str×D)}(e:M p=some (.obj C fs)):∃dx vs,H p=some (.ins C dx vs)/\CV Z vs fs:=(h.m p _ e).2
theorem HR.rdMD (h:HR K H M Z){ds:List (Co×D)}(e:M p=some (.dic ds)):∃vs,H p=some (.dK vs)/\CV Z vs ds:=(h.m p _ e).2
noncomputable def Bi (M:Mp):D->Option (List D)
 |.lst ds=>some ds
 |.ref p=>match M p with
  |some (.lst ds)=>some ds
  |_=>none
 |_=>none
noncomputable def Hj (M:Mp):D->Option (List D)
 |.tup ds=>some ds
 |d=>Bi M d
theorem HR.rdL (h:HR K H M Z){v:V}{d:D}{ds:List D}(e:Bi M d=some ds)(a:At Z v d):∃p vs,v=.ref p/\F0 K H p vs/\Dm Z vs ds:=by
 cases d with
 |lst xs=>cases e;exact h.rdF a
 |ref p=>
  cases(show v=.ref p from a);unfold Bi at e;simp only at e;split at e
  .next q=>
   cases e;obtain⟨vs,r,a⟩:=h.rdM q;exact⟨p,vs,rfl,F0.of r,a⟩
  .cases e
 |_=>cases e
theorem HR.rdS (h:HR K H M Z){v:V}{d:D}{ds:List D}(e:Hj M d=some ds)(a:At Z v d):∃p vs,v=.ref p/\(F0 K H p vs\/Lg K H p vs)/\Dm Z vs ds:=by
 have go:Bi M d=some ds->∃p vs,v=.ref p/\(F0 K H p vs\/Lg K H p vs)/\Dm Z vs ds:=λe=>by
  obtain⟨p,vs,e1,s,a⟩:=h.rdL e a;exact⟨p,vs,e1,.inl s,a⟩
 cases d with
 |tup xs=>cases e;obtain⟨p,vs,e1,s,a⟩:=h.rdT a;exact⟨p,vs,e1,.inr s,a⟩
 |lst xs=>exact go e
 |ref p=>exact go e
 |_=>cases e
end
abbrev St:=L2.St
abbrev Gy:=List (Option D)
abbrev Ef:=D->Mp->Prop
abbrev DQ:=Gy->Mp->Ef->Prop
abbrev Ks:=Gy->Mp->(Bool->Mp->Prop)->Prop
abbrev JV:=Gy->Mp->(List D->Mp->Prop)->Prop
abbrev YD:=Gy->Mp->(Option Int->Mp->Prop)->Prop
structure JG where
 nx:Gy->Mp->Prop
 rt:Ef
 bk:Gy->Mp->Prop:=λ_ _=>False
 ct:Gy->Mp->Prop:=λ_ _=>False
abbrev HM:=JG->Gy->Mp->Prop
abbrev K2:=D->D->Mp->Ef->Prop
abbrev Du:=List D->Mp->Ef->Prop
def OA (Z:Zt):Option V->Option D->Prop
 |_,none=>True
 |some v,some d=>At Z v d
 |none,some _=>False
abbrev Gx (Z:Zt):St->Gy->Prop:=DX (OA Z)
theorem OA.mono {Z Z':Zt}(l:Le Z Z'){v:Option V}{d:Option D}(h:OA Z v d):OA Z' v d:=by
 cases d with
 |none=>cases v<;>exact Dr
 |some d=>cases v with
  |none=>exact h
  |some v=>exact At.mono l h
theorem Gx.mono (l:Le Z Z'):∀{U:St}{τ:Gy},Gx Z U τ->Gx Z' U τ
 |_,_,.nil=>.nil
 |_,_,.cons r t=>.cons (OA.mono l r) (Gx.mono l t)
theorem Gx.set (r:At Z x d):∀{U:St}{τ:Gy}(i:Nat),Gx Z U τ->Gx Z (U.set i (some x)) (τ.set i (some d))
 |_,_,_,.nil=>.nil
 |_,_,0,.cons _ t=>.cons r t
 |_,_,i+1,.cons q t=>.cons q (Gx.set r i t)
theorem Gx.get :∀{U:St}{τ:Gy}{i:Nat}{d:D},Gx Z U τ->τ[i]? = some (some d)->∃v,U[i]? = some (some v)/\At Z v d
 |_,_,_,_,.nil,e=>by simp at e
 |v::_,_,0,_,.cons r _,e=>by
  simp at e;subst e;cases v with
  |none=>exact r.elim
  |some v=>exact⟨v,rfl,r⟩
 |_,_,i+1,d,.cons _ t,e=>by
  obtain⟨v,h1,h2⟩:=Gx.get t (by simpa using e);exact⟨v,by simpa using h1,h2⟩
def EQ (x:D)(k:Int->Prop):Prop:=match x with
 |.int i=>k i
 |_=>False
def Q5 (x:D)(k:Bool->Prop):Prop:=match x with
 |.bl b=>k b
 |_=>False
def Gr (x:D)(k:Str->Prop):Prop:=match x with
 |.str b=>k b
 |_=>False
def JF (x:D)(k:Av->Prop):Prop:=match x with
 |.ref b=>k b
 |_=>False
def Cw (o:Option α)(k:α->Prop):Prop:=match o with
 |some x=>k x
 |none=>False
theorem CU (h:EQ x k):∃i,x=.int i/\k i:=by
 cases x with
 |int i=>exact⟨i,rfl,h⟩
 |_=>exact h.elim
theorem RM {x:D}{k:Bool->Prop}(h:Q5 x k):∃i,x=.bl i/\k i:=by
 cases x with
 |bl i=>exact⟨i,rfl,h⟩
 |_=>exact h.elim
theorem D8 (h:Gr x k):∃i,x=.str i/\k i:=by
 cases x with
 |str i=>exact⟨i,rfl,h⟩
 |_=>exact h.elim
theorem Ia (h:JF x k):∃i,x=.ref i/\k i:=by
 cases x with
 |ref i=>exact⟨i,rfl,h⟩
 |_=>exact h.elim
theorem Cj (h:Cw x k):∃i,x=some i/\k i:=by
 cases x with
 |some i=>exact⟨i,rfl,h⟩
 |none=>exact h.elim
section
variable (K:Ac)
def Hu (Z:Zt)(Q2:Ef)(Q:VK):Prop:=∀Z' v d H' M',Le Z Z'->HR K H' M' Z'->At Z' v d->Q2 d M'->Q v H'
def lE (t:DQ):TE:=λU H Q=>∃Z τ M Q2,Gx Z U τ/\HR K H M Z/\t τ M Q2/\Hu K Z Q2 Q
def lT (t:Ks):TT:=λU H Q=>∃Z τ M Q2,Gx Z U τ/\HR K H M Z/\t τ M Q2/\∀Z' b H' M',Le Z Z'->HR K H' M' Z'->Q2 b M'->Q b H'
def lA (t:JV):TA:=λU H Q=>∃Z τ M Q2,Gx Z U τ/\HR K H M Z/\t τ M Q2/\∀Z' vs ds H' M',Le Z Z'->HR K H' M' Z'->Dm Z' vs ds->Q2 ds M'->Q vs H'
def lO (t:YD):TO:=λU H Q=>∃Z τ M Q2,Gx Z U τ/\HR K H M Z/\t τ M Q2/\∀Z' b H' M',Le Z Z'->HR K H' M' Z'->Q2 b M'->Q b H'
def Rj (Z:Zt)(Q2:Gy->Mp->Prop)(Q:St->Hp->Prop):Prop:=∀Z' U τ H' M',Le Z Z'->Gx Z' U τ->HR K H' M' Z'->Q2 τ M'->Q U H'
structure ER (Z:Zt)(D2:JG)(D:NT):Prop where
 nx:Rj K Z D2.nx D.nx
 rt:Hu K Z D2.rt D.rt
 bk:Rj K Z D2.bk D.bk
 ct:Rj K Z D2.ct D.ct
def lS (t:HM):TS:=λD U H=>∃Z τ M D2,Gx Z U τ/\HR K H M Z/\t D2 τ M/\ER K Z D2 D
def lR (r:K2):R2:=λx y H Q=>∃Z dx dy M Q2,HR K H M Z/\At Z x dx/\At Z y dy/\r dx dy M Q2/\Hu K Z Q2 Q
def lC (r:List D->Mp->Ef->Prop):List V->Hp->VK->Prop:=λxs H Q=>∃Z ds M Q2,HR K H M Z/\Dm Z xs ds/\r ds M Q2/\Hu K Z Q2 Q
def lU (r:D->Mp->Ef->Prop):V->Hp->VK->Prop:=λx H Q=>∃Z d M Q2,HR K H M Z/\At Z x d/\r d M Q2/\Hu K Z Q2 Q
def lSp (sp:Du):Sp:=λvs H Q _=>∃Z ds M Q2,HR K H M Z/\Dm Z vs ds/\sp ds M Q2/\Hu K Z Q2 Q
end
section
variable {K:Ac}
theorem Hu.le (h:Hu K Z Q2 Q)(l:Le Z Z'):Hu K Z' Q2 Q:=λZ1 v d H M l1 hr a q=>h Z1 v d H M (l.trans l1) hr a q
theorem Rj.le {Q2:Gy->Mp->Prop}{Q:St->Hp->Prop}(h:Rj K Z Q2 Q)(l:Le Z Z'):Rj K Z' Q2 Q:=λZ1 v d H M l1 hr a q=>h Z1 v d H M (l.trans l1) hr a q
theorem ER.le {D2:JG}{D:NT}(h:ER K Z D2 D)(l:Le Z Z'):ER K Z' D2 D:=⟨h.nx.le l,h.rt.le l,h.bk.le l,h.ct.le l⟩
theorem Hu.dn {Q2:Ef}{Q:VK}(h:Hu K Z Q2 Q):Hu K Z (λd M=>∃M0,Sub M0 M/\Q2 d M0) Q:=λZ1 v d H M l1 hr a ⟨M0,s,q⟩=>h Z1 v d H M0 l1 (hr.sub s) a q
end
@[irreducible] def BU (X:Cx)(e:B8)(t:DQ):Prop:=PE X e (lE X.K t)
unseal BU
@[irreducible] def Hv (X:Cx)(e:B8)(t:Ks):Prop:=PT X e (lT X.K t)
unseal Hv
@[irreducible] def Jf (X:Cx)(e:B8)(t:Ks):Prop:=PW X e (lT X.K t)
unseal Jf
@[irreducible] def Gj (X:Cx)(es:List B8)(t:JV):Prop:=PA X es (lA X.K t)
unseal Gj
@[irreducible] def JW (X:Cx)(e:Option B8)(t:YD):Prop:=PO X e (lO X.K t)
unseal JW
@[irreducible] def GL (X:Cx)(st:DE)(t:HM):Prop:=PS X st (lS X.K t)
unseal GL
@[irreducible] def Dw (X:Cx)(st:List DE)(t:HM):Prop:=K3 X st (lS X.K t)
unseal Dw
@[irreducible] def Cf (X:Cx)(f:Ah->Ah->Sem Ah)(r:K2):Prop:=FS X f (lR X.K r)
unseal Cf
@[irreducible] def FR (X:Cx)(f:Ah->Sem Ah)(r:D->Mp->Ef->Prop):Prop:=Ri X f (lU X.K r)
unseal FR
@[irreducible] def BP (X:Cx)(f:Ah)(r:List D->Mp->Ef->Prop):Prop:=E4 X f (lC X.K r)
unseal BP
@[irreducible] def Fz (X:Cx)(r:K2):Prop:=OX X (lR X.K r)
unseal Fz
section
variable {X:Cx}
theorem PE.mono {e:B8}{t t':TE}(h:PE X e t)(m:∀U H Q,t' U H Q->t U H Q):PE X e t':=λAe s U H Q I q=>h Ae s U H Q I (m U H Q q)
theorem PT.mono {e:B8}{t t':TT}(h:PT X e t)(m:∀U H Q,t' U H Q->t U H Q):PT X e t':=λAe s U H Q I q=>h Ae s U H Q I (m U H Q q)
theorem PW.mono (h:PW X e t)(m:∀U H Q,t' U H Q->t U H Q):PW X e t':=λwh Ae s U H Q I q=>h wh Ae s U H Q I (m U H Q q)
theorem PA.mono (h:PA X e t)(m:∀U H Q,t' U H Q->t U H Q):PA X e t':=λpos Ae s U H Q I q=>h pos Ae s U H Q I (m U H Q q)
theorem PO.mono (h:PO X e t)(m:∀U H Q,t' U H Q->t U H Q):PO X e t':=λAe s U H Q I q=>h Ae s U H Q I (m U H Q q)
theorem PS.mono (h:PS X e t)(m:∀D U H,t' D U H->t D U H):PS X e t':=λAe s U H D I q=>h Ae s U H D I (m D U H q)
theorem K3.mono (h:K3 X e t)(m:∀D U H,t' D U H->t D U H):K3 X e t':=λAe s U H D I q=>h Ae s U H D I (m D U H q)
theorem FS.mono (h:FS X f r)(m:∀x y H Q,r' x y H Q->r x y H Q):FS X f r':=λAe s U H x y v u Q I rx ry q=>h Ae s U H x y v u Q I rx ry (m x y H Q q)
theorem Ri.mono (h:Ri X f r)(m:∀x H Q,r' x H Q->r x H Q):Ri X f r':=λAe s U H x v Q I rx q=>h Ae s U H x v Q I rx (m x H Q q)
theorem E4.mono (h:E4 X f r)(m:∀x H Q,r' x H Q->r x H Q):E4 X f r':=λAe s U H x v Q I rx q=>h Ae s U H x v Q I rx (m x H Q q)
theorem OX.mono (h:OX X r)(m:∀x y H Q,r' x y H Q->r x y H Q):OX X r':=λvalue slice Ae s U H x y v u Q I rx ry q hs=>h value slice Ae s U H x y v u Q I rx ry (m x y H Q q) hs
def FM (i:Nat):DQ:=λτ M Q=>Cw (τ[i]?).join λd=>Q d M
def uC (d:D):DQ:=λ_ M Q=>Q d M
theorem qv (i:Nat)(hN:X.N[i]? = some x:=by rfl)(hv:UD X.env.scope x:=by first | exact Cd rfl | exact FX (Cd rfl) | exact FX (FX rfl))(hd:(x == ("__debug__":Str))=false:=by decide)
  (hcd:(x == ("__classdict__":Str))=false:=by decide):BU X (.Name x pos) (FM i):=PE.mono (pv i hN hv hd hcd) λU H Q ⟨Z,τ,M,Q2,st,hr,h,k⟩=>by
 obtain⟨d,e,q⟩:=Cj h;obtain⟨v,e1,a⟩:=st.get (EL.mp e);exact⟨v,e1,k Z v d H M (Le.refl _) hr a q⟩
theorem qc (h:PE X e (tC v))(a:∀Z,At Z v d):BU X e (uC d):=PE.mono h λU H Q ⟨Z,τ,M,Q2,st,hr,q,k⟩=>k Z v d H M (Le.refl _) hr (a Z) q
theorem Ak {i j pos}:BU X (.Constant (.int i) j pos) (uC (.int i)):=qc df λ_=>rfl
theorem SO {b j pos}:BU X (.Constant (.bool b) j pos) (uC (.bl b)):=qc xX λ_=>rfl
theorem TV {j pos}:BU X (.Constant .none j pos) (uC .non):=qc dg λ_=>rfl
theorem BV {x j pos}:BU X (.Constant (.str x) j pos) (uC (.str x)):=qc di λ_=>rfl
theorem Ii (hm:X.mg x=some (.int i t))(hg:Gl X x:=by rfl)(hd:(x == ("__debug__":Str))=false:=by decide):BU X (.Name x pos) (uC (.int i)):=qc (Xu hm hg hd) λ_=>rfl
theorem P8 (hm:X.mg x=some (.ref h))(hg:Gl X x:=by rfl)(hd:(x == ("__debug__":Str))=false:=by decide):BU X (.Name x pos) (uC (.ref h)):=qc (TZ hm hg hd) λ_=>rfl
variable {a b c e:B8}{ta tb tc te:DQ}{pos:Pos}
theorem lE.bind {K:Ac}{U:St}{H:Hp}{Z:Zt}{τ:Gy}{M:Mp}{R:Ef}{Q:VK}(st:Gx Z U τ)(hr:HR K H M Z)(h:ta τ M R)
  (k:∀Z' v d H' M',Le Z Z'->HR K H' M' Z'->At Z' v d->R d M'->Q v H'):lE K ta U H Q:=⟨Z,τ,M,R,st,hr,h,k⟩
def Vh (r:K2)(ta tb:DQ):DQ:=λτ M Q=>ta τ M λx M1=>tb τ M1 λy M2=>r x y M2 Q
theorem Zv {K:Ac}{r:K2}:∀U H Q,lE K (Vh r ta tb) U H Q->WR (lR K r) (lE K ta) (lE K tb) U H Q:=by
 intro U H Q;ext1⟨Z,τ,M,Q2,st,hr,h,k⟩;refine lE.bind st hr h λZ1 x dx H1 M1 l1 h1 a1 q1=>lE.bind (st.mono l1) h1 q1 λZ2 y dy H2 M2 l2 h2 a2 q2=>?_;exact⟨Z2,dx,dy,M2,Q2,h2,a1.mono l2,a2,q2,k.le (l1.trans l2)⟩
theorem BB (ho:Cf X (Bu op) r)(ha:BU X a ta)(hb:BU X b tb):BU X (.BinOp a op b pos) (Vh r ta tb):=PE.mono (xZ ho ha hb) Zv
theorem Bl (hr:Fz X r)(ha:BU X a ta)(hb:BU X b tb)(hs:Ou b:=by exact λ_ _=>rfl):BU X (.Subscript a b pos) (Vh r ta tb):=PE.mono (xY hr ha hb hs) Zv
theorem JN (ho:Cf X (Bb op) r)(ha:BU X a ta)(hb:BU X b tb)(hm:FW op b=false:=by exact Qg _):BU X (.Compare a [op] [b] pos) (Vh r ta tb):=PE.mono (k6 ho ha hb hm) Zv
def Of (t:DQ):Ks:=λτ M Q=>t τ M λx M1=>Q5 x λc=>Q c M1
theorem SX {K:Ac}{t1:TE}(m:∀U H Q,lE K te U H Q->t1 U H Q):∀U H Q,lT K (Of te) U H Q->t1 U H λx H1=>∃k,x=.bl k/\Q k H1:=by
 intro U H Q;ext1⟨Z,τ,M,Q2,st,hr,h,k⟩;refine m _ _ _ (lE.bind st hr h λZ1 x dx H1 M1 l1 h1 a1 q1=>?_);obtain⟨c,rfl,q⟩:=RM q1;exact⟨c,a1,k Z1 c H1 M1 l1 h1 q⟩
theorem AV {op:CmpOp}{r:K2}(ho:Cf X (Bb op) r)(ha:BU X a ta)(hb:BU X b tb)(hm:FW op b=false:=by exact Qg _):Hv X (.Compare a [op] [b] pos) (Of (Vh r ta tb)):=PT.mono (ma ho ha hb hm) (SX Zv)
theorem HA {t:DQ}(h:BU X e t)(he:∀whole,PH e X.env whole=(do let v <- whole;Mu e.pos;GD [v] (truthy v)):=by intro _;rfl):Hv X e (Of t):=PT.mono (fg h he) (SX λ_ _ _ h=>h)
def Nu (r r':K2)(ta tb tc:DQ):DQ:=λτ M Q=>ta τ M λx M1=>tb τ M1 λy M2=>r x y M2 λz M3=>Q5 z λk=>if k=true then tc τ M3 λw M4=>r' y w M4 Q else Q (.bl false) M3
theorem T6 {K:Ac} :∀U H Q,lE K (Nu r r' ta tb tc) U H Q->PY (lR K r) (lR K r') (lE K ta) (lE K tb) (lE K tc) U H Q:=by
 intro U H Q;ext1⟨Z,τ,M,Q2,st,hr,h,k⟩;refine lE.bind st hr h λZ1 x dx H1 M1 l1 h1 a1 q1=>lE.bind (st.mono l1) h1 q1 λZ2 y dy H2 M2 l2 h2 a2 q2=>?_;refine⟨Z2,dx,dy,M2,_,h2,a1.mono l2,a2,q2,λZ3 z dz H3 M3 l3 h3 a3 q3=>?_⟩;obtain⟨c,rfl,q⟩:=RM q3;refine⟨c,a3,?_⟩;cases c with
 |false=>rw[if_neg Aj]at q ⊢;exact k Z3 (.bl false) (.bl false) H3 M3 (l1.trans (l2.trans l3)) h3 rfl q
 |true=>rw[if_pos rfl]at q ⊢;refine lE.bind (st.mono (l1.trans (l2.trans l3))) h3 q λZ4 w dw H4 M4 l4 h4 a4 q4=>?_;exact⟨Z4,dy,dw,M4,Q2,h4,a2.mono (l3.trans l4),a4,q4,k.le (l1.trans (l2.trans (l3.trans l4)))⟩
theorem Nz (ho:Cf X (Bb op) r)(ho':Cf X (Bb op') r')(ha:BU X a ta)(hb:BU X b tb)(hc:BU X c tc)
  (hm:lastMarks [op,op'] [b,c]=false:=by with_unfolding_all rfl):BU X (.Compare a [op,op'] [b,c] pos) (Nu r r' ta tb tc):=PE.mono (qj ho ho' ha hb hc hm) T6
def lJ (r:D->Mp->Ef->Prop)(ta:DQ):DQ:=λτ M Q=>ta τ M λx M1=>r x M1 Q
theorem Q0 {op:UnaryOp}{r:D->Mp->Ef->Prop}(ho:FR X (Mt op) r)(ha:BU X a ta):BU X (.UnaryOp op a pos) (lJ r ta):=PE.mono (yB ho ha) (by
 intro U H Q;ext1⟨Z,τ,M,Q2,st,hr,h,k⟩;exact lE.bind st hr h λZ1 x dx H1 M1 l1 h1 a1 q1=>⟨Z1,dx,M1,Q2,h1,a1,q1,k.le l1⟩)
variable {tB:Ks}{C8:List B8}
def WN (t u:Ks):Ks:=λτ M Q=>t τ M λc M1=>if c=true then u τ M1 Q else Q false M1
def lN (t u:Ks):Ks:=λτ M Q=>t τ M λc M1=>if c=true then Q true M1 else u τ M1 Q
def WG (t:Ks):Ks:=λτ M Q=>t τ M λc M1=>Q (!c) M1
theorem lT.bind {K:Ac}(st:Gx Z U τ)(hr:HR K H M Z)(h:tA τ M R)
  (k:∀Z' b H' M',Le Z Z'->HR K H' M' Z'->R b M'->Q b H'):lT K tA U H Q:=⟨Z,τ,M,R,st,hr,h,k⟩
theorem Yg (ha:Hv X a tA):Jf X (.BoolOp .And [a] pos) tA:=me ha
theorem X9 (ha:Hv X a tA):Jf X (.BoolOp .Or [a] pos) tA:=fi ha
theorem X8 (ha:Hv X a tA)(hb:Jf X (.BoolOp .And (b::C8) pos) tB):Jf X (.BoolOp .And (a::b::C8) pos) (WN tA tB):=PW.mono (fh ha hb) (by
 intro U H Q;ext1⟨Z,τ,M,Q2,st,hr,h,k⟩;refine lT.bind st hr h λZ1 c H1 M1 l1 h1 q1=>?_;cases c with
 |true=>rw[if_pos rfl]at q1 ⊢;exact lT.bind (st.mono l1) h1 q1 λZ2 c H2 M2 l2 h2 q2=>k Z2 c H2 M2 (l1.trans l2) h2 q2
 | false=>rw [if_neg Aj] at q1 ⊢;exact k Z1 false H1 M1 l1 h1 q1)
theorem Vs (ha:Hv X a tA)(hb:Jf X (.BoolOp .Or (b::C8) pos) tB):Jf X (.BoolOp .Or (a::b::C8) pos) (lN tA tB):=PW.mono (yE ha hb) (by
 intro U H Q;ext1⟨Z,τ,M,Q2,st,hr,h,k⟩;refine lT.bind st hr h λZ1 c H1 M1 l1 h1 q1=>?_;cases c with
 |false=>rw[if_neg Aj]at q1 ⊢;exact lT.bind (st.mono l1) h1 q1 λZ2 c H2 M2 l2 h2 q2=>k Z2 c H2 M2 (l1.trans l2) h2 q2
 | true=>rw [if_pos rfl] at q1 ⊢;exact k Z1 true H1 M1 l1 h1 q1)
theorem Jf.pt (h:Jf X e t):Hv X e t:=PW.pt (show PW X e (lT X.K t)from h)
theorem Mh (ha:Hv X a tA):Hv X (.UnaryOp .Not a pos) (WG tA):=PT.mono (ff ha) (by
 intro U H Q;ext1⟨Z,τ,M,Q2,st,hr,h,k⟩;exact lT.bind st hr h λZ1 c H1 M1 l1 h1 q1=>k Z1 _ H1 M1 l1 h1 q1)
def SG (ta tb:DQ):DQ:=λτ M Q=>ta τ M λx M1=>Q5 x λc=>if c=true then tb τ M1 Q else Q (.bl false) M1
def WF (ta tb:DQ):DQ:=λτ M Q=>ta τ M λx M1=>Q5 x λc=>if c=true then Q (.bl true) M1 else tb τ M1 Q
theorem OO {op}(h:BU X a t):BU X (.BoolOp op [a] pos) t:=dh h
theorem Qa (ha:BU X a ta)(hb:BU X (.BoolOp .And (b::C8) pos) tb):BU X (.BoolOp .And (a::b::C8) pos) (SG ta tb):=PE.mono (g9 ha hb) (by
 intro U H Q;ext1⟨Z,τ,M,Q2,st,hr,h,k⟩;refine lE.bind st hr h λZ1 x dx H1 M1 l1 h1 a1 q1=>?_;obtain⟨c,rfl,q1'⟩:=RM q1;replace q1:=q1';refine⟨c,a1,?_⟩;cases c with
 |true=>rw[if_pos rfl]at q1 ⊢;exact lE.bind (st.mono l1) h1 q1 λZ2 y dy H2 M2 l2 h2 a2 q2=>k Z2 y dy H2 M2 (l1.trans l2) h2 a2 q2
 | false=>rw [if_neg Aj] at q1 ⊢;exact k Z1 (.bl false) (.bl false) H1 M1 l1 h1 rfl q1)
theorem mC (ha:BU X a ta)(hb:BU X (.BoolOp .Or (b::C8) pos) tb):BU X (.BoolOp .Or (a::b::C8) pos) (WF ta tb):=PE.mono (yA ha hb) (by
 intro U H Q;ext1⟨Z,τ,M,Q2,st,hr,h,k⟩;refine lE.bind st hr h λZ1 x dx H1 M1 l1 h1 a1 q1=>?_;obtain⟨c,rfl,q1'⟩:=RM q1;replace q1:=q1';refine⟨c,a1,?_⟩;cases c with
 |false=>rw[if_neg Aj]at q1 ⊢;exact lE.bind (st.mono l1) h1 q1 λZ2 y dy H2 M2 l2 h2 a2 q2=>k Z2 y dy H2 M2 (l1.trans l2) h2 a2 q2
 | true=>rw [if_pos rfl] at q1 ⊢;exact k Z1 (.bl true) (.bl true) H1 M1 l1 h1 rfl q1)
def lP (t:Ks)(ta tb:DQ):DQ:=λτ M Q=>t τ M λc M1=>if c=true then ta τ M1 Q else tb τ M1 Q
theorem Jq (hc:Hv X c tA)(ha:BU X a ta)(hb:BU X b tb):BU X (.IfExp c a b pos) (lP tA ta tb):=PE.mono (qo hc ha hb) (by
 intro U H Q;ext1⟨Z,τ,M,Q2,st,hr,h,k⟩;refine lT.bind st hr h λZ1 c H1 M1 l1 h1 q1=>?_;cases c with
 |true=>rw[if_pos rfl]at q1 ⊢;exact lE.bind (st.mono l1) h1 q1 λZ2 y dy H2 M2 l2 h2 a2 q2=>k Z2 y dy H2 M2 (l1.trans l2) h2 a2 q2
 | false=>rw [if_neg Aj] at q1 ⊢;exact lE.bind (st.mono l1) h1 q1 λZ2 y dy H2 M2 l2 h2 a2 q2=>k Z2 y dy H2 M2 (l1.trans l2) h2 a2 q2)
variable {es:List B8}{t:JV}
def TF:JV:=λ_ M Q=>Q [] M
def SE (ta:DQ)(tr:JV):JV:=λτ M Q=>ta τ M λx M1=>tr τ M1 λxs M2=>Q (x::xs) M2
theorem qN:Gj X [] TF:=PA.mono ZO λU H Q ⟨Z,τ,M,Q2,st,hr,h,k⟩=>k Z [] [] H M (Le.refl _) hr .nil h
theorem qA (ha:BU X e te)(hr:Gj X es t)(hs:Au (e::es) X.env=(false,eval e X.env)::Au es X.env:=by rfl):Gj X (e::es) (SE te t):=PA.mono (ZR ha hr hs) (by
 intro U H Q;ext1⟨Z,τ,M,Q2,st,hr,h,k⟩;refine lE.bind st hr h λZ1 x dx H1 M1 l1 h1 a1 q1=>⟨Z1,τ,M1,_,st.mono l1,h1,q1,λZ2 vs ds H2 M2 l2 h2 a2 q2=>?_⟩;exact k Z2 (x::vs) (dx::ds) H2 M2 (l1.trans l2) h2 (.cons (a1.mono l2) a2) q2)
def Wz (t:JV):DQ:=λτ M Q=>t τ M λxs M1=>xs.length<=Am/\Q (.tup xs) M1
def Sx (t:JV):DQ:=λτ M Q=>t τ M λxs M1=>xs.length<=Am/\Q (.lst xs) M1
def WH (t:JV):DQ:=λτ M Q=>t τ M λxs M1=>xs.length<=Am/\∀p,M1 p=none->Q (.ref p) (put M1 p (.lst xs))
theorem CC {x1}(h:Gj X es t):BU X (.Tuple es x1 pos) (Wz t):=PE.mono (dm h) (by
 intro U H Q;ext1⟨Z,τ,M,Q2,st,hr,h,k⟩;refine ⟨Z,τ,M,_,st,hr,h,λZ1 vs ds H1 M1 l1 h1 a1 q1=>⟨by rw [a1.length];exact q1.1,λp hp=>?_⟩⟩;exact k _ (.ref p) (.tup ds) _ M1 (l1.trans Le.ext) (h1.newT hp a1) qF q1.2)
theorem HC (h:Gj X es t):BU X (.List es pos) (Sx t):=PE.mono (oU h) (by
 intro U H Q;ext1⟨Z,τ,M,Q2,st,hr,h,k⟩;refine ⟨Z,τ,M,_,st,hr,h,λZ1 vs ds H1 M1 l1 h1 a1 q1=>⟨by rw [a1.length];exact q1.1,λp hp=>?_⟩⟩;exact k _ (.ref p) (.lst ds) _ M1 (l1.trans Le.ext) (h1.newF hp a1) iD q1.2)
theorem IZ (h:Gj X es t):BU X (.List es pos) (WH t):=PE.mono (oU h) (by
 intro U H Q;ext1⟨Z,τ,M,Q2,st,hr,h,k⟩;refine ⟨Z,τ,M,_,st,hr,h,λZ1 vs ds H1 M1 l1 h1 a1 q1=>⟨by rw [a1.length];exact q1.1,λp hp=>?_⟩⟩;exact k Z1 (.ref p) (.ref p) _ _ l1 (h1.newL hp a1) rfl (q1.2 p (h1.fresh hp)))
def Zm (r:List D->Mp->Ef->Prop)(t:JV):DQ:=λτ M Q=>t τ M λxs M1=>r xs M1 Q
theorem mF {K:Ac} :∀U H Q,lE K (Zm r t) U H Q->cU (lC K r) (lA K t) U H Q:=by
 intro U H Q;ext1⟨Z,τ,M,Q2,st,hr,h,k⟩;exact⟨Z,τ,M,_,st,hr,h,λZ1 vs ds H1 M1 l1 h1 a1 q1=>⟨Z1,ds,M1,Q2,h1,a1,q1,k.le l1⟩⟩
theorem B9 {id:String}(hc:BP X (.builtin id) r)(hm:X.mg x=none)(hv:EJ x=some (.builtin id))(ha:Gj X (e::es) t)(hg:Gl X x:=by rfl)(hn:x≠"__name__":=by decide)(hdb:(x == ("__debug__":Str))=false:=by decide)
  (he:Au (e::es) X.env=(false,eval e X.env)::Au es X.env:=by rfl) (hpl:(Cb pos (Au es X.env)).any (·.1)=false:=by rfl):BU X (.Call (.Name x p) (e::es) [] pos) (Zm r t):=PE.mono (qi hc hg hm hv ha hn hdb he hpl) mF
theorem CB (hc:BP X (.type T) r)(hm:X.mg x=none)(hv:EJ x=some (.type T))(ha:Gj X (e::es) t)(hg:Gl X x:=by rfl)(hn:x≠"__name__":=by decide)(hdb:(x == ("__debug__":Str))=false:=by decide)
  (he:Au (e::es) X.env=(false,eval e X.env)::Au es X.env:=by rfl) (hpl:(Cb pos (Au es X.env)).any (·.1)=false:=by rfl):BU X (.Call (.Name x p) (e::es) [] pos) (Zm r t):=PE.mono (vv hc hg hm hv ha hn hdb he hpl) mF
def SF (sp:Du)(t:JV):DQ:=λτ M Q=>t τ M λxs M1=>sp xs M1 Q
theorem Aw {st:DE}(d:Df X.K X.mg x st ps f fd)(G:FnOk X.prog X.w X.K X.mg X.base CX0 k f fd ps (lSp X.K sp))(hr:Dv k X.A)(ha:Gj X (e::es) t)
  (hg:Gl X x:=by rfl) (hdb:(x == ("__debug__":Str))=false:=by decide) (he:Au (e::es) X.env=(false,eval e X.env)::Au es X.env:=by rfl) (hpl:(Cb pos (Au es X.env)).any (·.1)=false:=by rfl) :
  BU X (.Call (.Name x p) (e::es) [] pos) (SF sp t):=PE.mono (Xv d G hr ha hg hdb he hpl) (by
 intro U H Q;ext1⟨Z,τ,M,Q2,st,hr,h,k⟩;refine ⟨Z,τ,M,_,st,hr,h,λZ1 vs ds H1 M1 l1 h1 a1 q1=>?_⟩;show lSp X.K sp (vs++[]) H1 Q E0;rw [CT];exact ⟨Z1,ds,M1,Q2,h1,a1,q1,k.le l1⟩)
def Og:YD:=λ_ M Q=>Q none M
def Su (t:DQ):YD:=λτ M Q=>t τ M λx M1=>EQ x λi=>Q (some i) M1
theorem Yd:JW X none Og:=PO.mono lm λU H Q ⟨Z,τ,M,Q2,st,hr,h,k⟩=>k Z none H M (Le.refl _) hr h
theorem Us (h:BU X e te):JW X (some e) (Su te):=PO.mono (ln h) (by
 intro U H Q;ext1⟨Z,τ,M,Q2,st,hr,h,k⟩;refine lE.bind st hr h λZ1 x dx H1 M1 l1 h1 a1 q1=>?_;obtain ⟨i,rfl,q⟩:=CU q1;exact ⟨i,a1,k Z1 (some i) H1 M1 l1 h1 q⟩)
def lK (r:D->Option Int->Option Int->Mp->Ef->Prop)(te:DQ)(tl th:YD):DQ:=λτ M Q=>te τ M λx M1=>tl τ M1 λl M2=>th τ M2 λu M3=>r x l u M3 Q
def xO (K:Ac)(r:D->Option Int->Option Int->Mp->Ef->Prop):V->Option Int->Option Int->Hp->VK->Prop:=λx lo hi H Q=>∃Z d M Q2,HR K H M Z/\At Z x d/\r d lo hi M Q2/\Hu K Z Q2 Q
@[irreducible] def Gc (X:Cx)(r:D->Option Int->Option Int->Mp->Ef->Prop):Prop:=Sa X (xO X.K r)
unseal Gc
theorem Sa.mono (h:Sa X r)(m:∀x l u H Q,r' x l u H Q->r x l u H Q):Sa X r':=λAe s U H x v vl vu lo hi sl Q I rx hs pl pu q=>h Ae s U H x v vl vu lo hi sl Q I rx hs pl pu (m x lo hi H Q q)
theorem Jp {lo hi:Option B8}(hr:Gc X r)(he:BU X e te)(hl:JW X lo tl)(hu:JW X hi th):BU X (.Subscript e (.Slice lo hi none p2) pos) (lK r te tl th):=PE.mono (qq hr he hl hu) (by
 intro U H Q;ext1⟨Z,τ,M,Q2,st,hr,h,k⟩;refine lE.bind st hr h λZ1 x dx H1 M1 l1 h1 a1 q1=>⟨Z1,τ,M1,_,st.mono l1,h1,q1,λZ2 lo H2 M2 l2 h2 q2=>⟨Z2,τ,M2,_,st.mono (l1.trans l2),h2,q2,λZ3 hi H3 M3 l3 h3 q3=>?_⟩⟩;exact ⟨Z3,dx,M3,Q2,h3,a1.mono (l2.trans l3),q3,k.le (l1.trans (l2.trans l3))⟩)
end
end L3
namespace L3
open PySem PySem.Spec PyProof.Rows L2
unseal BU Hv Jf Gj JW GL Dw Cf FR BP Fz Gc
section
variable {K:Ac}{Z:Zt}{H:Hp}{M:Mp}{Q2:Ef}{Q:VK}
theorem Hu.v (k:Hu K Z Q2 Q)(hr:HR K H M Z){v:V}(a:At Z v d)(q:Q2 d M):Q v H:=k Z v d H M (Le.refl _) hr a q
theorem Hu.b (k:Hu K Z Q2 Q)(hr:HR K H M Z){b:Bool}(q:Q2 (.bl b) M):Q (.bl b) H:=k Z (.bl b) (.bl b) H M (Le.refl _) hr rfl q
theorem Hu.i (k:Hu K Z Q2 Q)(hr:HR K H M Z){b:Int}(q:Q2 (.int b) M):Q (.int b) H:=k Z (.int b) (.int b) H M (Le.refl _) hr rfl q
theorem Hu.s (k:Hu K Z Q2 Q)(hr:HR K H M Z){b:Str}(q:Q2 (.str b) M):Q (.str b) H:=k Z (.str b) (.str b) H M (Le.refl _) hr rfl q
theorem Hu.n (k:Hu K Z Q2 Q)(hr:HR K H M Z)(q:Q2 .non M):Q .non H:=k Z .non .non H M (Le.refl _) hr rfl q
theorem Hu.t (k:Hu K Z Q2 Q)(hr:HR K H M Z){vs:List V}{ds:List D}{p:Av}(hp:H p=none)(a:Dm Z vs ds)(q:Q2 (.tup ds) M):Q (.ref p) (Cv H p (.tup vs)):=k _ (.ref p) (.tup ds) _ M Le.ext (hr.newT hp a) qF q
theorem Hu.f (k:Hu K Z Q2 Q)(hr:HR K H M Z){vs:List V}{ds:List D}{p:Av}(hp:H p=none)(a:Dm Z vs ds)(q:Q2 (.lst ds) M):Q (.ref p) (Cv H p (.lst vs)):=k _ (.ref p) (.lst ds) _ M Le.ext (hr.newF hp a) iD q
theorem Hu.l (k:Hu K Z Q2 Q)(hr:HR K H M Z){vs:List V}{ds:List D}{p:Av}(hp:H p=none)(a:Dm Z vs ds)(q:∀p,M p=none->Q2 (.ref p) (put M p (.lst ds))):Q (.ref p) (Cv H p (.lst vs)):=k Z (.ref p) (.ref p) _ _ (Le.refl _) (hr.newL hp a) rfl (q p (hr.fresh hp))
theorem Hu.fd (k:Hu K Z Q2 Q)(hr:HR K H M Z){vs:List (Co×V)}{ds:List (Co×D)}{p:Av}(hp:H p=none)(a:CV Z vs ds)(q:Q2 (.dic ds) M):Q (.ref p) (Cv H p (.dK vs)):=k _ (.ref p) (.dic ds) _ M Le.ext (hr.newFD hp a) qD q
theorem Hu.d (k:Hu K Z Q2 Q)(hr:HR K H M Z){vs:List (Co×V)}{ds:List (Co×D)}{p:Av}(hp:H p=none)(a:CV Z vs ds)(q:∀p,M p=none->Q2 (.ref p) (put M p (.dic ds))):Q (.ref p) (Cv H p (.dK vs)):=k Z (.ref p) (.ref p) _ _ (Le.refl _) (hr.newD hp a) rfl (q p (hr.fresh hp))
end
section
def sI (C:Int->Int->Prop)(g:Int->Int->D):K2:=λx y M Q=>EQ x λi=>EQ y λj=>C i j/\Q (g i j) M
def P4 (g:Int->Int->D):K2:=λx y M Q=>EQ x λi=>EQ y λj=>Q (g i j) M
theorem o2 (h:FS X f (rI C g))(hg:∀i j Z,At Z (g i j) (g2 i j)):Cf X f (sI C g2):=FS.mono h (by
 intro x y H Q;ext1⟨Z,dx,dy,M,Q2,hr,ax,ay,h,k⟩;obtain ⟨i,rfl,h1⟩:=CU h;obtain ⟨j,rfl,c,q⟩:=CU h1;exact ⟨i,j,ax,ay,c,k Z _ _ H M (Le.refl _) hr (hg i j Z) q⟩)
theorem RP (h:FS X f (Po g))(hg:∀i j Z,At Z (g i j) (g2 i j)):Cf X f (P4 g2):=FS.mono h (by
 intro x y H Q;ext1⟨Z,dx,dy,M,Q2,hr,ax,ay,h,k⟩;obtain ⟨i,rfl,h1⟩:=CU h;obtain ⟨j,rfl,q⟩:=CU h1;exact ⟨i,j,ax,ay,k Z _ _ H M (Le.refl _) hr (hg i j Z) q⟩)
theorem Hl:Cf X (Bu .Add) (P4 λi j=>.int (i+j)):=RP gl λ_ _ _=>rfl
theorem Mo:Cf X (Bu .Sub) (P4 λi j=>.int (i-j)):=RP gx λ_ _ _=>rfl
theorem Ue:Cf X (Bu .Mult) (sI OZ λi j=>.int (i*j)):=o2 gq λ_ _ _=>rfl
theorem Kq:Cf X (Bu .FloorDiv) (sI UN λi j=>.int (i / j)):=o2 nw λ_ _ _=>rfl
theorem G6:Cf X (Bu .Mod) (sI (λ_ j=>0<j) λi j=>.int (i%j)):=o2 gp λ_ _ _=>rfl
theorem RZ:Cf X (Bu .Pow) (sI OY λi j=>.int (i^j.toNat)):=o2 gr λ_ _ _=>rfl
theorem Vr:Cf X (Bu .LShift) (sI OY λi j=>.int (i*2^j.toNat)):=o2 gt λ_ _ _=>rfl
theorem gG:Cf X (Bu .RShift) (sI (λ_ j=>0<=j) λi j=>.int (i / 2^j.toNat)):=o2 gu λ_ _ _=>rfl
theorem S7:Cf X (Bu .BitAnd) (P4 λi j=>.int (AB i j)):=RP gm λ_ _ _=>rfl
theorem JO:Cf X (Bu .BitOr) (P4 λi j=>.int (AI i j)):=RP xV λ_ _ _=>rfl
theorem S8:Cf X (Bu .BitXor) (P4 λi j=>.int (Bd i j)):=RP gy λ_ _ _=>rfl
theorem KY:Cf X (Bb .Lt) (P4 λi j=>.bl (decide (i<j))):=RP zJ λ_ _ _=>rfl
theorem Qe:Cf X (Bb .LtE) (P4 λi j=>.bl (decide (i<=j))):=RP zI λ_ _ _=>rfl
theorem KZ:Cf X (Bb .Gt) (P4 λi j=>.bl (decide (j<i))):=RP zH λ_ _ _=>rfl
theorem Xz:Cf X (Bb .GtE) (P4 λi j=>.bl (decide (j<=i))):=RP zG λ_ _ _=>rfl
def sU (g:Int->D):D->Mp->Ef->Prop:=λx M Q=>EQ x λi=>Q (g i) M
theorem u2 (h:Ri X f (rU g))(hg:∀i Z,At Z (g i) (g2 i)):FR X f (sU g2):=Ri.mono h (by
 intro x H Q;ext1⟨Z,dx,M,Q2,hr,ax,h,k⟩;obtain ⟨i,rfl,q⟩:=CU h;exact ⟨i,ax,k Z _ _ H M (Le.refl _) hr (hg i Z) q⟩)
theorem ZJ:FR X (Mt .USub) (sU λi=>.int (-i)):=u2 jb λ_ _=>rfl
theorem Vy:FR X (Mt .Invert) (sU λi=>.int (D5 i)):=u2 ja λ_ _=>rfl
noncomputable def El:D->Bool
 |.non=>true
 |.bl _=>true
 |.int _=>true
 |.str _=>true
 |_=>false
noncomputable def Kn:D->D->Bool
 |.non,.non=>true
 |.bl a,.bl b=>a == b
 |.bl a,.int b=>(if a then 1 else 0) == b
 |.int a,.bl b=>a == (if b then 1 else 0)
 |.int a,.int b=>decide (a=b)
 |.str a,.str b=>decide (a=b)
 |_,_=>false
noncomputable def S2 (x y:D):Bool:=match x,y with
 |.non,.non=>true | .non,.int _=>true | .int _,.non=>true | .non,.bl _=>true | .bl _,.non=>true | .non,.str _=>true | .str _,.non=>true
 |.int _,.int _=>true | .bl _,.bl _=>true | .str _,.str _=>true
 |.int _,.str _=>true | .str _,.int _=>true | .bl _,.str _=>true | .str _,.bl _=>true
 |_,_=>false
def W8 (neg:Bool):K2:=λx y M Q=>S2 x y=true/\Q (.bl (if neg then !Kn x y else Kn x y)) M
theorem uV {Z:Zt}{x y:V}{dx dy:D}(ax:At Z x dx)(ay:At Z y dy)(h:S2 dx dy=true):TL x y=true/\decide (x=y)=Kn dx dy:=by
 cases dx<;>cases dy<;>first
  |exact absurd h Aj
  |(subst ax;subst ay;refine⟨rfl,?_⟩;delta Kn;simp[No])
theorem CJ:Cf X (Bb .Eq) (W8 false):=FS.mono zF (by
 intro x y H Q;ext1⟨Z,dx,dy,M,Q2,hr,ax,ay,⟨f,q⟩,k⟩;obtain ⟨h1,h2⟩:=uV ax ay f;exact ⟨h1,by rw [h2];exact k.b hr q⟩)
theorem Xy:Cf X (Bb .NotEq) (W8 true):=FS.mono zK (by
 intro x y H Q;ext1⟨Z,dx,dy,M,Q2,hr,ax,ay,⟨f,q⟩,k⟩;obtain ⟨h1,h2⟩:=uV ax ay f;exact ⟨h1,by rw [h2];exact k.b hr q⟩)
def cJ:Option MO->Option String
 |some (.lst _)=>some "list"
 |some (.dic _)=>some "dict"
 |some (.dct _)=>some "dict"
 |_=>none
noncomputable def QW (M:Mp):D->Option String
 |.non=>some "NoneType"
 |.bl _=>some "bool"
 |.int _=>some "int"
 |.str _=>some "str"
 |.tup _=>some "tuple"
 |.lst _=>some "list"
 |.dic _=>some "dict"
 |.dct _=>some "dict"
 |.ref p=>cJ (M p)
 |.ty _=>none
theorem Zo {M:Mp}{p:Av}{o:Option MO}(h:M p=o):QW M (.ref p)=cJ o:=congrArg cJ h
inductive Cs:List B8->List D->Prop where
 |nil:Cs [] []
 |int {i j pos es ds} (h:Cs es ds):Cs (.Constant (.int i) j pos::es) (.int i::ds)
 |str {i j pos es ds} (h:Cs es ds):Cs (.Constant (.str i) j pos::es) (.str i::ds)
def lQ (ds:List D):JV:=λ_ M Q=>Q ds M
theorem XZ (h:Cs es ds):Gj X es (lQ ds):=by
 induction h with
 |nil=>exact PA.mono (qN) λU H Q ⟨Z,τ,M,Q2,st,hr,h,k⟩=>⟨Z,τ,M,Q2,st,hr,h,k⟩
 |int h ih=>exact PA.mono (qA (Ak) ih rfl) λU H Q ⟨Z,τ,M,Q2,st,hr,h,k⟩=>⟨Z,τ,M,Q2,st,hr,h,k⟩
 |str h ih=>exact PA.mono (qA (BV) ih rfl) λU H Q ⟨Z,τ,M,Q2,st,hr,h,k⟩=>⟨Z,τ,M,Q2,st,hr,h,k⟩
theorem pB (a:Dm Z vs ds)(h:FC ds i=some d):∃v,FC vs i=some v/\At Z v d:=by
 unfold FC at h ⊢;rw[a.length];cases e:Q8 ds.length i with
 |none=>rw[e]at h;cases h
 |some j=>rw[e]at h;exact a.get h
def Lv:K2:=λx y M Q=>match x with
 |.tup xs=>EQ y λi=>Cw (FC xs i) λv=>Q v M
 |_=>False
def W6:K2:=λx y M Q=>Cw (Bi M x) λxs=>EQ y λi=>Cw (FC xs i) λv=>Q v M
theorem BJ:Fz X Lv:=OX.mono cv (by
 intro x y H Q;ext1⟨Z,dx,dy,M,Q2,hr,ax,ay,h,k⟩;cases dx with
 |tup xs=>obtain⟨i,rfl,h1⟩:=CU h;obtain⟨v,e,q⟩:=Cj h1;obtain⟨p,vs,rfl,hs,a⟩:=hr.rdT ax;obtain⟨v',e',a'⟩:=pB a e;exact⟨p,vs,i,v',rfl,ay,hs,e',k.v hr a' q⟩
 | _=>exact h.elim)
theorem Hn:Fz X W6:=OX.mono kq (by
 intro x y H Q;ext1⟨Z,dx,dy,M,Q2,hr,ax,ay,h,k⟩;obtain ⟨xs,e0,h0⟩:=Cj h;obtain ⟨i,rfl,h1⟩:=CU h0;obtain ⟨v,e,q⟩:=Cj h1;obtain ⟨p,vs,rfl,hs,a⟩:=hr.rdL e0 ax;obtain ⟨v',e',a'⟩:=pB a e;exact ⟨p,vs,i,v',rfl,ay,hs,e',k.v hr a' q⟩)
def W5:K2:=λx y M Q=>Gr x λz=>EQ y λi=>z.length<=Am/\Cw (FC z.cps.toList i) λc=>Q (.str ⟨#[c]⟩) M
theorem XY:Fz X W5:=OX.mono ba (by
 intro x y H Q;ext1⟨Z,dx,dy,M,Q2,hr,ax,ay,h,k⟩;obtain ⟨z,rfl,h1⟩:=D8 h;obtain ⟨i,rfl,hz,h2⟩:=CU h1;obtain ⟨c,e,q⟩:=Cj h2;exact ⟨z,i,c,ax,ay,hz,e,k.s hr q⟩)
def Ga (xs:List D)(k:D->Prop):Prop:=match xs with
 |[x]=>k x
 |_=>False
def Fw (xs:List D)(k:D->D->Prop):Prop:=match xs with
 |[x,y]=>k x y
 |_=>False
theorem G4 (h:Ga xs k):∃x,xs=[x]/\k x:=by
 match xs,h with
 |[x],h=>exact⟨x,rfl,h⟩
theorem NE (h:Fw xs k):∃x y,xs=[x,y]/\k x y:=by
 match xs,h with
 |[x,y],h=>exact⟨x,y,rfl,h⟩
theorem Ic (a:Dm Z vs [d]):∃v,vs=[v]/\At Z v d:=by
 cases a with
 |cons a1 a2=>cases a2;exact⟨_,rfl,a1⟩
theorem OU (a:Dm Z vs [d,e]):∃v w,vs=[v,w]/\At Z v d/\At Z w e:=by
 cases a with
 |cons a1 a2=>obtain⟨w,rfl,a3⟩:=Ic a2;exact⟨_,w,rfl,a1,a3⟩
theorem Ko:BP X (.builtin "len") (λxs M Q=>Ga xs λx=>Cw (Hj M x) λys=>Q (.int ys.length) M):=E4.mono yz (by
 intro xs H Q;ext1⟨Z,ds,M,Q2,hr,a,h,k⟩;obtain ⟨x,rfl,h1⟩:=G4 h;obtain ⟨ys,e,q⟩:=Cj h1;obtain ⟨v,rfl,a1⟩:=Ic a;obtain ⟨p,vs,rfl,hs,a2⟩:=hr.rdS e a1;exact ⟨p,vs,rfl,hs,by rw [a2.length];exact k.i hr q⟩)
theorem up:BP X (.builtin "len") (λxs M Q=>Ga xs λx=>Gr x λz=>z.length<=Am/\Q (.int z.length) M):=E4.mono y0 (by
 intro xs H Q;ext1⟨Z,ds,M,Q2,hr,a,h,k⟩;obtain ⟨x,rfl,h1⟩:=G4 h;obtain ⟨z,rfl,hz,q⟩:=D8 h1;obtain ⟨v,rfl,a1⟩:=Ic a;cases (show v=V.str z from a1);exact ⟨z,rfl,hz,k.i hr q⟩)
theorem Ta:BP X (.type "list") (λxs M Q=>Ga xs λx=>Cw (Hj M x) λys=>Q (.lst ys) M):=E4.mono y9 (by
 intro xs H Q;ext1⟨Z,ds,M,Q2,hr,a,h,k⟩;obtain ⟨x,rfl,h1⟩:=G4 h;obtain ⟨ys,e,q⟩:=Cj h1;obtain ⟨v,rfl,a1⟩:=Ic a;obtain ⟨p,vs,rfl,hs,a2⟩:=hr.rdS e a1;exact ⟨p,vs,rfl,hs,λl hl=>k.f hr hl a2 q⟩)
theorem Rb:BP X (.type "tuple") (λxs M Q=>Ga xs λx=>Cw (Hj M x) λys=>Q (.tup ys) M):=E4.mono ZfO (by
 intro xs H Q;ext1⟨Z,ds,M,Q2,hr,a,h,k⟩;obtain⟨x,rfl,h1⟩:=G4 h;obtain⟨ys,e,q⟩:=Cj h1;obtain⟨v,rfl,a1⟩:=Ic a
 have go:Bi M x=some ys->∃p zs,[v]=[V.ref p]/\((F0 X.K H p zs/\∀l,H l=none->Q (.ref l) (Cv H l (.tup zs)))\/(Lg X.K H p zs/\Q (.ref p) H)):=λe=>by
  obtain⟨p,vs,rfl,hs,a2⟩:=hr.rdL e a1;exact⟨p,vs,rfl,.inl ⟨hs,λl hl=>k.t hr hl a2 q⟩⟩
 cases x with
 |tup zs=>cases e;obtain⟨p,vs,rfl,hs,a2⟩:=hr.rdT a1;exact⟨p,vs,rfl,.inr ⟨hs,k.v hr a1 q⟩⟩
 |lst zs=>exact go e
 |ref p=>exact go e
 | _=>cases e)
theorem mT (hc:X.calm=true):BP X (.builtin "max") (λxs M Q=>Fw xs λx y=>EQ x λi=>EQ y λj=>Q (.int (if j > i then j else i)) M):=E4.mono (ur hc) (by
 intro xs H Q;ext1⟨Z,ds,M,Q2,hr,a,h,k⟩;obtain ⟨x,y,rfl,h1⟩:=NE h;obtain ⟨i,rfl,h2⟩:=CU h1;obtain ⟨j,rfl,q⟩:=CU h2;obtain ⟨v,w,rfl,a1,a2⟩:=OU a;cases (show v=V.int i from a1);cases (show w=V.int j from a2);exact ⟨i,j,rfl,k.i hr q⟩)
theorem yV (hc:X.calm=true):BP X (.builtin "min") (λxs M Q=>Fw xs λx y=>EQ x λi=>EQ y λj=>Q (.int (if j<i then j else i)) M):=E4.mono (ut hc) (by
 intro xs H Q;ext1⟨Z,ds,M,Q2,hr,a,h,k⟩;obtain ⟨x,y,rfl,h1⟩:=NE h;obtain ⟨i,rfl,h2⟩:=CU h1;obtain ⟨j,rfl,q⟩:=CU h2;obtain ⟨v,w,rfl,a1,a2⟩:=OU a;cases (show v=V.int i from a1);cases (show w=V.int j from a2);exact ⟨i,j,rfl,k.i hr q⟩)
noncomputable def cutD (xs:List D)(lo hi:Option Int):List D:=(xs.drop (HT.sIx xs.length 0 lo)).take (HT.sIx xs.length xs.length hi-HT.sIx xs.length 0 lo)
theorem Dm.cut (a:Dm Z vs ds)(lo hi:Option Int):Dm Z (K1 vs lo hi) (cutD ds lo hi):=by
 unfold K1 cutD;rw[a.length];exact(a.drop _).take _
def W3:D->Option Int->Option Int->Mp->Ef->Prop:=λx lo hi M Q=>Cw (Bi M x) λxs=>Q (.lst (cutD xs lo hi)) M
theorem Yi:Gc X W3:=Sa.mono ph (by
 intro x lo hi H Q;ext1⟨Z,d,M,Q2,hr,a,h,k⟩;obtain ⟨xs,e,q⟩:=Cj h;obtain ⟨p,vs,rfl,hs,a2⟩:=hr.rdL e a;exact ⟨p,vs,rfl,hs,λl hl=>k.f hr hl (a2.cut lo hi) q⟩)
def W2:D->Option Int->Option Int->Mp->Ef->Prop:=λx lo hi M Q=>match x with
 |.tup xs=>¬(HT.sIx xs.length 0 lo=0/\HT.sIx xs.length xs.length hi=xs.length)/\Q (.tup (cutD xs lo hi)) M
 |_=>False
theorem zX:Gc X W2:=Sa.mono i4 (by
 intro x lo hi H Q;ext1⟨Z,d,M,Q2,hr,a,h,k⟩;cases d with
 |tup xs=>obtain⟨hn,q⟩:=h;obtain⟨p,vs,rfl,hs,a2⟩:=hr.rdT a;exact⟨p,vs,rfl,hs,by rw[a2.length];exact hn,λl hl=>k.t hr hl (a2.cut lo hi) q⟩
 | _=>exact h.elim)
end
section
variable {X:Cx}{st:DE}{C8:List DE}{t u:HM}{e:B8}{te:DQ}{pos:Pos}
def Sv:HM:=λD τ M=>D.nx τ M
def WB (t u:HM):HM:=λD τ M=>t {D with nx:=u D} τ M
def cI (t u:HM):HM:=λD τ M=>∃N:Gy->Mp->Prop,t {D with nx:=N} τ M/\∀τ' M',N τ' M'->u D τ' M'
def PR:HM:=λ_ _ _=>False
theorem lS.nx {K:Ac}{Z:Zt}{U:St}{τ:Gy}{H:Hp}{M:Mp}{D2:JG}{D:NT}(er:ER K Z D2 D)(st:Gx Z U τ)(hr:HR K H M Z)(h:D2.nx τ M):D.nx U H:=er.nx Z U τ H M (Le.refl _) st hr h
theorem qE:Dw X [] Sv:=K3.mono ly λD U H ⟨Z,τ,M,D2,st,hr,h,er⟩=>lS.nx er st hr h
theorem qC (h1:GL X st t)(h2:Dw X C8 u):Dw X (st::C8) (WB t u):=K3.mono (sM h1 h2) (by
 intro D U H;ext1⟨Z,τ,M,D2,st,hr,h,er⟩;exact ⟨Z,τ,M,{ D2 with nx:=u D2 },st,hr,h,⟨λZ1 U1 τ1 H1 M1 l1 s1 h1 q1=>⟨Z1,τ1,M1,D2,s1,h1,q1,er.le l1⟩,er.rt,er.bk,er.ct⟩⟩)
theorem Fa (h1:GL X st t)(h2:Dw X C8 u):Dw X (st::C8) (cI t u):=K3.mono (sM h1 h2) (by
 intro D U H;ext1⟨Z,τ,M,D2,st,hr,⟨N,h,hN⟩,er⟩;exact ⟨Z,τ,M,{ D2 with nx:=N },st,hr,h,⟨λZ1 U1 τ1 H1 M1 l1 s1 h1 q1=>⟨Z1,τ1,M1,D2,s1,h1,hN τ1 M1 q1,er.le l1⟩,er.rt,er.bk,er.ct⟩⟩)
theorem qO (h1:GL X st t):Dw X [st] t:=lz h1
theorem Oq:GL X st PR:=λ_ _ _ _ _ _ ⟨_,_,_,_,_,_,h,_⟩=>h.elim
def Sy (te:DQ):HM:=λD τ M=>te τ M λ_ M1=>D.nx τ M1
theorem EZ (he:BU X e te)(hs:De e none pos.line X.env=pure false:=by rfl):GL X (.Expr e pos) (Sy te):=PS.mono (lx he hs) (by
 intro D U H;ext1⟨Z,τ,M,D2,st,hr,h,er⟩;exact lE.bind st hr h λZ1 x dx H1 M1 l1 h1 a1 q1=>lS.nx (er.le l1) (st.mono l1) h1 q1)
def WE (te:DQ):HM:=λD τ M=>te τ M D.rt
theorem Cr (he:BU X e te):GL X (.Return (some e) pos) (WE te):=PS.mono (fc he) (by
 intro D U H;ext1⟨Z,τ,M,D2,st,hr,h,er⟩;exact ⟨Z,τ,M,D2.rt,st,hr,h,er.rt⟩)
def WI (c:Ks)(t u:HM):HM:=λD τ M=>c τ M λb M1=>if b=true then t D τ M1 else u D τ M1
theorem Ep (hc:Hv X c tc)(ha:Dw X a t)(hb:Dw X b u):GL X (.If c a b pos) (WI tc t u):=PS.mono (yD hc ha hb) (by
 intro D U H;ext1⟨Z,τ,M,D2,st,hr,h,er⟩;refine lT.bind st hr h λZ1 c H1 M1 l1 h1 q1=>?_;cases c with
 |true=>rw[if_pos rfl]at q1 ⊢;exact⟨Z1,τ,M1,D2,st.mono l1,h1,q1,er.le l1⟩
 | false=>rw [if_neg Aj] at q1 ⊢;exact ⟨Z1,τ,M1,D2,st.mono l1,h1,q1,er.le l1⟩)
abbrev Td:=D->Gy->(Gy->Prop)->Prop
def lG (K:Ac)(g:Td):TG:=λv U H Q=>∃Z τ M d Q2,Gx Z U τ/\HR K H M Z/\At Z v d/\g d τ (λτ'=>Q2 τ' M)/\Rj K Z Q2 Q
@[irreducible] def Ku (X:Cx)(tg:B8)(g:Td):Prop:=PG X tg (lG X.K g)
unseal Ku
theorem PG.mono {tg:B8}{t t':TG}(h:PG X tg t)(m:∀v U H Q,t' v U H Q->t v U H Q):PG X tg t':=λAe s U H v u Q I r q=>h Ae s U H v u Q I r (m v U H Q q)
def Kh (i:Nat):Td:=λd τ k=>k (τ.set i (some d))
theorem Qy {i:Nat}{x:Str}(hN:X.N.Nodup)(hi:X.N[i]? = some x)(hx:UK X.env.scope x)(hf:X.fn x=true\/X.env.scope.names.lookup x=some .local:=by first | exact .inl rfl | exact .inr rfl | assumption):Ku X (.Name x pos) (Kh i):=PG.mono (LD hN hi hx hf) (by
 intro v U H Q;ext1⟨Z,τ,M,d,Q2,st,hr,a,h,k⟩;exact k Z _ _ H M (Le.refl _) (st.set a i) hr h)
noncomputable def Gq:Gy->List Nat->List D->Gy
 | τ,i::is,x::xs=>Gq (τ.set i (some x)) is xs
 | τ,_,_=>τ
def Gu:List Nat->VR
 |[]=>XQ
 |i::is=>S1 (I8 i) (Gu is)
theorem tM {K:Ac}(hr:HR K H M Z)(k:Rj K Z Q2 Q):∀is {vs:List V}{ds:List D}{U:St}{τ:Gy},Dm Z vs ds->Gx Z U τ->ds.length=is.length->Q2 (Gq τ is ds) M->Gu is vs U H Q
 |[],vs,ds,U,τ,a,st,hl,q=>by
  have e:=AD hl;subst e;cases a;exact⟨rfl,k Z U τ H M (Le.refl _) st hr (by unfold Gq at q;exact q)⟩
 |i::is,vs,[],U,τ,a,st,hl,q=>by cases hl
 |i::is,vs,d::ds,U,τ,a,st,hl,q=>by
  cases a with
  |cons a1 a2=>exact⟨_,_,rfl,tM hr k is a2 (st.set a1 i) (GP hl) q⟩
def XO (is:List Nat):Td:=λd τ k=>match d with
 |.tup xs=>xs.length=is.length/\k (Gq τ is xs)
 |_=>False
theorem Vz {es:List B8}{k:Nat}{is:List Nat}(hc:X.calm=true)(h:Te X es (Gu is))
  (hn:(CQ es X.env).length=is.length:=by rfl) (hst:(CQ es X.env).findIdx? (·.1)=none:=by rfl):Ku X (.Tuple es k pos) (XO is):=PG.mono (oV hc h hn hst) (by
 intro v U H Q;ext1⟨Z,τ,M,d,Q2,st,hr,a,h,k⟩;cases d with
 |tup xs=>obtain⟨hl,q⟩:=h;obtain⟨p,vs,rfl,hs,a2⟩:=hr.rdT a;exact⟨p,vs,rfl,hs,by rw[a2.length];exact hl,tM hr k is a2 st hl q⟩
 | _=>exact h.elim)
def TH (te:DQ)(g:Td):HM:=λD τ M=>te τ M λx M1=>g x τ λτ'=>D.nx τ' M1
theorem fT {K:Ac} :∀D U H,lS K (TH te g) D U H->Ma (lE K te) (lG K g) D U H:=by
 intro D U H;ext1⟨Z,τ,M,D2,st,hr,h,er⟩;exact lE.bind st hr h λZ1 x dx H1 M1 l1 h1 a1 q1=>⟨Z1,τ,M1,dx,D2.nx,st.mono l1,h1,a1,q1,er.nx.le l1⟩
theorem fq (he:BU X e te)(hg:Ku X tg g)(hs:swapsWithSole [tg] e pos.line X.env=pure false:=by rfl)(hw:swappedStores [tg] e X.env=pure none:=by rfl)
  (h1:(CQ [tg] X.env).map (·.2)=[Lm tg X.env]:=by rfl):GL X (.Assign [tg] e pos) (TH te g):=PS.mono (e7 he hg hs hw h1) fT
def Fd (i:Nat)(te:DQ):HM:=λD τ M=>te τ M λx M1=>D.nx (τ.set i (some x)) M1
theorem fS {K:Ac}{i:Nat}:∀D U H,lS K (Fd i te) D U H->Ma (lE K te) (I8 i) D U H:=by
 intro D U H;ext1⟨Z,τ,M,D2,st,hr,h,er⟩;exact lE.bind st hr h λZ1 x dx H1 M1 l1 h1 a1 q1=>lS.nx (er.le l1) ((st.mono l1).set a1 i) h1 q1
theorem X7 (hN:X.N.Nodup)(hi:X.N[i]? = some x)(hx:UK X.env.scope x)(he:BU X e te)(hs:De e (some (.Name x pos')) pos.line X.env=pure false:=by rfl)(hf:X.fn x=true\/X.env.scope.names.lookup x=some .local:=by first | exact .inl rfl | exact .inr rfl | assumption) :
  GL X (.Assign [.Name x pos'] e pos) (Fd i te):=PS.mono (fe hN hi hx he hs hf) fS
theorem CA (i)(hN:X.N.Nodup)(he:BU X e te)(hi:X.N[i]? = some x:=by rfl)(hx:UK X.env.scope x:=by exact Cd rfl)(hs:De e (some (.Name x pos')) pos.line X.env=pure false:=by rfl)(hf:X.fn x=true\/X.env.scope.names.lookup x=some .local:=by first | exact .inl rfl | exact .inr rfl | assumption) :
  GL X (.Assign [.Name x pos'] e pos) (Fd i te):=X7 hN hi hx he hs hf
def WJ (te:DQ):DQ:=λτ M Q=>te τ M λd M1=>JF d λp=>match M1 p with
 |some (.lst ds)=>Q (.lst ds) (JU M1 p)
 |some (.dic ds)=>Q (.dic ds) (JU M1 p)
 |some (.dct ds)=>Q (.dct ds) (JU M1 p)
 |_=>False
theorem KW (h:BU X e te):BU X e (WJ te):=PE.mono h (by
 intro U H Q;ext1⟨Z,τ,M,Q2,st,hr,h,k⟩;refine lE.bind st hr h λZ1 x dx H1 M1 l1 h1 a1 q1=>?_;obtain⟨p,rfl,q⟩:=Ia q1;cases(show x=V.ref p from a1);split at q
 .next e=>exact k _ (.ref p) (.lst _) H1 _ (l1.trans Le.ext) (h1.frzL e) iD q
 .next e=>exact k _ (.ref p) (.dic _) H1 _ (l1.trans Le.ext) (h1.frzD e) qD q
 .next e=>exact k _ (.ref p) (.dct _) H1 _ (l1.trans Le.ext) (h1.frzDT e) re q
 .exact q.elim)
def TD (c:Ks)(tb:HM):HM:=λD τ M=>∃Pv:Nat->Gy->Mp->Prop,(∃m,Pv m τ M)/\∀m τ M,Pv m τ M ->
 c τ M λb M1=>if b=true then tb {D with nx:=λτ' M'=>∃m',m' < m/\Pv m' τ' M',ct:=λτ' M'=>∃m',m' < m/\Pv m' τ' M',bk:=D.nx} τ M1 else D.nx τ M1
theorem R9 {c:B8}{body:List DE}{tc:Ks}{tb:HM}(hp:Pc (Az X.prog X.w) X.A X.env X.xe)(hc:Hv X c tc)(hb:Dw X body tb):GL X (.While c body [] pos) (TD tc tb):=PS.mono (qu hp hc hb) (by
 intro D U H;ext1⟨Z,τ,M,D2,st,hr,⟨Pv,⟨m0,p0⟩,turn⟩,er⟩;refine⟨λm U H=>∃Z1 τ1 M1,Le Z Z1/\Gx Z1 U τ1/\HR X.K H M1 Z1/\Pv m τ1 M1,⟨m0,Z,τ,M,Le.refl _,st,hr,p0⟩,?_⟩;intro m U1 H1;ext1⟨Z1,τ1,M1,l1,s1,h1,p1⟩;refine lT.bind s1 h1 (turn m τ1 M1 p1) λZ2 c H2 M2 l2 h2 q2=>?_;cases c with
 |false=>rw[if_neg Aj]at q2 ⊢;exact lS.nx (er.le (l1.trans l2)) (s1.mono l2) h2 q2
 | true=>rw [if_pos rfl] at q2 ⊢;refine ⟨_,λU' H' n=>n,Z2,τ1,M2,_,s1.mono l2,h2,q2,?_⟩;have k:Rj X.K Z2 (λτ' M'=>∃ m',m' < m/\Pv m' τ' M') λU' H'=>∃ m',m' < m/\∃ Z1 τ1 M1,Le Z Z1/\Gx Z1 U' τ1/\HR X.K H' M1 Z1/\Pv m' τ1 M1:=λZ3 U3 τ3 H3 M3 l3 s3 h3 ⟨m',lt,p'⟩=>⟨m',lt,Z3,τ3,M3,l1.trans (l2.trans l3),s3,h3,p'⟩;exact ⟨k,er.rt.le (l1.trans l2),er.nx.le (l1.trans l2),k⟩)
def YJ (K:Ac)(J:It)(xs:List D)(S:Mp->Prop)(Z:Zt):Prop:=∀i H M Z',Le Z Z'->HR K H M Z'->S M ->
 (∀d,xs[i]? = some d->J.go i H/\∀x H',J.yld i H x H'->∃Z2,Le Z' Z2/\HR K H' M Z2/\At Z2 x d)/\(xs.length<=i->J.stop i H)
abbrev MN:=Gy->Mp->(List D->(Mp->Prop)->Mp->Prop)->Prop
def lI (K:Ac)(t:MN):TI:=λU H R=>∃Z τ M R2,Gx Z U τ/\HR K H M Z/\t τ M R2/\∀Z' J xs S H' M',Le Z Z'->HR K H' M' Z'->YJ K J xs S Z'->R2 xs S M'->R J H'
@[irreducible] def Hq (X:Cx)(tg iter:B8)(t:MN):Prop:=PI X tg iter (lI X.K t)
unseal Hq
theorem PI.mono {t t':TI}(h:PI X tg iter t)(m:∀U H R,t' U H R->t U H R):PI X tg iter t':=λAe s U H R I q=>h Ae s U H R I (m U H R q)
def Sr (te:DQ):MN:=λτ M R=>te τ M λx M1=>Cw (Bi M1 x) λxs=>R xs (λM=>Bi M x=some xs) M1
def Wx (te:DQ):MN:=λτ M R=>te τ M λx M1=>match x with
 |.tup xs=>R xs (λ_=>True) M1
 |_=>False
theorem Kr {tg l:B8}(hl:BU X l tl):Hq X tg l (Sr tl):=PI.mono (lh hl) (by
 intro U H R;ext1⟨Z,τ,M,R2,st,hr,h,k⟩;refine lE.bind st hr h λZ1 v d H1 M1 l1 h1 a1 q1=>?_;obtain ⟨xs,e,q⟩:=Cj q1;obtain ⟨p,vs,rfl,hs,a2⟩:=h1.rdL e a1;refine ⟨p,rfl,⟨vs,hs⟩,k Z1 _ xs _ H1 M1 l1 h1 (λi H M Z' l hr s=>?_) q⟩;obtain ⟨p',ws,e2,hs2,a3⟩:=hr.rdL s (a1.mono l);cases e2;refine ⟨λd hd=>?_,λhi=>⟨ws,hs2,by rw [a3.length];exact hi⟩⟩;obtain ⟨v,hv,av⟩:=a3.get hd;refine ⟨⟨ws,v,hs2,hv⟩,λx H' y=>?_⟩;obtain ⟨rfl,y⟩:=y;have:=y ws hs2;rw [hv] at this;cases this;exact ⟨Z',Le.refl _,hr,av⟩)
theorem Rf {tg l:B8}(hl:BU X l tl):Hq X tg l (Wx tl):=PI.mono (dr hl) (by
 intro U H R;ext1⟨Z,τ,M,R2,st,hr,h,k⟩;refine lE.bind st hr h λZ1 v d H1 M1 l1 h1 a1 q1=>?_;cases d with
 |tup xs=>obtain⟨p,vs,rfl,hs,a2⟩:=h1.rdT a1;refine⟨p,rfl,⟨vs,hs⟩,k Z1 _ xs _ H1 M1 l1 h1 (λi H M Z' l hr s=>?_) q1⟩;obtain⟨p',ws,e2,hs2,a3⟩:=hr.rdT (a1.mono l);cases e2;refine⟨λd hd=>?_,λhi=>⟨ws,hs2,by rw[a3.length];exact hi⟩⟩;obtain⟨v,hv,av⟩:=a3.get hd;refine⟨⟨ws,v,hs2,hv⟩,λx H' y=>?_⟩;obtain⟨rfl,y⟩:=y;have:=y ws hs2;rw[hv]at this;cases this;exact⟨Z',Le.refl _,hr,av⟩
 | _=>exact q1.elim)
noncomputable def Ny (lo:Int)(n:Nat):List D:=(Bk n).map λk=>.int (lo+(k:Nat))
theorem Yh {lo:Int}(h:(Ny lo n)[i]? = some d):i<n/\d=.int (lo+(i:Nat)):=by
 unfold Ny at h;rw[AJ]at h;by_cases hi:i<n
 .rw[EC hi]at h;exact⟨hi,(A8 h).symm⟩
 .rw[Eu.mpr (by rw[BX];ext)]at h;cases h
theorem VF (lo:Int)(n:Nat):(Ny lo n).length=n:=by unfold Ny;rw[Ab,BX]
theorem uu {K:Ac}(lo:Int)(n:Nat):YJ K (bM lo n) (Ny lo n) (λ_=>True) Z:=λi H M Z' l hr s=>by
 refine⟨λd hd=>?_,λhi=>by rw[VF]at hi;exact hi⟩;obtain⟨hi,rfl⟩:=Yh hd;refine⟨hi,λx H' y=>?_⟩;obtain⟨rfl,rfl⟩:=y;exact⟨Z',Le.refl _,hr,rfl⟩
def Sq (t:JV):MN:=λτ M R=>t τ M λxs M1=>Ga xs λx=>EQ x λj=>(-(2^62)<=j/\j<2^62)/\R (Ny 0 j.toNat) (λ_=>True) M1
theorem aH {tg a:B8}{ta:JV}{p pos:Pos}(hm:X.mg "range" = none)(ha:Gj X [a] ta)(hg:Gl X "range":=by rfl)(hs:Au [a] X.env=[(false,eval a X.env)]:=by rfl) :
  Hq X tg (.Call (.Name "range" p) [a] [] pos) (Sq ta):=PI.mono (vw hg hm ha hs) (by
 intro U H R;ext1⟨Z,τ,M,R2,st,hr,h,k⟩;refine ⟨Z,τ,M,_,st,hr,h,λZ1 vs ds H1 M1 l1 h1 a1 q1=>?_⟩;obtain ⟨x,rfl,q⟩:=G4 q1;obtain ⟨j,rfl,⟨b1,b2⟩,q⟩:=CU q;obtain ⟨v,rfl,a2⟩:=Ic a1;cases (show v=V.int j from a2);exact ⟨j,rfl,b1,b2,k Z1 _ _ _ H1 M1 l1 h1 (uu _ _) q⟩)
def UJ (xs:List D)(S:Mp->Prop)(g:Td)(tb:HM)(D:JG)(τ:Gy)(M:Mp):Prop:=∃Pv:Nat->Gy->Mp->Prop,Pv 0 τ M/\(∀k τ M,Pv k τ M->S M) /\
 (∀k x τ M,xs[k]? = some x->Pv k τ M->g x τ λτ'=>tb {D with nx:=Pv (k+1),ct:=Pv (k+1),bk:=D.nx} τ' M)/\∀τ M,Pv xs.length τ M->D.nx τ M
def WK (ti:MN)(g:Td)(tb:HM):HM:=λD τ M=>ti τ M λxs S M1=>UJ xs S g tb D τ M1
theorem MM {tg iter:B8}{body:List DE}{wi:MN}{g:Td}{tb:HM}(hp:Pc (Az X.prog X.w) X.A X.env X.xe)(hc:X.calm=true)(hi:Hq X tg iter wi)(hg:Ku X tg g)(hb:Dw X body tb)
  (hs:∀ x,Ba iter X.env x=pure x:=by intro _;rfl):GL X (.For tg iter body [] pos) (WK wi g tb):=PS.mono (fb hp hc hi hg hb hs) (by
 intro D U H;ext1⟨Z,τ,M,D2,st,hr,h,er⟩;refine⟨Z,τ,M,_,st,hr,h,λZ1 J xs S H1 M1 l1 h1 jk ⟨Pv,p0,stay,turn,done⟩=>?_⟩;refine⟨λi m U H=>m=xs.length-i/\i<=xs.length/\∃Z2 τ2 M2,Le Z1 Z2/\Gx Z2 U τ2/\HR X.K H M2 Z2/\Pv i τ2 M2,⟨xs.length,by simp,DO _,Z1,τ,M1,Le.refl _,st.mono l1,h1,p0⟩,?_⟩;intro i m U2 H2;ext1⟨e1',hi,Z2,τ2,M2,l2,s2,h2,p2⟩;obtain⟨go,stop⟩:=jk i H2 M2 Z2 l2 h2 (stay i τ2 M2 p2);by_cases hlt:i<xs.length
 .obtain⟨g1,g2⟩:=go _ (Af hlt);refine .inr ⟨g1,λU' H'=>∃Z3 τ3 M3,Le Z1 Z3/\Gx Z3 U' τ3/\HR X.K H' M3 Z3/\Pv (i+1) τ3 M3,λU' H' n=>⟨xs.length-(i+1),by ext,rfl,hlt,n⟩,λx H' y=>?_⟩;obtain⟨Z5,l5,h5,a⟩:=g2 x H' y;have tk:=turn i _ τ2 M2 (Af hlt) p2;have l2:=l2.trans l5;refine⟨Z5,τ2,M2,_,λτ' M'=>tb {D2 with nx:=Pv (i+1),ct:=Pv (i+1),bk:=D2.nx} τ' M',s2.mono l5,h5,a,tk,λZ3 U3 τ3 H3 M3 l3 s3 h3 q3=>?_⟩;have k:Rj X.K Z3 (Pv (i+1)) λU' H'=>∃Z3 τ3 M3,Le Z1 Z3/\Gx Z3 U' τ3/\HR X.K H' M3 Z3/\Pv (i+1) τ3 M3:=λZ4 U4 τ4 H4 M4 l4 s4 h4 q4=>⟨Z4,τ4,M4,l2.trans (l3.trans l4),s4,h4,q4⟩;have er3:=er.le (l1.trans (l2.trans l3));exact⟨Z3,τ3,M3,_,s3,h3,q3,⟨k,er3.rt,er3.nx,k⟩⟩
 .have e:i=xs.length:=by ext
  subst e;exact .inl ⟨stop (AH _),lS.nx (er.le (l1.trans l2)) s2 h2 (done τ2 M2 p2)⟩)
end
end L3
namespace L3
open PySem PySem.Spec PyProof.Rows L2
unseal BU Hv Jf Gj JW GL Dw Cf FR BP Fz Gc Ku Hq
section
variable {X:Cx}{e:B8}{te:DQ}
noncomputable def LB (τ:Gy)(caps:List (Str×Nat))(v:Option D):Gy:=v::caps.map λc=>(τ[c.2]?).join
theorem Gx.join (h:Gx Z U τ)(i:Nat):OA Z (U[i]?).join (τ[i]?).join:=by
 cases e:(τ[i]?).join with
 |none=>cases(U[i]?).join<;>exact Dr
 |some d=>obtain⟨v,h1,h2⟩:=h.get (EL.mp e);rw[h1];exact h2
theorem Gx.cap (h:Gx Z U τ)(caps:List (Str×Nat))(a:At Z x d):Gx Z (Mn U caps (some x)) (LB τ caps (some d)):=by
 refine .cons a ?_;induction caps with
 |nil=>exact .nil
 |cons c r ih=>exact .cons (h.join c.2) ih
def Ha:Ks:=λ_ M Q=>Q true M
def Eg (xs:List D)(S:Mp->Prop)(caps:List (Str×Nat))(tt:Ks)(te:DQ)(τ:Gy)(M:Mp)(Q:List D->Mp->Prop):Prop:=xs.length<=Am/\∃W:Nat->List D->Mp->Prop,W 0 [] M/\(∀i ys M,W i ys M->S M/\ys.length<=i) /\
 (∀i x ys M,xs[i]? = some x->W i ys M->tt (LB τ caps (some x)) M λb M2=>if b=true then te (LB τ caps (some x)) M2 λy M3=>W (i+1) (ys++[y]) M3 else W (i+1) ys M2)/\∀ys M,W xs.length ys M->Q ys M
def FN (wi:MN)(caps:List (Str×Nat))(tt:Ks)(te:DQ):DQ:=λτ M Q=>wi τ M λxs S M1=>Eg xs S caps tt te τ M1 λys M2=>Q (.lst ys) M2
def Oi (wi:MN)(caps:List (Str×Nat))(tt:Ks)(te:DQ):DQ:=λτ M Q=>wi τ M λxs S M1=>Eg xs S caps tt te τ M1 λys M2=>∀p,M2 p=none->Q (.ref p) (put M2 p (.lst ys))
theorem Yx {K:Ac}(st:Gx Z U τ)(hr:HR K H M Z)(h:wi τ M λxs S M1=>Eg xs S caps tt te τ M1 QL)
  (ht:∀U H Q,lT K tt U H Q->tt1 U H Q)
  (k:∀Z1 H1 M1 vs ds,Le Z Z1->HR K H1 M1 Z1->Dm Z1 vs ds->QL ds M1->∀p,H1 p=none->Q (.ref p) (Cv H1 p (.lst vs))):Ih (lI K wi) caps tt1 (lE K te) U H Q:=by
 refine⟨Z,τ,M,_,st,hr,h,λZ1 J xs S H1 M1 l1 h1 jk ⟨hz,W,w0,stay,turn,done⟩=>?_⟩;refine⟨xs.length,λi vs H=>i<=xs.length/\∃Z2 M2 ds,Le Z1 Z2/\HR K H M2 Z2/\Dm Z2 vs ds/\W i ds M2,⟨DO _,Z1,M1,[],Le.refl _,h1,.nil,w0⟩,?_⟩;intro i vs H2;ext1⟨hi,Z2,M2,ds,l2,h2,a2,w2⟩;obtain⟨s2,hl⟩:=stay i ds M2 w2;obtain⟨go,stop⟩:=jk i H2 M2 Z2 l2 h2 s2;have la:=a2.length;by_cases hlt:i<xs.length
 .obtain⟨g1,g2⟩:=go _ (Af hlt);refine .inr ⟨g1,hlt,by ext,λx H' y=>?_⟩;obtain⟨Z5,l5,h5,a⟩:=g2 x H' y;have tk:=turn i _ ds M2 (Af hlt) w2;have l2:=l2.trans l5;have a2:=a2.mono l5;refine ht _ _ _ (lT.bind ((st.mono (l1.trans l2)).cap caps a) h5 tk λZ3 b H3 M3 l3 h3 q3=>?_);cases b with
  |false=>rw[if_neg Aj]at q3 ⊢;exact⟨hlt,Z3,M3,ds,l2.trans l3,h3,a2.mono l3,q3⟩
  |true=>rw[if_pos rfl]at q3 ⊢;refine lE.bind (((st.mono (l1.trans l2)).cap caps a).mono l3) h3 q3 λZ4 z dz H4 M4 l4 h4 a4 q4=>?_;exact⟨hlt,Z4,M4,ds++[dz],l2.trans (l3.trans l4),h4,(a2.mono (l3.trans l4)).append (.cons a4 .nil),q4⟩
 .have e:i=xs.length:=by ext
  subst e;exact .inl ⟨stop (AH _),by ext,k Z2 H2 M2 vs ds (l1.trans l2) h2 a2 (done ds M2 w2)⟩
theorem Ld {K:Ac}:∀U H Q,lT K Ha U H Q->SJ U H Q:=λU H Q ⟨Z,τ,M,Q2,st,hr,h,k⟩=>k Z true H M (Le.refl _) hr h
theorem Ly {K:Ac}(ht:∀U H Q,lT K tt U H Q->tt1 U H Q):∀U H Q,lE K (FN wi caps tt te) U H Q->Ih (lI K wi) caps tt1 (lE K te) U H Q:=by
 intro U H Q;ext1⟨Z,τ,M,Q2,st,hr,h,k⟩;exact Yx st hr h ht λZ1 H1 M1 vs ds l1 h1 a1 q p hp=>(k.le l1).f h1 hp a1 q
theorem SY {K:Ac}(ht:∀U H Q,lT K tt U H Q->tt1 U H Q):∀U H Q,lE K (Oi wi caps tt te) U H Q->Ih (lI K wi) caps tt1 (lE K te) U H Q:=by
 intro U H Q;ext1⟨Z,τ,M,Q2,st,hr,h,k⟩;exact Yx st hr h ht λZ1 H1 M1 vs ds l1 h1 a1 q p hp=>(k.le l1).l h1 hp a1 q
variable {scope:KO}{x:Str}{px:Pos}{caps:List (Str×Nat)}{elt iter:B8}  {wi:MN}
theorem FP (B:Dx X scope x caps)(hc:X.calm=true)(hi:Hq X (.Name x px) iter wi)(he:∀cl C fp pn s H,BU (FZ X scope cl C (x::caps.map (·.1)) fp pn s H) elt te)
  (hs:∀x,Ba iter X.env x=pure x:=by intro _;rfl):BU X (.ListComp elt [⟨.Name x px,iter,[],0⟩] scope pos) (FN wi caps Ha te):=PE.mono (ZS (te:=lE X.K te) B hc hi he (λ_ _ _ _ _ _=>GN.nil) hs) (Ly Ld)
theorem Xq (B:Dx X scope x caps)(hc:X.calm=true)(hi:Hq X (.Name x px) iter wi)(he:∀cl C fp pn s H,BU (FZ X scope cl C (x::caps.map (·.1)) fp pn s H) elt te)
  (hs:∀x,Ba iter X.env x=pure x:=by intro _;rfl):BU X (.ListComp elt [⟨.Name x px,iter,[],0⟩] scope pos) (Oi wi caps Ha te):=PE.mono (ZS (te:=lE X.K te) B hc hi he (λ_ _ _ _ _ _=>GN.nil) hs) (SY Ld)
theorem HK (B:Dx X scope x caps)(hc:X.calm=true)(hi:Hq X (.Name x px) iter wi)(he:∀cl C fp pn s H,BU (FZ X scope cl C (x::caps.map (·.1)) fp pn s H) elt te)(hif:∀cl C fp pn s H,Hv (FZ X scope cl C (x::caps.map (·.1)) fp pn s H) c tt)
  (hs:∀x,Ba iter X.env x=pure x:=by intro _;rfl):BU X (.ListComp elt [⟨.Name x px,iter,[c],0⟩] scope pos) (FN wi caps tt te):=PE.mono (ZS (te:=lE X.K te) (tt:=lT X.K tt) B hc hi he (λcl C fp pn s H=>GN.one (hif cl C fp pn s H)) hs) (Ly λ_ _ _ h=>h)
section
variable {i:Nat}{y:Str}
theorem Qi {K:Ac}(m:∀U H Q,lE K t2 U H Q->t1 U H Q):∀D U H,lS K (Fd i t2) D U H->Ma t1 (I8 i) D U H:=by
 intro D U H;ext1⟨Z,τ,M,D2,st,hr,h,er⟩;exact m _ _ _ (lE.bind st hr h λZ1 x dx H1 M1 l1 h1 a1 q1=>lS.nx (er.le l1) ((st.mono l1).set a1 i) h1 q1)
variable (hN:X.N.Nodup)(hi0:X.N[i]? = some y)(hy:X.env.scope.names.lookup y=some .local)(B:Dx X scope x caps)(hc:X.calm=true)(hi:Hq X (.Name x px) iter wi)(he:∀cl C fp pn s H,BU (FZ X scope cl C (x::caps.map (·.1)) fp pn s H) elt te)
theorem sO (hN:X.N.Nodup)(hi0:X.N[i]? = some y)(hy:X.env.scope.names.lookup y=some .local)(B:Dx X scope x caps)(hc:X.calm=true)(hi:Hq X (.Name x px) iter wi)(he:∀cl C fp pn s H,BU (FZ X scope cl C (x::caps.map (·.1)) fp pn s H) elt te)
  (hsw:De (.ListComp elt [⟨.Name x px,iter,[],0⟩] scope pos) (some (.Name y py)) spos.line X.env=pure true:=by rfl) (hs:∀x,Ba iter X.env x=pure x:=by intro _;rfl) :
  GL X (.Assign [.Name y py] (.ListComp elt [⟨.Name x px,iter,[],0⟩] scope pos) spos) (Fd i (FN wi caps Ha te)):=PS.mono (ZU (te:=lE X.K te) hN hi0 hy B hc hi he (λ_ _ _ _ _ _=>GN.nil) hsw hs) (Qi (Ly Ld))
theorem mf (hN:X.N.Nodup)(hi0:X.N[i]? = some y)(hy:X.env.scope.names.lookup y=some .local)(B:Dx X scope x caps)(hc:X.calm=true)(hi:Hq X (.Name x px) iter wi)(he:∀cl C fp pn s H,BU (FZ X scope cl C (x::caps.map (·.1)) fp pn s H) elt te)
  (hsw:De (.ListComp elt [⟨.Name x px,iter,[],0⟩] scope pos) (some (.Name y py)) spos.line X.env=pure true:=by rfl) (hs:∀x,Ba iter X.env x=pure x:=by intro _;rfl) :
  GL X (.Assign [.Name y py] (.ListComp elt [⟨.Name x px,iter,[],0⟩] scope pos) spos) (Fd i (Oi wi caps Ha te)):=PS.mono (ZU (te:=lE X.K te) hN hi0 hy B hc hi he (λ_ _ _ _ _ _=>GN.nil) hsw hs) (Qi (SY Ld))
theorem tV (hN:X.N.Nodup)(hi0:X.N[i]? = some y)(hy:X.env.scope.names.lookup y=some .local)(B:Dx X scope x caps)(hc:X.calm=true)(hi:Hq X (.Name x px) iter wi)(he:∀cl C fp pn s H,BU (FZ X scope cl C (x::caps.map (·.1)) fp pn s H) elt te)(hif:∀cl C fp pn s H,Hv (FZ X scope cl C (x::caps.map (·.1)) fp pn s H) c tt)
  (hsw:De (.ListComp elt [⟨.Name x px,iter,[c],0⟩] scope pos) (some (.Name y py)) spos.line X.env=pure true:=by rfl) (hs:∀x,Ba iter X.env x=pure x:=by intro _;rfl) :
  GL X (.Assign [.Name y py] (.ListComp elt [⟨.Name x px,iter,[c],0⟩] scope pos) spos) (Fd i (FN wi caps tt te)):=PS.mono (ZU (te:=lE X.K te) (tt:=lT X.K tt) hN hi0 hy B hc hi he (λcl C fp pn s H=>GN.one (hif cl C fp pn s H)) hsw hs) (Qi (Ly λ_ _ _ h=>h))
end
def lM (K:Ac)(r:D->List D->Mp->Ef->Prop):V->List V->Hp->VK->Prop:=λx xs H Q=>∃Z d ds M Q2,HR K H M Z/\At Z x d/\Dm Z xs ds/\r d ds M Q2/\Hu K Z Q2 Q
@[irreducible] def EF (X:Cx)(id:String)(r:D->List D->Mp->Ef->Prop):Prop:=MP X id (lM X.K r)
unseal EF
theorem MP.mono {id:String}{r r':V->List V->Hp->VK->Prop}(h:MP X id r)(m:∀x xs H Q,r' x xs H Q->r x xs H Q):MP X id r':=λAe s U H x xs v us Q I rx r q=>h Ae s U H x xs v us Q I rx r (m x xs H Q q)
def lV (T:String)(r:D->List D->Mp->Ef->Prop)(to:DQ)(t:JV):DQ:=λτ M Q=>to τ M λx M1=>QW M1 x=some T/\t τ M1 λxs M2=>r x xs M2 Q
def WM (T:String)(r:D->List D->Mp->Ef->Prop)(to:DQ):DQ:=λτ M Q=>to τ M λx M1=>QW M1 x=some T/\r x [] M1 Q
theorem rJ {K:Ac}{H:Hp}{M:Mp}{Z:Zt}{T:String}{v:V}{d:D}(hr:HR K H M Z)(a:At Z v d)(h:QW M d=some T)(hT:T = "list"\/T = "int"\/T = "str"):Zn K T v H:=by
 cases d with
 |int i=>cases h;cases(show v=V.int i from a);rfl
 |str i=>cases h;cases(show v=V.str i from a);rfl
 |lst ds=>cases h;obtain⟨p,vs,rfl,hs,_⟩:=hr.rdF a;exact .inl ⟨rfl,vs,hs⟩
 |dic ds=>cases h;rcases hT with h | h | h<;>exact absurd h (by decide)
 |dct ds=>cases h;rcases hT with h | h | h<;>exact absurd h (by decide)
 |ref p=>
  cases(show v=.ref p from a);cases q:M p with
  |none=>rw[Zo q]at h;cases h
  |some o=>
   rw[Zo q]at h;cases o with
   |lst l=>cases h;obtain⟨vs,r,_⟩:=hr.rdM q;exact .inl ⟨rfl,vs,F0.of r⟩
   |dic l=>cases h;rcases hT with h | h | h<;>exact absurd h (by decide)
   |dct l=>cases h;rcases hT with h | h | h<;>exact absurd h (by decide)
   |obj C f=>cases h
 |non=>cases h;rcases hT with h | h | h<;>exact absurd h (by decide)
 |bl _=>cases h;rcases hT with h | h | h<;>exact absurd h (by decide)
 |tup _=>cases h;rcases hT with h | h | h<;>exact absurd h (by decide)
 |ty _=>cases h
theorem Kc {T id:String}(pa:Nf T)(slot:cD T name id)(hty:Tj (.builtin id)=pure (.type "method_descriptor"))(hm:EF X id r)(ho:BU X o to)(ha:Gj X (e::es) t)
  (hT:T = "list"\/T = "int"\/T = "str":=by decide)
  (hbase:CD o name X.env (eval o X.env)=eval o X.env:=by rfl)
  (hfew:((Cb cpos (Au (e::es) X.env)).all (λx=>!x.1) && (Fo cpos (DC [] X.env)).all (λx=>x.1.isSome)
   && decide ((e::es).length+([]:List E2).length+(if ([]:List E2).isEmpty then 0 else 1)<30))=true:=by rfl)
  (hline:(apos.endLine == cpos.line)=true:=by rfl) (hs:Au (e::es) X.env=(false,eval e X.env)::Au es X.env:=by rfl) (hplain:(Cb cpos (Au es X.env)).any (·.1)=false:=by rfl) :
  BU X (.Call (.Attribute o name apos) (e::es) [] cpos) (lV T r to t):=PE.mono (nF pa slot hty hm ho ha hbase hfew hline hs hplain) (by
 intro U H Q;ext1⟨Z,τ,M,Q2,st,hr,h,k⟩;refine lE.bind st hr h λZ1 x dx H1 M1 l1 h1 a1 q1=>⟨rJ h1 a1 q1.1 hT,Z1,τ,M1,_,st.mono l1,h1,q1.2,λZ2 vs ds H2 M2 l2 h2 a2 q2=>?_⟩;exact ⟨Z2,dx,ds,M2,Q2,h2,a1.mono l2,a2,q2,k.le (l1.trans l2)⟩)
theorem TY {T id:String}(pa:Nf T)(slot:cD T name id)(hty:Tj (.builtin id)=pure (.type "method_descriptor"))(hm:EF X id r)(ho:BU X o to)
  (hT:T = "list"\/T = "int"\/T = "str":=by decide)
  (hbase:CD o name X.env (eval o X.env)=eval o X.env:=by rfl) (hline:(apos.endLine == cpos.line)=true:=by rfl) :
  BU X (.Call (.Attribute o name apos) [] [] cpos) (WM T r to):=PE.mono (c9 pa slot hty hm ho hbase hline) (by
 intro U H Q;ext1⟨Z,τ,M,Q2,st,hr,h,k⟩;refine lE.bind st hr h λZ1 x dx H1 M1 l1 h1 a1 q1=>⟨rJ h1 a1 q1.1 hT,Z1,dx,[],M1,Q2,h1,a1,.nil,q1.2,k.le l1⟩)
def HJ:D->List D->Mp->Ef->Prop:=λx xs M Q=>JF x λp=>Ga xs λy=>match M p with
 |some (.lst ys)=>ys.length<Am/\Q .non (put M p (.lst (ys++[y])))
 |_=>False
theorem QB:EF X "list.append" HJ:=MP.mono vm (by
 intro x xs H Q;ext1⟨Z,d,ds,M,Q2,hr,a,as,h,k⟩;obtain⟨p,rfl,h1⟩:=Ia h;obtain⟨y,rfl,h2⟩:=G4 h1;cases(show x=V.ref p from a);obtain⟨v,rfl,av⟩:=Ic as;split at h2
 .next ys e=>
  obtain⟨hl,q⟩:=h2;obtain⟨vs,r,a2⟩:=hr.rdM e;refine⟨p,vs,v,rfl,rfl,r,by rw[a2.length];exact hl,?_⟩;exact k Z .non .non _ _ (Le.refl _) (hr.chgL e (a2.append (.cons av .nil))) rfl q
 .exact h2.elim)
theorem fw:EF X "int.bit_length" (λx xs M Q=>EQ x λi=>xs=[]/\Q (.int (D6 i)) M):=MP.mono nj (by
 intro x xs H Q;ext1⟨Z,d,ds,M,Q2,hr,a,as,h,k⟩;obtain ⟨i,rfl,rfl,q⟩:=CU h;cases as;exact ⟨i,a,rfl,k.i hr q⟩)
def W1 (h:Av)(D:List (Str×Int)):K2:=λx y M Q=>JF x λa=>a=h/\Gr y λk=>Cw (D.lookup k) λv=>Q (.int v) M
theorem oF {D:List (Str×Int)}(T:TabOk X.K X.w h D):Fz X (W1 h D):=OX.mono cu (by
 intro x y H Q;ext1⟨Z,dx,dy,M,Q2,hr,ax,ay,q,k⟩;obtain ⟨a,rfl,rfl,q1⟩:=Ia q;obtain ⟨k',rfl,q2⟩:=D8 q1;obtain ⟨v,l,q3⟩:=Cj q2;exact ⟨a,D,k',v,ax,ay,T,l,k.i hr q3⟩)
def Dn (Q:Ef):Ef:=λd M=>∃M0,Sub M0 M/\Q d M0
theorem Dn.of (h:Q d M):Dn Q d M:=⟨M,Sub.refl _,h⟩
noncomputable def Jo (N:List Str)(ds:List D):Gy:=ds.map some++Ay (N.length-ds.length) none
noncomputable def En:List Str->List D->Gy
 |[],_=>[]
 |_::N,[]=>none::En N []
 |_::N,d::ds=>some d::En N ds
theorem jP:∀{N:List Str}{ds:List D},ds.length<=N.length->En N ds=Jo N ds
 |[],[],_=>rfl
 |[],d::ds,h=>by simp at h
 |n::N,[],_=>by
  unfold En;rw[jP (DO _)];simp[Jo,CY]
 |n::N,d::ds,h=>by
  unfold En;rw[jP (by simpa using h)];simp[Jo]
theorem vh (a:Dm Z vs ds):Gx Z (L2.start N vs) (Jo N ds):=by
 unfold L2.start Jo;rw[a.length]
 have tail:∀n,Gx Z (Ay n none) (Ay n none):=λn=>by
  induction n with
  |zero=>exact .nil
  |succ n ih=>exact .cons Dr ih
 generalize N.length-ds.length=n;induction a with
 |nil=>exact tail n
 |cons r _ ih=>exact .cons r ih
end
section
variable   {K:Ac}
theorem Cz.ok2 {st:DE}(F:Cz K x qual st f fd)(S:Fb N ps (IJ st))(len:∀ds M Q,sp ds M Q->ds.length=ps.length)
  (hbody:∀ cdv A outer s H E ds M Q,Dv k (A.deeper (FG qual (IJ st) s.heap.objs.size f cdv))->sp ds M Q ->
   ∃ t,Dw (JQ CX0 P w K mg base N qual (IJ st) f cdv A outer s H E).nox (NM st) t/\t { nx:=λ_ M'=>Dn Q .non M',rt:=Dn Q } (En N ds) M):FnOk P w K mg base CX0 (k+1) f fd ps (lSp K sp):=by
 refine F.ok S (λvs H Q E h=>?_) λcdv A outer s H vs Q E hr h=>?_
 .obtain⟨Z,ds,M,Q2,_,a,h,_⟩:_:=h;rw[a.length];exact len ds M Q2 h
 .obtain⟨Z,ds,M,Q2,hR,a,h,k'⟩:_:=h;obtain⟨t,ht,q⟩:=hbody cdv A outer s H E ds M Q2 hr h;have hpl:ps.length<=N.length:=by have:=congrArg Ej S.pre;rw[A6]at this;ext
  rw[jP (by rw[len ds M Q2 h];exact hpl)]at q;refine⟨_,ht,Z,Jo N ds,M,_,vh a,hR,q,?_⟩;refine⟨λZ1 U τ H1 M1 l1 s1 h1 q1=>?_,k'.dn,λ_ _ _ _ _ _ _ _ q=>q.elim,λ_ _ _ _ _ _ _ _ q=>q.elim⟩;exact(k'.dn.le l1).n h1 q1
def spLaw2:Du:=λds M Q=>∃ns:List Int,ds=[.lst (ns.map D.int)]/\ns.length<=63/\∀M',Q (.bl true) M'
theorem rK (Z)(ns:List Int):Dm Z (ns.map V.int) (ns.map D.int):=by
 induction ns with
 |nil=>exact .nil
 |cons n r ih=>exact .cons rfl ih
theorem fu {ns:List Int}(hl:ns.length<=63)(hS:F0 K H a (ns.map V.int)):lSp K spLaw2 [.ref a] H (λv _=>v=.bl true) E:=by
 refine⟨λb d=>b=a/\d=.lst (ns.map D.int),[.lst (ns.map D.int)],λ_=>none,λd _=>d=.bl true,⟨λp d z=>?_,λp o e=>nomatch e⟩,.cons ⟨a,rfl,rfl,rfl⟩ .nil,⟨ns,rfl,hl,λ_=>rfl⟩,λZ' v d H' M' _ _ at' q=>?_⟩
 .obtain⟨rfl,rfl⟩:=z;rcases hS with r|r
  .exact .inl ⟨_,r,rK _ ns⟩
  .exact .inr ⟨_,r,rK _ ns⟩
 .subst q;exact at'
theorem walk2 {l:Pb}{K:J0->Ac}(hn:l.most=some 63)(hdf:d.params.defaults=[])(hr:Dv k Jx)
  (hY:∀w h,YP w h->(K w.params).In h)
  (F:∀ w mg fa h,(K w.params).In h->h.Ns BS mg->mg d.name=some (.ref fa) ->
   ∃ fd,(∀ s u,MG s fd ⟨[u],[]⟩ [("script",u)])/\∀ base,(K w.params).In base->base.Ns BS mg->FnOk l.prog w (K w.params) mg base CX0 k fa fd ["script"] (lSp (K w.params) spLaw2)) :
  QM q loose XP YP l.row.toRowW d [] (λf vs=>Oz f vs):=
 L2.walk_of hn (by decide) hdf hr hY F (λ_ _ a ns hl _ hS=>fu hl hS) λ_ _ _ _ _ z=>z
end
end L3
namespace L3
open PySem PySem.Spec PyProof.Rows L2
unseal BU Hv Jf Gj JW GL Dw Cf FR BP Fz Gc Ku Hq EF
section
theorem rM (I:A4 X Ae U H s)(h1:F0 X.K H p vs)(h2:F0 X.K H p' ws)(hz:vs.length+ws.length<=Am)
  (q:∀l,H l=none->Q (.ref l) (Cv H l (.lst (vs++ws)))):Ar (Az X.prog X.w) X.A (Bu .Add (.ref p) (.ref p')) (EP X Ae U Q) X.xe s:=by
 obtain⟨Bh,r1,l1,_⟩:=I.list h1;obtain⟨its2,r2,l2,_⟩:=I.list h2;have n1:=r1.length;have n2:=r2.length;obtain⟨⟨cls,dd,data,sl⟩,ho,hc,n,hd⟩:=l1.isList;obtain⟨⟨cls2,dd2,data2,sl2⟩,ho2,hc2,n2',hd2⟩:=l2.isList;simp only at hc hd hc2 hd2;subst hc hd hc2 hd2;refine concat_meets ⟨_,ho,rfl⟩ ⟨_,ho2,rfl⟩ noFill_list_add seq_list_add PySem.F.slot_list_add PySem.F.entry_list_add (PySem.F.args_list_add_2 _ _) (list_addW p p' Bh.toArray its2.toArray n n2' dd dd2 sl sl2 (by simp;ext)) ⟨ho,ho2,?_⟩;have e:Bh.toArray++its2.toArray=(Bh++its2).toArray:=by simp
 rw[e];exact⟨.ref _,_,I.lnew (r1.append r2) (by rw[As];ext),rfl,q _ I.fresh⟩
def SN:K2:=λx y M Q=>Cw (Bi M x) λxs=>Cw (Bi M y) λys=>xs.length+ys.length<=Am/\Q (.lst (xs++ys)) M
def Xa:K2:=λx y M Q=>Cw (Bi M x) λxs=>Cw (Bi M y) λys=>xs.length+ys.length<=Am/\∀p,M p=none->Q (.ref p) (put M p (.lst (xs++ys)))
theorem gh:Cf X (Bu .Add) SN:=by
 intro Ae s U H x y v u Q I rx ry;ext1⟨Z,dx,dy,M,Q2,hr,ax,ay,h,k⟩;obtain⟨xs,e1,h1⟩:=Cj h;obtain⟨ys,e2,hz,q⟩:=Cj h1;obtain⟨p,vs,rfl,hs,a⟩:=hr.rdL e1 ax;obtain⟨p',ws,rfl,hs',a'⟩:=hr.rdL e2 ay;cases(show v=AC p from rx);cases(show u=AC p' from ry);have l1:=a.length;have l2:=a'.length;exact rM I hs hs' (by ext) λl hl=>k.f hr hl (a.append a') q
theorem zC:Cf X (Bu .Add) Xa:=by
 intro Ae s U H x y v u Q I rx ry;ext1⟨Z,dx,dy,M,Q2,hr,ax,ay,h,k⟩;obtain⟨xs,e1,h1⟩:=Cj h;obtain⟨ys,e2,hz,q⟩:=Cj h1;obtain⟨p,vs,rfl,hs,a⟩:=hr.rdL e1 ax;obtain⟨p',ws,rfl,hs',a'⟩:=hr.rdL e2 ay;cases(show v=AC p from rx);cases(show u=AC p' from ry);have l1:=a.length;have l2:=a'.length;exact rM I hs hs' (by ext) λl hl=>k.l hr hl (a.append a') q
noncomputable def Gb (f:D->D->Option Bool):List D->List D->Option Bool
 |[],[]=>some true
 |[],_::_=>some false
 |_::_,[]=>some false
 |x::xs,y::ys=>match f x y,Gb f xs ys with
  |some a,some b=>some (a && b)
  |_,_=>none
noncomputable def EN (M:Mp):Nat->D->D->Option Bool
 |0,x,y=>if El x && El y then some (Kn x y)else none
 |n+1,x,y=>if El x && El y then some (Kn x y)else match x,y with
  |.tup xs,.tup ys=>Gb (EN M n) xs ys
  |x,y=>match Bi M x,Bi M y with
   |some xs,some ys=>Gb (EN M n) xs ys
   |_,_=>none
theorem mY {Z:Zt}{x y:V}{d e:D}(ax:At Z x d)(ay:At Z y e)(f1:El d=true)(f2:El e=true):Hc x=true/\Hc y=true/\Ql x y=Kn d e:=by
 cases d<;>first
  |exact absurd f1 Aj
  | (cases e<;>first
    |exact absurd f2 Aj
    | (subst ax;subst ay;refine ⟨rfl,rfl,?_⟩;delta Ql Kn;simp [No]))
theorem Tb :∀{xs ys:List D}{b:Bool},Gb f xs ys=some b->∃e:Nat->Bool,(∀(j:Nat) x y,xs[j]? = some x->ys[j]? = some y->f x y=some (e j)) /\
  ((Bk (min xs.length ys.length)).all e && xs.length == ys.length)=b
 |[],[],b,h=>⟨λ_=>true,λj x y h=>by simp at h,by cases h;rfl⟩
 |[],y::ys,b,h=>⟨λ_=>true,λj x y h=>by simp at h,by cases h;simp⟩
 |x::xs,[],b,h=>⟨λ_=>true,λj x y _ h=>by simp at h,by cases h;simp⟩
 |x::xs,y::ys,b,h=>by
  unfold Gb at h;split at h
  .next a c ha hc=>
   cases h;obtain⟨e,he,hb⟩:=Tb hc;refine⟨λj=>match j with | 0=>a | j+1=>e j,λj x' y' h1 h2=>?_,?_⟩
   .cases j with
    |zero=>
     have e1:x=x':=by simpa using h1
     have e2:y=y':=by simpa using h2
     rw[<- e1,<- e2];exact ha
    |succ j=>exact he j x' y' (by simpa using h1) (by simpa using h2)
   .rw[AK,AK,Nat.succ_min_succ,Es,F6,PJ,<- hb];have:((λj=>match j with | 0=>a | j+1=>e j) ∘ Nat.succ:Nat->Bool)=e:=rfl;rw[this,Bool.and_assoc];congr 2
    simp
  .cases h
theorem Ui (r:BF vs us)(a:Dm Z vs ds)(j:Nat)(h:j<us.toArray.size):∃v d,vs[j]? = some v/\ds[j]? = some d/\At Z v d/\RelV v us.toArray[j]:=by
 have l1:=r.length;have k1:j<vs.length:=by rw[l1];simpa using h
 have e:=Af k1;obtain⟨u,e1,q1⟩:=r.get e;obtain⟨d,e2,q2⟩:=a.got e
 have z1:us.toArray[j]=u:=by
  obtain⟨_,z⟩:=Ai.mp e1;simpa using z
 exact⟨_,d,e,e2,q2,by rw[z1];exact q1⟩
theorem qQ (h:k=true):EK A s (.ref p) (.ref p) k:=by rw[h];exact Nd _
theorem rO {Ae:List (Av×Obj)}{U:St}{H:Hp}{s:Aq}{M:Mp}{Z:Zt}(I:A4 X Ae U H s)(hr:HR X.K H M Z):∀(n:Nat) {v:V}{x y:D}{b:Bool},At Z v x->At Z v y->EN M n x y=some b->b=true:=by
 have flat:∀{v:V} {x y:D},At Z v x->At Z v y->El x=true->El y=true->Kn x y=true:=λ{v x y} ax ay f1 f2=>by
  cases x<;>first
   |exact absurd f1 Aj
   | (cases y<;>first
     |exact absurd f2 Aj
     | (rw [show v=_ from ax] at ay;cases ay<;>(delta Kn;simp)))
 intro n;induction n with
 |zero=>
  intro v x y b ax ay h;unfold EN at h;split at h
  .next f=>
   rw[Bo]at f;cases h;exact flat ax ay f.1 f.2
  .cases h
 |succ n ih=>
  intro v x y b ax ay h;unfold EN at h;split at h
  .next f=>
   rw[Bo]at f;cases h;exact flat ax ay f.1 f.2
  .have lists:∀{vs:List V} {xs ys:List D},Dm Z vs xs->Dm Z vs ys->Gb (EN M n) xs ys=some b->b=true:=λ{vs xs ys} a1 a2 hc=>by
    obtain⟨e,he,hb⟩:=Tb hc;have l1:=a1.length;have l2:=a2.length;rw[<- hb,Bo];refine⟨Ck.mpr λj hj=>?_,by simp;ext⟩;have hj':j<min xs.length ys.length:=Ca.mp hj;have k1:j<xs.length:=by ext
    have k2:j<ys.length:=by ext
    obtain⟨v1,e1,q1⟩:=a1.get (Af k1);obtain⟨v2,e2,q2⟩:=a2.get (Af k2);rw[e1]at e2;cases e2;exact ih q1 q2 (he j _ _ (Af k1) (Af k2))
   split at h
   .obtain⟨p,vs,rfl,hs,a1⟩:=hr.rdT ax;obtain⟨p',ws,e,hs',a2⟩:=hr.rdT ay;cases e;rw[I.tuple_inj hs' hs]at a2;exact lists a1 a2 h
   .split at h
    .next e1 e2=>
     obtain⟨p,vs,rfl,hs,a1⟩:=hr.rdL e1 ax;obtain⟨p',ws,e,hs',a2⟩:=hr.rdL e2 ay;cases e;rw[I.list_inj hs' hs]at a2;exact lists a1 a2 h
    .cases h
theorem gR (I:A4 X Ae U H s)(hr:HR X.K H M Z):∀n {A:Cu}{v w:V}{x y:D}{u u':Ah}{b:Bool},At Z v x->At Z w y->RelV v u->RelV w u'->A.units+n<DV->EN M n x y=some b->EK A s u u' b:=by
 have flat:∀{A:Cu} {v w:V} {x y:D} {u u':Ah},At Z v x->At Z w y->RelV v u->RelV w u'->El x=true->El y=true->EK A s u u' (Kn x y):=λ{A v w x y u u'} ax ay rx ry f1 f2=>by
  obtain⟨k1,k2,k3⟩:=mY ax ay f1 f2;rw[<- k3];exact oA rx ry k1 k2
 intro n;induction n with
 |zero=>
  intro A v w x y u u' b ax ay rx ry hu h;unfold EN at h;split at h
  .next f=>
   rw[Bo]at f;cases h;exact flat ax ay rx ry f.1 f.2
  .cases h
 |succ n ih=>
  intro A v w x y u u' b ax ay rx ry hu h;have h0:=h;unfold EN at h;split at h
  .next f=>
   rw[Bo]at f;cases h;exact flat ax ay rx ry f.1 f.2
  .have hu1:A.in1.units+n<DV:=by show A.units+1+n<DV;ext
   have hu0:A.units<DV:=by ext
   have items:∀{vs ws:List V} {xs ys:List D} {Bh its2:List Ah} {e:Nat->Bool},BF vs Bh->BF ws its2->Dm Z vs xs->Dm Z ws ys->(∀(j:Nat) x y,xs[j]? = some x->ys[j]? = some y->EN M n x y=some (e j)) ->
     ∀j (h1:j<Bh.toArray.size) (h2:j<its2.toArray.size),EK A.in1 s Bh.toArray[j] its2.toArray[j] (e j):=λ{vs ws xs ys Bh its2 e} r1 r2 a1 a2 he j h1 h2=>by
    obtain⟨v1,d1,_,e1,q1,z1⟩:=Ui r1 a1 j h1;obtain⟨v2,d2,_,e2,q2,z2⟩:=Ui r2 a2 j h2;exact ih q1 q2 z1 z2 hu1 (he j d1 d2 e1 e2)
   split at h
   .obtain⟨p,vs,rfl,hs,a1⟩:=hr.rdT ax;obtain⟨p',ws,rfl,hs',a2⟩:=hr.rdT ay;cases(show u=AC p from rx);cases(show u'=AC p' from ry);obtain⟨Bh,r1,t1,_⟩:=I.tuple hs;obtain⟨its2,r2,t2,_⟩:=I.tuple hs';obtain⟨e,he,hb⟩:=Tb h;by_cases hp:p=p'
    .subst hp;exact qQ (rO I hr _ ax ay h0)
    .have l1:=a1.length;have l2:=a2.length;have m1:=r1.length;have m2:=r2.length;have z:=HG hp (SeqAt.RcAt.tuples t1 t2 hu0 (items r1 r2 a1 a2 he));rw[show Bh.toArray.size=(_:List D).length by simp;rw[<- m1,l1],show its2.toArray.size=(_:List D).length by simp;rw[<- m2,l2],hb]at z;exact z
   .split at h
    .next xs ys e1 e2=>
     obtain⟨p,vs,rfl,hs,a1⟩:=hr.rdL e1 ax;obtain⟨p',ws,rfl,hs',a2⟩:=hr.rdL e2 ay;cases(show u=AC p from rx);cases(show u'=AC p' from ry);obtain⟨Bh,r1,t1,_⟩:=I.list hs;obtain⟨its2,r2,t2,_⟩:=I.list hs';obtain⟨e,he,hb⟩:=Tb h;by_cases hp:p=p'
     .subst hp;exact qQ (rO I hr _ ax ay h0)
     .have l1:=a1.length;have l2:=a2.length;have m1:=r1.length;have m2:=r2.length;have s1:Bh.toArray.size=xs.length:=by simp;ext
      have s2:its2.toArray.size=ys.length:=by simp;ext
      by_cases hl:xs.length=ys.length
      .have z:=HG hp (SeqAt.RcAt.lists t1.isList t2.isList (by ext) hu0 (items r1 r2 a1 a2 he));rw[s1]at z;rw[<- hb,hl,KD];rw[hl]at z;simpa using z
      .have z:=HG hp (SeqAt.RcAt.lists_lengths t1.isList t2.isList (by rw[s1,s2];simpa using hl) hu0);rw[<- hb,show(xs.length == ys.length)=false by simpa using hl,E3];exact z
    .cases h
def Nx (neg:Bool):K2:=λx y M Q=>match x,y with
 |.tup xs,.tup ys=>Cw (Gb (EN M 40) xs ys) λb=>Q (.bl (if neg then !b else b)) M
 |x,y=>Cw (Bi M x) λxs=>Cw (Bi M y) λys=>Cw (Gb (EN M 40) xs ys) λb=>Q (.bl (if neg then !b else b)) M
theorem aC {A:Cu}(I:A4 X Ae U H s)(hr:HR X.K H M Z)(hu:A.units+41<DV){e:Nat->Bool}(r1:BF vs Bh)(r2:BF ws its2)(a1:Dm Z vs xs)(a2:Dm Z ws ys)
  (he:∀(j:Nat) x y,xs[j]? = some x->ys[j]? = some y->EN M 40 x y=some (e j)):∀j (h1:j<Bh.toArray.size) (h2:j<its2.toArray.size),EK A.in1 s Bh.toArray[j] its2.toArray[j] (e j):=λj h1 h2=>by
 obtain⟨v1,d1,_,e1,q1,z1⟩:=Ui r1 a1 j h1;obtain⟨v2,d2,_,e2,q2,z2⟩:=Ui r2 a2 j h2;exact gR I hr 40 q1 q2 z1 z2 (by show A.units+1+40<DV;ext) (he j d1 d2 e1 e2)
theorem tK (h:Nx neg x y M Q):∃xs ys b,Gb (EN M 40) xs ys=some b/\Q (.bl (if neg then !b else b)) M/\((x=.tup xs/\y=.tup ys)\/(Bi M x=some xs/\Bi M y=some ys)):=by
 unfold Nx at h;split at h
 .obtain⟨b,e,q⟩:=Cj h;exact⟨_,_,b,e,q,.inl ⟨rfl,rfl⟩⟩
 .obtain⟨xs,e1,h1⟩:=Cj h;obtain⟨ys,e2,h2⟩:=Cj h1;obtain⟨b,e,q⟩:=Cj h2;exact⟨_,_,b,e,q,.inr ⟨e1,e2⟩⟩
theorem X2 (hu:X.A.units+41<DV):Cf X (Bb .Eq) (Nx false):=by
 intro Ae s U H x y v u Q I rx ry;ext1⟨Z,dx,dy,M,Q2,hr,ax,ay,h,k⟩;obtain⟨xs,ys,b,hc,q,h|h⟩:=tK h
 .obtain⟨rfl,rfl⟩:=h;obtain⟨p,vs,rfl,hs,a1⟩:=hr.rdT ax;obtain⟨p',ws,rfl,hs',a2⟩:=hr.rdT ay;cases(show v=AC p from rx);cases(show u=AC p' from ry);obtain⟨Bh,r1,t1,_⟩:=I.tuple hs;obtain⟨its2,r2,t2,_⟩:=I.tuple hs';obtain⟨e,he,hb⟩:=Tb hc;have l1:=a1.length;have l2:=a2.length;have m1:=r1.length;have m2:=r2.length;refine SeqAt.eq_tupleAt t1 t2 (by ext) (aC I hr hu r1 r2 a1 a2 he) ⟨.bl b,H,I,?_,k.b hr q⟩;rw[show Bh.toArray.size=xs.length by simp;ext,show its2.toArray.size=ys.length by simp;ext,hb];rfl
 .obtain⟨e1,e2⟩:=h;obtain⟨p,vs,rfl,hs,a1⟩:=hr.rdL e1 ax;obtain⟨p',ws,rfl,hs',a2⟩:=hr.rdL e2 ay;cases(show v=AC p from rx);cases(show u=AC p' from ry);obtain⟨Bh,r1,t1,_⟩:=I.list hs;obtain⟨its2,r2,t2,_⟩:=I.list hs';obtain⟨e,he,hb⟩:=Tb hc;have l1:=a1.length;have l2:=a2.length;have m1:=r1.length;have m2:=r2.length;have s1:Bh.toArray.size=xs.length:=by simp;ext
  have s2:its2.toArray.size=ys.length:=by simp;ext
  by_cases hl:xs.length=ys.length
  .refine SeqAt.eq_listAt t1.isList t2.isList (by ext) (by ext) (aC I hr hu r1 r2 a1 a2 he) ⟨.bl b,H,I,?_,k.b hr q⟩;rw[s1,<- hb,hl,KD];simp[L2.RelV]
  .refine SeqAt.eq_list_lengthsAt t1.isList t2.isList (by rw[s1,s2];simpa using hl) (by ext) ⟨.bl b,H,I,?_,k.b hr q⟩;rw[<- hb,show(xs.length == ys.length)=false by simpa using hl,E3];rfl
theorem Vq (hu:X.A.units+41<DV):Cf X (Bb .NotEq) (Nx true):=by
 intro Ae s U H x y v u Q I rx ry;ext1⟨Z,dx,dy,M,Q2,hr,ax,ay,h,k⟩;obtain⟨xs,ys,b,hc,q,h|h⟩:=tK h
 .obtain⟨rfl,rfl⟩:=h;obtain⟨p,vs,rfl,hs,a1⟩:=hr.rdT ax;obtain⟨p',ws,rfl,hs',a2⟩:=hr.rdT ay;cases(show v=AC p from rx);cases(show u=AC p' from ry);obtain⟨Bh,r1,t1,_⟩:=I.tuple hs;obtain⟨its2,r2,t2,_⟩:=I.tuple hs';obtain⟨e,he,hb⟩:=Tb hc;have l1:=a1.length;have l2:=a2.length;have m1:=r1.length;have m2:=r2.length;refine YS t1 t2 (by ext) (aC I hr hu r1 r2 a1 a2 he) _ _ _ _ ⟨.bl (!b),H,I,?_,k.b hr q⟩;rw[show Bh.toArray.size=xs.length by simp;ext,show its2.toArray.size=ys.length by simp;ext,hb];rfl
 .obtain⟨e1,e2⟩:=h;obtain⟨p,vs,rfl,hs,a1⟩:=hr.rdL e1 ax;obtain⟨p',ws,rfl,hs',a2⟩:=hr.rdL e2 ay;cases(show v=AC p from rx);cases(show u=AC p' from ry);obtain⟨Bh,r1,t1,_⟩:=I.list hs;obtain⟨its2,r2,t2,_⟩:=I.list hs';obtain⟨e,he,hb⟩:=Tb hc;have l1:=a1.length;have l2:=a2.length;have m1:=r1.length;have m2:=r2.length;have s1:Bh.toArray.size=xs.length:=by simp;ext
  have s2:its2.toArray.size=ys.length:=by simp;ext
  by_cases hl:xs.length=ys.length
  .refine YU t1.isList t2.isList (by ext) (by ext) (aC I hr hu r1 r2 a1 a2 he) _ _ _ _ ⟨.bl (!b),H,I,?_,k.b hr q⟩;rw[s1,<- hb,hl,KD];simp[L2.RelV]
  .refine YT t1.isList t2.isList (by rw[s1,s2];simpa using hl) (by ext) _ _ _ _ ⟨.bl (!b),H,I,?_,k.b hr q⟩;rw[<- hb,show(xs.length == ys.length)=false by simpa using hl,E3];rfl
def cY (neg:Bool):K2:=λx y M Q=>Cw (Hj M y) λys=>ys.all El=true/\El x=true/\Q (.bl (if neg then !(ys.any λz=>Kn z x)else ys.any λz=>Kn z x)) M
theorem pT (a:At Z v d)(f:El d=true):Hc v=true:=by
 cases d<;>first
  |exact absurd f Aj
  |(subst a;rfl)
theorem jA (ax:At Z x dx)(fx:El dx=true):∀{vs:List V}{ds:List D},Dm Z vs ds->ds.all El=true->vs.all Hc=true/\Zw x vs=ds.any λz=>Kn z dx
 |_,_,.nil,_=>⟨rfl,rfl⟩
 |v::vs,d::ds,.cons a t,f=>by
  rw[F6,Bo]at f;obtain⟨h1,h2⟩:=jA ax fx t f.2;obtain⟨k1,k2,k3⟩:=mY a ax f.1 fx;refine⟨by rw[F6,k1,h1];rfl,?_⟩;show(Ql v x || Zw x vs)=(Kn d dx || _);rw[k3,h2]
theorem OQ:Cf X (Bb .In) (cY false):=FS.mono vp (by
 intro x y H Q;ext1⟨Z,dx,dy,M,Q2,hr,ax,ay,h,k⟩;obtain ⟨ys,e,f,fx,q⟩:=Cj h;obtain ⟨p,vs,rfl,hs,a⟩:=hr.rdS e ay;obtain ⟨h1,h2⟩:=jA ax fx a f;exact ⟨p,vs,rfl,hs,pT ax fx,h1,by rw [h2];exact k.b hr q⟩)
theorem iS:Cf X (Bb .NotIn) (cY true):=FS.mono zz (by
 intro x y H Q;ext1⟨Z,dx,dy,M,Q2,hr,ax,ay,h,k⟩;obtain ⟨ys,e,f,fx,q⟩:=Cj h;obtain ⟨p,vs,rfl,hs,a⟩:=hr.rdS e ay;obtain ⟨h1,h2⟩:=jA ax fx a f;exact ⟨p,vs,rfl,hs,pT ax fx,h1,by rw [h2];exact k.b hr q⟩)
end
def Q4 (x:D)(k:Co->Prop):Prop:=match x with
 |.int i=>k (.inl i)
 |.str z=>k (.inr z)
 |_=>False
noncomputable def kD:Co->D
 |.inl i=>.int i
 |.inr z=>.str z
theorem Qd (h:Q4 x k):∃i,x=kD i/\k i:=by
 cases x with
 |int i=>exact⟨.inl i,rfl,h⟩
 |str i=>exact⟨.inr i,rfl,h⟩
 |_=>exact h.elim
theorem Vx (a:At Z v (kD k)):v=kV k:=by cases k<;>exact a
noncomputable def E6 (M:Mp):D->Option (List (Co×D))
 |.dic kvs=>some kvs
 |.ref p=>match M p with
  |some (.dic kvs)=>some kvs
  |_=>none
 |_=>none
noncomputable def DJ (kvs:List (Co×D))(k:Co):Option D:=(kvs.find? λkv=>decide (kv.1=k)).map (·.2)
noncomputable def H9 (kvs:List (Co×D))(k:Co)(v:D):List (Co×D):=if kvs.any (λkv=>decide (kv.1=k))then kvs.map λkv=>if kv.1=k then(kv.1,v)else kv else kvs++[(k,v)]
section
variable {K:Ac}
theorem HR.rdD (h:HR K H M Z)(e:E6 M d=some ds)(a:At Z v d):∃p vs,v=.ref p/\Rd H p (.dK vs)/\CV Z vs ds:=by
 cases d with
 |dic xs=>
  cases e;obtain⟨p,rfl,z⟩:=a;rcases h.z p _ z with⟨vs,r,a⟩|k
  .exact⟨p,vs,rfl,r,a⟩
  .exact k.elim
 |ref p=>
  cases(show v=.ref p from a);unfold E6 at e;simp only at e;split at e
  .next q=>
   cases e;obtain⟨vs,r,a⟩:=h.rdMD q;exact⟨p,vs,rfl,.inl r,a⟩
  .cases e
 |_=>cases e
theorem CV.length (h:CV Z vs ds):vs.length=ds.length:=DW h
theorem CV.val :∀{vs:List (Co×V)}{ds:List (Co×D)},CV Z vs ds->(DJ ds k=none/\FL vs k=none)\/∃d v,DJ ds k=some d/\FL vs k=some v/\At Z v d
 |_,_,.nil=>.inl ⟨rfl,rfl⟩
 |(k1,v)::vs,(k2,d)::ds,.cons r t=>by
  obtain⟨e,a⟩:=r;have e':=e;subst e';by_cases hk:k1=k
  .exact .inr ⟨d,v,by simp[DJ,CG,hk],by simp[FL,CG,hk],a⟩
  .have h1:DJ ((k1,d)::ds) k=DJ ds k:=by simp[DJ,CG,hk]
   have h2:FL ((k1,v)::vs) k=FL vs k:=by simp[FL,CG,hk]
   rw[h1,h2];exact CV.val t
theorem CV.isSome (h:CV Z vs ds):(FL vs k).isSome=(DJ ds k).isSome:=by
 rcases h.val with⟨e1,e2⟩|⟨d,v,e1,e2,_⟩<;>rw[e1,e2]<;>rfl
theorem CV.any :∀{vs:List (Co×V)}{ds:List (Co×D)},CV Z vs ds->(vs.any λkv=>decide (kv.1=k))=ds.any λkv=>decide (kv.1=k)
 |_,_,.nil=>rfl
 |(k1,v)::vs,(k2,d)::ds,.cons r t=>by
  have e':=r.1;rw[Fp,Fp,CV.any t,e']
theorem CV.append:∀{xs ys:List (Co×V)}{us ws:List (Co×D)},CV Z xs us->CV Z ys ws->CV Z (xs++ys) (us++ws)
 |_,_,_,_,.nil,s=>s
 |_,_,_,_,.cons r t,s=>.cons r (CV.append t s)
theorem CV.repl (a:At Z v d):∀{vs:List (Co×V)}{ds:List (Co×D)},CV Z vs ds->CV Z (vs.map λkv=>if kv.1=k then(kv.1,v)else kv) (ds.map λkv=>if kv.1=k then(kv.1,d)else kv)
 |_,_,.nil=>.nil
 |(k1,v1)::vs,(k2,d1)::ds,.cons r t=>by
  have e':=r.1;subst e';rw[AT,AT];refine .cons ?_ (CV.repl a t);by_cases h:k1=k
  .rw[if_pos h,if_pos h];exact⟨rfl,a⟩
  .rw[if_neg h,if_neg h];exact r
theorem CV.put (a:At Z v d)(h:CV Z vs ds):CV Z (putK vs k v) (H9 ds k d):=by
 unfold putK H9;rw[h.any];split
 .exact h.repl a
 .exact h.append (.cons ⟨rfl,a⟩ .nil)
end
section
def SA:DQ:=λ_ M Q=>∀p,M p=none->Q (.ref p) (put M p (.dic []))
theorem JE:BU X (.Dict [] [] pos) SA:=PE.mono ql λU H Q ⟨Z,τ,M,Q2,st,hr,h,k⟩ p hp=>k.d hr hp .nil h
def Ke (o:Option MO)(k:List (Co×D)->Prop):Prop:=match o with
 |some (.dic kvs)=>k kvs
 |_=>False
theorem gI (h:Ke o k):∃kvs,o=some (.dic kvs)/\k kvs:=by
 unfold Ke at h;split at h
 .exact⟨_,rfl,h⟩
 .exact h.elim
def Sz (td ty tv:DQ):HM:=λE τ M=>tv τ M λv M1=>td τ M1 λx M2=>ty τ M2 λy M3=>JF x λp=>Q4 y λk=>Ke (M3 p) λkvs=>kvs.length<Am/\E.nx τ (put M3 p (.dic (H9 kvs k v)))
theorem Ye (hu:X.A.units+1<DV)(ho:BU X o td)(hi:BU X i ty)(hv:BU X value tv)(hs:De value (some (.Subscript o i pos')) pos.line X.env=pure false) :
  GL X (.Assign [.Subscript o i pos'] value pos) (Sz td ty tv):=PS.mono (lv hu ho hi hv hs) (by
 intro D U H;ext1⟨Z,τ,M,D2,st,hr,h,er⟩;refine lE.bind st hr h λZ1 v dv H1 M1 l1 h1 a1 q1=>lE.bind (st.mono l1) h1 q1 λZ2 x dx H2 M2 l2 h2 a2 q2=>lE.bind (st.mono (l1.trans l2)) h2 q2 λZ3 y dy H3 M3 l3 h3 a3 q3=>?_;obtain ⟨p,rfl,q4⟩:=Ia q3;obtain ⟨k,rfl,q5⟩:=Qd q4;cases (show x=V.ref p from a2);cases Vx a3;obtain ⟨kvs,e,hl,q⟩:=gI q5;obtain ⟨ks,r,a4⟩:=h3.rdMD e;refine ⟨p,_,rfl,QF.k r (by rw [a4.length];exact hl),?_⟩;exact lS.nx (er.le (l1.trans (l2.trans l3))) (st.mono (l1.trans (l2.trans l3))) (h3.chgD e (a4.put (a1.mono (l2.trans l3)))) q)
def SD (td ty:DQ):DQ:=λτ M Q=>td τ M λx M1=>ty τ M1 λy M2=>Cw (E6 M2 x) λkvs=>Q4 y λk=>Cw (DJ kvs k) λv=>Q v M2
theorem FO (hu:X.A.units+1<DV)(ho:BU X o td)(hi:BU X i ty)(hs:UH i):BU X (.Subscript o i pos) (SD td ty):=PE.mono (k7 hu ho hi hs) (by
 intro U H Q;ext1⟨Z,τ,M,Q2,st,hr,h,k⟩;refine lE.bind st hr h λZ1 x dx H1 M1 l1 h1 a1 q1=>lE.bind (st.mono l1) h1 q1 λZ2 y dy H2 M2 l2 h2 a2 q2=>?_;obtain⟨kvs,e,q3⟩:=Cj q2;obtain⟨k',rfl,q4⟩:=Qd q3;obtain⟨d,e2,q⟩:=Cj q4;obtain⟨p,ks,rfl,r,a3⟩:=h2.rdD e (a1.mono l2);cases Vx a2;rcases a3.val with⟨z,_⟩|⟨d',v,z,zv,av⟩
 .rw[e2]at z;cases z
 .rw [e2] at z;cases z;exact ⟨p,v,rfl,.inl ⟨ks,k',r,rfl,zv.symm⟩,(k.le (l1.trans l2)).v h2 av q⟩)
def TM (neg:Bool):K2:=λx y M Q=>Cw (E6 M y) λkvs=>Q4 x λk=>Q (.bl (if neg then !(DJ kvs k).isSome else(DJ kvs k).isSome)) M
theorem zD (hu:X.A.units+1<DV):Cf X (Bb .In) (TM false):=by
 intro Ae s U H x y v u Q I rx ry;ext1⟨Z,dx,dy,M,Q2,hr,ax,ay,h,k⟩;obtain⟨kvs,e,h1⟩:=Cj h;obtain⟨k',rfl,q⟩:=Qd h1;obtain⟨p,ks,rfl,r,a3⟩:=hr.rdD e ay;cases Vx ax;cases(show u=AC p from ry);refine fX hu I (.inl ⟨ks,k',r,rfl,rfl⟩) rx λs' I'=>⟨.bl _,H,I',rfl,?_⟩;rw[a3.isSome];exact k.b hr q
theorem qd (hu:X.A.units+1<DV):Cf X (Bb .NotIn) (TM true):=by
 intro Ae s U H x y v u Q I rx ry;ext1⟨Z,dx,dy,M,Q2,hr,ax,ay,h,k⟩;obtain⟨kvs,e,h1⟩:=Cj h;obtain⟨k',rfl,q⟩:=Qd h1;obtain⟨p,ks,rfl,r,a3⟩:=hr.rdD e ay;cases Vx ax;cases(show u=AC p from ry);refine j9 hu I (.inl ⟨ks,k',r,rfl,rfl⟩) rx λs' I'=>⟨.bl _,H,I',rfl,?_⟩;rw[a3.isSome];exact k.b hr q
theorem xl:BP X (.builtin "len") (λxs M Q=>Ga xs λx=>Cw (E6 M x) λkvs=>Q (.int kvs.length) M):=by
 intro Ae s U H xs us Q I r;ext1⟨Z,ds,M,Q2,hr,a,h,k⟩;obtain⟨x,rfl,h1⟩:=G4 h;obtain⟨kvs,e,q⟩:=Cj h1;obtain⟨v,rfl,a1⟩:=Ic a;obtain⟨p,ks,rfl,rd,a2⟩:=hr.rdD e a1;obtain⟨u,rfl,ru⟩:=GH r;cases(show u=AC p from ru);refine yW I rd λt s' I'=>⟨.int kvs.length,H,I',⟨t,by rw[a2.length]⟩,k.i hr q⟩
theorem az (h:(BO P w).is k v=true):L2.RelV (kV k) v:=by
 rw[yc]at h;rcases Rh h with⟨i,t,rfl,rfl⟩|⟨x,t,rfl,rfl⟩
 .exact⟨t,rfl⟩
 .exact⟨t,rfl⟩
theorem uD:Cf X (Bu .Add) (λx y M Q=>Gr x λi=>Gr y λj=>i.length+j.length<=Am/\Q (.str (i++j)) M):=FS.mono wn (by
 intro x y H Q;ext1⟨Z,dx,dy,M,Q2,hr,ax,ay,h,k⟩;obtain ⟨i,rfl,h1⟩:=D8 h;obtain ⟨j,rfl,hz,q⟩:=D8 h1;exact ⟨i,j,ax,ay,hz,k.s hr q⟩)
theorem gB (a:Dm Z vs [d,e,f]):∃v w u,vs=[v,w,u]/\At Z v d/\At Z w e/\At Z u f:=by
 cases a with
 |cons a1 a2=>obtain⟨w,u,rfl,a3,a4⟩:=OU a2;exact⟨_,w,u,rfl,a1,a3,a4⟩
end
section
variable (P:Bp)(w:BK)
end
section
open MeetsSeq MeetsSeq2 MeetsSeq3 SeqRoads2
end
theorem aQ :∀{kvs:List (Co×D)},(kvs.map (·.1)).Nodup->(k,d)∈kvs->DJ kvs k=some d
 |(k1,d1)::r,hn,hm=>by
  obtain⟨n1,n2⟩:=EM.mp hn;rcases Bc.mp hm with h|h
  .cases h;simp[DJ,CG]
  .have ne:¬k1=k:=λe=>n1 (by rw[e];exact Ao.mpr ⟨(k,d),h,rfl⟩);have h3:DJ ((k1,d1)::r) k=DJ r k:=by simp[DJ,CG,ne]
   rw[h3];exact aQ n2 h
section
end
section
variable {X:Cx}
end
end L3
namespace L2
open PySem PySem.Spec PyProof.Rows L3
theorem vO {Q:St->Hp->Prop}{H:Hp}{C8:St}:∀us (done:List (Option V)) (vs:List (Option V)),vs.length=us.length->Q (done++us.map some++C8) H->Gu (N5 done.length us.length) us (done++vs++C8) H Q
 |[],done,vs,hl,q=>by
  have e:=AD hl;subst e;exact⟨rfl,q⟩
 |u::us,done,[],hl,q=>by cases hl
 |u::us,done,v::vs,hl,q=>by
  rw[AK,List.range'_succ];refine⟨u,us,rfl,?_⟩
  have e1:(done++v::vs++C8).set done.length (some u)=(done++[some u])++vs++C8:=by
   rw[Bq,List.set_append_right _ _ (AH _),Ky];simp
  show Gu (N5 (done.length+1) us.length) us ((done++v::vs++C8).set done.length (some u)) H Q;rw[e1];have z:=vO us (done++[some u]) vs (GP hl) (by simpa using q);rw[As,Dg]at z;exact z
theorem yg {n:Nat}{Q:St->Hp->Prop}(hv:vs.length=n)(hu:us.length=n)(q:Q (Fg U caps (us.map some)) H) :
  Gu (Bk n) us (Fg U caps vs) H Q:=by
 have z:=vO us [] vs (hv.trans hu.symm) (by simpa[Fg]using q);rw[List.range_eq_range',<- hu];exact z
def Nw (wi:TI)(k:Nat)(caps:List (Str×Nat))(tt:TT)(te:TE)(K:Ac):TE:=λU H Q=>wi U H λJ H1=>∃(n:Nat) (W:Nat->List V->Hp->Prop),W 0 [] H1/\∀i ys H,W i ys H ->
 (J.stop i H/\ys.length<=Am/\∀p,H p=none->Q (.ref p) (Cv H p (.lst ys))) \/
 (J.go i H/\i<n/\ys.length<Am/\∀v H',J.yld i H v H'->∃a us,v=.ref a/\Lg K H' a us/\us.length=k/\tt (Fg U caps (us.map some)) H' λb H2=>if b=true then te (Fg U caps (us.map some)) H2 λy H3=>W (i+1) (ys++[y]) H3 else W (i+1) ys H2)
section
theorem xn {Q:VK}{RR:Ah->Av->Tq->Aq->Prop}(B:Kj X scope x ns caps)(hc:X.calm=true)
  (he:∀cl C fp pn s H,PE (FZ X scope cl C (x::(ns++caps.map (·.1))) fp pn s H) elt te) (hif:∀cl C fp pn s H,GN (FZ X scope cl C (x::(ns++caps.map (·.1))) fp pn s H) ifs tt)
  (hg:∀cl C fp pn s H,Te (FZ X scope cl C (x::(ns++caps.map (·.1))) fp pn s H) tes (Gu (Bk (ns.length+1)))) (hgn:∀cl C fp pn s H,(CQ tes (FZ X scope cl C (x::(ns++caps.map (·.1))) fp pn s H).env).length=ns.length+1) (hgf:∀cl C fp pn s H,LU (λy=>y.1) (CQ tes (FZ X scope cl C (x::(ns++caps.map (·.1))) fp pn s H).env)=none)
  (hRR:∀D C s' H' ys m,A4 X Ae U (Cv H' D (.lst ys)) s'->Jb X Ae (Cv H' D (.lst ys)) C->s'.heap.Ns C m->Q (.ref D) (Cv H' D (.lst ys))->RR (.ref D) C (.ok .next) s')
  (h:YG X Ae U (.Tuple tes tk px) (λJ H1=>∃ (n:Nat) (W:Nat->List V->Hp->Prop),W 0 [] H1/\∀ i ys H,W i ys H ->
   (J.stop i H/\ys.length<=Am/\∀p,H p=none->Q (.ref p) (Cv H p (.lst ys))) \/
   (J.go i H/\i<n/\ys.length<Am/\∀ v H',J.yld i H v H'->∃ a us,v=.ref a/\Lg X.K H' a us/\us.length=ns.length+1/\tt (Fg U caps (us.map some)) H' λb H2=>if b=true then te (Fg U caps (us.map some)) H2 λy H3=>W (i+1) (ys++[y]) H3 else W (i+1) ys H2)) it s₂) :
  Ar (Az X.prog X.w) X.A (PD []) (λacc s₃=>Ar (Az X.prog X.w) X.A (MV scope X.env.globals (Eo X.env scope.names []) [] X.env.qual none .none (some X.env)) (λcenv s₄ =>
   DP (Az X.prog X.w) X.A (.compStart (.ListComp elt [⟨.Tuple tes tk px,iter,ifs,0⟩] scope pos) 0 it acc { cenv with scope:=relabel scope X.env }) (RR acc cenv.locals) s₄) E s₃) E s₂:=by
 refine uS (g:=Qj X.K (ns.length+1) (Gu (Bk (ns.length+1)))) B hc he hif (λcl C fp pn s H=>oV (show(FZ X scope cl C (x::(ns++caps.map (·.1))) fp pn s H).calm=true from hc) (hg cl C fp pn s H) (hgn cl C fp pn s H) (hgf cl C fp pn s H)) hRR ?_;obtain⟨itA,fp,tn,J,H2,e,I2,T,st2,f2,n,W,w0,turn⟩:_:=h;refine⟨itA,fp,tn,J,H2,e,I2,T,st2,f2,n,W,w0,λi ys H w=>(turn i ys H w).imp id λ⟨z1,z2,z3,st⟩=>⟨z1,z2,z3,λv H' y=>?_⟩⟩;obtain⟨a,us,ev,hs,hus,q⟩:=st v H' y;exact⟨us,hus,λo R ho r=>⟨a,us,ev,hs,hus,yg ho hus r⟩,q⟩
theorem qk (B:Kj X scope x ns caps)(hc:X.calm=true)(hi:PI X (.Tuple tes tk px) iter wi)
  (he:∀cl C fp pn s H,PE (FZ X scope cl C (x::(ns++caps.map (·.1))) fp pn s H) elt te) (hif:∀cl C fp pn s H,GN (FZ X scope cl C (x::(ns++caps.map (·.1))) fp pn s H) ifs tt)
  (hg:∀cl C fp pn s H,Te (FZ X scope cl C (x::(ns++caps.map (·.1))) fp pn s H) tes (Gu (Bk (ns.length+1)))) (hgn:∀cl C fp pn s H,(CQ tes (FZ X scope cl C (x::(ns++caps.map (·.1))) fp pn s H).env).length=ns.length+1) (hgf:∀cl C fp pn s H,LU (λy=>y.1) (CQ tes (FZ X scope cl C (x::(ns++caps.map (·.1))) fp pn s H).env)=none)
  (hs:∀x,Ba iter X.env x=pure x:=by intro _;rfl):PE X (.ListComp elt [⟨.Tuple tes tk px,iter,ifs,0⟩] scope pos) (Nw wi (ns.length+1) caps tt te X.K):=by
 intro Ae s U H Q I h;rw[eval_ListComp];have hcl:∀y∈scope.names,y.2=.free->∃c,X.env.cells.lookup y.1=some c:=λy hy hf=>I.ok.has y.1 (B.b.hfree y hy hf);refine Hw rfl hs (kG hcl) B.b.kind B.b.hloc (Dl (hi Ae s U H _ I h) λv s1 h1=>Dl h1 λitv s2 h2=>?_);refine xn B hc he hif hg hgn hgf (λD C s' H' ys m I' f' hn q=>?_) h2;refine⟨m,hn,λh' sb=>⟨.ref D,Cv H' D (.lst ys),?_,rfl,q⟩⟩;obtain⟨g0,g1,g2,g3,g4,g5⟩:=f';exact I'.turned (λb o hb e=>(sb.2 b hb).trans e) g0 g1 g3 g4 g5
end
theorem A4.turnedN {X:Cx}{Ae:List (Av×Obj)}{U:St}{H:Hp}{s:Aq}{h':CH}{t':Nat}{fp:List Av}(I:A4 X Ae U H s)(hf:∀b∈fp,Jb X Ae H b)(k:∀b o,b∉fp->s.heap.get? b=some o->h'.get? b=some o):A4 X Ae U H {s with heap:=h',toks:=t' }:=by
 have nit:∀b u,H b=some u->b∉fp:=λb u e z=>by rw[(hf b z).1]at e;cases e
 refine I.step (λb hb=>?_) (λb o _ _ hc e _=>k b o hc e) (λb o _ _ hc e _=>⟨o.slots,k b o hc e⟩) (λ_ _ _ _ n=>n)
  (λb o hc e=>⟨o,k b o hc e⟩) (λ_ _ e=>e) (λ_ _ _ e=>e) (λb ps e=>⟨#[],by rw[e];simp⟩) (λm hm=>?_) (λb u e=>?_) I.bare
 .obtain⟨f0,f1,f2,f3,f4,f5⟩:=hf b hb;exact⟨f3,f1,f4,f5⟩
 .obtain⟨o,es,ep,ho,r⟩:=hm;exact⟨o,es,ep,k _ o (λz=>(hf _ z).2.1 rfl) ho,r⟩
 .refine(I.hok b u e).stay (λc v hc q=>k c v ?_ q) (λ_ q=>q) λ_ _ q=>q;rcases hc with z|z
  .rw[z];exact nit b u e
  .exact nit c _ z
noncomputable def wZ (K:Ac)(a b:Av):It:=
  ⟨λi H=>∃ xs ys x y,F0 K H a xs/\F0 K H b ys/\xs[i]? = some x/\ys[i]? = some y,
   λi H v H'=>∃p x y,v=.ref p/\H p=none/\H'=Cv H p (.tup [x,y])/\(∀xs,F0 K H a xs->xs[i]? = some x)/\∀ys,F0 K H b ys->ys[i]? = some y,
   λi H=>∃ xs ys,F0 K H a xs/\F0 K H b ys/\(xs.length<=i\/ys.length<=i)⟩
structure Qq (z TI TO i1 i2 a b:Av)(i:Nat)(h:CH):Prop where
 n1:TI≠z
 n2:TO≠z
 n3:i1≠z
 n4:i2≠z
 n5:TI≠TO
 n6:TI≠i1
 n7:TI≠i2
 n8:TO≠i1
 n9:TO≠i2
 n10:i1≠i2
 hz:IsZip h z TI TO .none
 ht:IsPair h TI (.ref i1) (.ref i2)
 ho:∃u v,IsPair h TO u v
 h1:h.IsListIter i1 a i
 h2:h.IsListIter i2 b i
theorem Qq.apart {z TI TO i1 i2 a b:Av}(t:Qq z TI TO i1 i2 a b i h)(ha:h.IsList a us)(hb:h.IsList b vs):ZipApart z TI TO i1 i2 a b:=by
 obtain⟨u,v,ho⟩:=t.ho;obtain⟨o1,e1,c1,_⟩:=t.h1;obtain⟨o2,e2,c2,_⟩:=t.h2
 have key:∀{l:Av} {ws:Array Ah},h.IsList l ws->l≠z/\l≠TO/\l≠i1/\l≠i2:=λ{l ws} ⟨o,e,c,_⟩=>by
  refine⟨λq=>?_,λq=>?_,λq=>?_,λq=>?_⟩
  .rw[q,t.hz]at e;cases e;exact absurd c (by simp)
  .rw[q,ho]at e;cases e;exact absurd c (by simp)
  .rw[q,e1]at e;cases e;rw[c1]at c;exact absurd c (by simp)
  .rw[q,e2]at e;cases e;rw[c2]at c;exact absurd c (by simp)
 obtain⟨a1,a2,a3,a4⟩:=key ha;obtain⟨b1,b2,b3,b4⟩:=key hb;exact⟨t.n1,t.n2,t.n3,t.n4,t.n5,t.n6,t.n7,t.n8,t.n9,t.n10,a1,a2,a3,a4,b1,b2,b3,b4⟩
theorem uh {K:Ac}(z TI TO i1 i2 a b:Av):LF P w K F (.Tuple es k pos) (wZ K a b) [z,TI,TO,i1,i2] z (Qq z TI TO i1 i2 a b) where
 mem:=by simp
 obj:=λi h st c hc=>by
  obtain⟨u,v,ho⟩:=st.ho;obtain⟨o1,e1,_,d1⟩:=st.h1;obtain⟨o2,e2,_,d2⟩:=st.h2;simp only[BA,AR,or_false]at hc;rcases hc with rfl|rfl|rfl|rfl|rfl
  .exact⟨_,st.hz,λv q=>by cases q⟩
  .exact⟨_,st.ht,λv q=>by cases q⟩
  .exact⟨_,ho,λv q=>by cases q⟩
  .exact⟨_,e1,λv q=>by rw[d1]at q;cases q⟩
  .exact⟨_,e2,λv q=>by rw[d2]at q;cases q⟩
 keep:=λi h h' st k=>by
  obtain⟨u,v,ho⟩:=st.ho;exact{st with hz:=k z (by simp) _ st.hz,ht:=k TI (by simp) _ st.ht,ho:=⟨u,v,k TO (by simp) _ ho⟩,h1:=st.h1.at λo e=>k i1 (by simp) o e,h2:=st.h2.at λo e=>k i2 (by simp) o e}
 item:=by
  intro X hP hw hK hF hc i Ae s U H E I hf st hg;subst hP hw hK;obtain⟨xs,ys,x,y,hx,hy,ex,ey⟩:_:=hg;obtain⟨Bh,rv,p,hzz⟩:=I.list hx;obtain⟨jts,rw',p',_⟩:=I.list hy;obtain⟨u,hu,ru⟩:=rv.get ex;obtain⟨v,hv,rv'⟩:=rw'.get ey;obtain⟨c,d,ho⟩:=st.ho;have ap:=st.apart p.isList p'.isList;refine wpAny_pyNext_zip_item ap st.hz st.ht ho st.h1 st.h2 p.isList p'.isList (by simpa using hu) (by simpa using hv) λh' z1 t1 l1 l2 tp hs old=>?_;refine⟨_,rfl,wpAny_letOwnedTupleGo_zip z1 λh2 z2 sb=>?_⟩
  have ne:∀q∈[z,TI,TO,i1,i2],q≠s.heap.objs.size:=λq hq e=>by
   have hob:∃o,s.heap.get? q=some o:=by
    obtain⟨o1,e1,_,d1⟩:=st.h1;obtain⟨o2,e2,_,d2⟩:=st.h2;simp only[BA,AR,or_false]at hq;rcases hq with rfl|rfl|rfl|rfl|rfl
    .exact⟨_,st.hz⟩
    .exact⟨_,st.ht⟩
    .exact⟨_,ho⟩
    .exact⟨_,e1⟩
    .exact⟨_,e2⟩
   obtain⟨o,e'⟩:=hob;rw[e]at e';exact absurd (Ap e') (EI _)
  have I1:A4 X Ae U H {s with heap:=h2}:=I.turnedN hf λq o hq e=>by
   simp only[BA,AR,or_false,not_or]at hq;exact(sb.2 q hq.1).trans (old q o hq.1 hq.2.2.1 hq.2.2.2.1 hq.2.2.2.2 e)
  have freshT:=I.fresh;have tp2:=(sb.2 _ (λe=>ne z (by simp) e.symm)).trans tp;have I2:A4 X Ae U (Cv H s.heap.objs.size (.tup [x,y])) {s with heap:=h2}:=I1.track (I.fpOk (AH _) freshT) ⟨Fl (B5 (by simp)),[u,v],.cons ru (.cons rv' .nil),_,tp2,rfl,_,rfl,rfl⟩;have kp:∀q o,q≠z->h'.get? q=some o->h2.get? q=some o:=λq o hq e=>(sb.2 q hq).trans e;refine⟨.ref s.heap.objs.size,_,I2,rfl,⟨_,x,y,rfl,freshT,rfl,λzs hz=>by rw[I.list_inj hz hx];exact ex,λzs hz=>by rw[I.list_inj hz hy];exact ey⟩,?_,λq hq=>?_⟩
  .have hTI:=old TI _ st.n1 st.n5 st.n6 st.n7 st.ht;exact{st with hz:=z2,ht:=kp TI _ st.n1 hTI,ho:=⟨u,v,kp TO _ st.n2 t1⟩,h1:=l1.at λo e=>kp i1 o st.n3 e,h2:=l2.at λo e=>kp i2 o st.n4 e}
  .rw[HL (ne q hq)];exact(hf q hq).1
 done:=by
  intro X hP hw hK hF hc i Ae s U H E I hf st hg;subst hP hw hK;obtain⟨xs,ys,hx,hy,hl⟩:=hg;obtain⟨Bh,rv,p,_⟩:=I.list hx;obtain⟨jts,rw',p',_⟩:=I.list hy;obtain⟨c,d,ho⟩:=st.ho;have e1:=rv.length;have e2:=rw'.length;refine wpAny_pyNext_zip_end (I.ok.hd hc) (st.apart p.isList p'.isList) st.hz st.ht ho st.h1 st.h2 p.isList p'.isList ?_ λh' old=>⟨rfl,I.turnedN hf λq o hq e=>?_⟩
  .rcases hl with hl|hl
   .exact .inl (by simp;ext)
   .exact .inr (by simp;ext)
  .simp only[BA,AR,or_false,not_or]at hq;exact old q o hq.1 hq.2.2.1 hq.2.2.2.1 hq.2.2.2.2 e
 self:=λ_ _ _ _ _ st h=>VW st.hz h
def fV (K:Ac)(ta:TA):TI:=λU H R=>ta U H λvs H1=>∃a b xs ys,vs=[.ref a,.ref b]/\F0 K H1 a xs/\F0 K H1 b ys/\R (wZ K a b) H1
theorem d9 {X:Cx}{es:List B8}{k:Nat}{tp:Pos}{a b:B8}{ta:TA}{p pos:Pos}(hg:Gl X "zip")(hm:X.mg "zip" = none)(ha:PA X [a,b] ta)(hs:Au [a,b] X.env=[(false,eval a X.env),(false,eval b X.env)]:=by rfl)(hs2:Au [b] X.env=[(false,eval b X.env)]:=by rfl) :
  PI X (.Tuple es k tp) (.Call (.Name "zip" p) [a,b] [] pos) (fV X.K ta):=by
 intro Ae s U H R I h;refine Call_ (Qt I hg hm boot_zip (Bz (Dl (ha pos Ae s U H _ I h) λus s1 e=>e.el λvs H1 I1 r1 q1=>?_) (by rw[hs,hs2]) (by rw[hs2];rfl)));refine An λG' kk'=>?_;obtain⟨a,b,xs,ys,e,hx,hy,q⟩:=q1;refine kk' ?_;clear kk';subst e;cases r1 with
 |cons r rr=>
  cases rr with
  |cons r' rr=>
   cases rr;cases(show _=AC a from r);cases(show _=AC b from r');obtain⟨Bh,rv,pl,_⟩:=I1.list hx;obtain⟨jts,rv',pl',_⟩:=I1.list hy;refine call_zip_2 pl.isList pl'.isList λh' z t o l1 l2 hz old=>?_;have I2:A4 X Ae U H1 {s1 with heap:=h' }:=I1.kept λb o e=>old b o e;have hN:∀i j,i≠j->(s1.heap.objs.size+i:Nat)≠s1.heap.objs.size+j:=λi j h=>by ext
   refine VW z ?_;refine⟨_,[s1.heap.objs.size+4,s1.heap.objs.size+2,s1.heap.objs.size+3,s1.heap.objs.size,s1.heap.objs.size+1],_,_,H1,rfl,I2,uh _ _ _ _ _ a b,⟨hN 2 4 (by decide),hN 3 4 (by decide),hN 0 4 (by decide),hN 1 4 (by decide),hN 2 3 (by decide),hN 2 0 (by decide),hN 2 1 (by decide),hN 3 0 (by decide),hN 3 1 (by decide),hN 0 1 (by decide),z,t,⟨_,_,o⟩,l1,l2⟩,λc hc=>?_,q⟩
   have hge:s1.heap.objs.size<=c:=by
    simp only[BA,AR,or_false]at hc;rcases hc with rfl|rfl|rfl|rfl|rfl
    .exact GC _ _
    .exact GC _ _
    .exact GC _ _
    .exact AH _
    .exact GC _ _
   exact I1.fpOk hge (I1.hok.fresh hge)
noncomputable abbrev Cx.fr (X:Cx)(f:Av×Obj×HO):Cx:={X with fz:=f::X.fz}
theorem A4.unfr (I:A4 (X.fr f) Ae U H s):A4 X Ae U H s:=
 ⟨{I.ok with},I.os,I.bare,I.base,I.loc,I.cell,I.free,I.freeC,I.pin,I.hok,I.len,λg hg=>I.fzd g (AF _ hg)⟩
theorem A4.freeze (I:A4 X Ae U H s)(rd:Rd H a (.dK ks)) :
  ∃ob,A4 (X.fr (a,ob,.dK ks)) Ae U (Cv H a (.frz ob (.dK ks))) s:=by
 have fin:∀{H':Hp} {ob:Obj},A4 X Ae U H' s->H' a=some (.frz ob (.dK ks))->A4 (X.fr (a,ob,.dK ks)) Ae U H' s:=λ{H' ob} J e=>
  ⟨{ J.ok with },J.os,J.bare,J.base,J.loc,J.cell,J.free,J.freeC,J.pin,J.hok,J.len,λg hg=>by
   rcases Bc.mp hg with rfl|hg
   .exact e
   .exact J.fzd g hg⟩
 rcases rd with e|⟨ob,e⟩
 .obtain⟨z,hd,vs,rel,dd⟩:=S4 I.hok (.inl e);obtain⟨ep,ob,es,eo,_⟩:=dd.dictAt;refine⟨ob,fin ?_ L1⟩;have ne:∀b u,H b=some u->u≠.dK ks->b≠a:=λb u q n z=>by rw[z,e]at q;exact n (A8 q).symm
  have hu:∀b u,H b=some u->u≠.dK ks->Cv H a (.frz ob (.dK ks)) b=some u:=λb u q n=>by rw[HL (ne b u q n)];exact q
  refine I.step (ch:=[]) (λ_ z=>nomatch z) (λb o _ _ _ q _=>q) (λb o _ _ _ q _=>⟨o.slots,q⟩)
   (λb o _ q n=>by rw[HL (λz=>by rw[z,e]at n;cases n)];exact n) (λb o _ q=>⟨o,q⟩) (λb xs q=>hu b _ q (by simp)) (λb o u q=>hu b _ q (by simp)) (λb ps q=>⟨#[],by rw[hu b _ q (by simp)];simp⟩) (λm hm=>hm) (λb u q=>?_) I.bare
  by_cases hb:b=a
  .subst hb;rw[L1]at q;cases q;exact⟨eo,(I.hok b _ e).stay (λ_ _ _ q=>q) (λc q=>hu c _ q (by simp)) λc xs q=>hu c _ q (by simp)⟩
  .rw[HL hb]at q;exact(I.hok b u q).stay (λ_ _ _ q=>q) (λc q=>hu c _ q (by simp)) λc xs q=>hu c _ q (by simp)
 .refine⟨ob,fin ?_ L1⟩
  have z:Cv H a (.frz ob (.dK ks))=H:=funext λb=>by
   by_cases hb:b=a
   .subst hb;rw[L1,e]
   .rw[HL hb]
  rw[z];exact I
noncomputable def UM (ks:List (Co×V)):It:=⟨λi _=>i<ks.length,λi H x H'=>H'=H/\∃p,ks[i]? = some p/\x=kV p.1,λi _=>ks.length<=i⟩
theorem c8 {ks:List (Co×V)}{vs:List (Co×Ah)}(rel:KV ks vs){i:Nat}(h:i<ks.length):∃k v v',ks[i]? = some (k,v)/\vs[i]? = some (k,v'):=by
 have hk:=rel.keys;have hl:=rel.length;have h1:(ks.map (·.1))[i]? = (vs.map (·.1))[i]?:=by rw[hk]
 rw[AJ,AJ,Af h,Af (by omega:i<vs.length)]at h1;have h2:ks[i].1=vs[i].1:=by simpa using h1
 exact⟨ks[i].1,ks[i].2,vs[i].2,Af h,by rw[h2];exact Af (by ext)⟩
theorem vx {K:Ac}(a it)(hF:(a,ob,HO.dK ks)∈F)(rel:KV ks vs)(da:Heap.DictAt (BO P w) h0 a vs ep)(h0a:h0.get? a=some ob) :
  LF P w K F tg (UM ks) [it] it (λi h=>h.IsKeyIter it a i vs.length ep) where
 mem:=by simp
 obj:=λi h st b hb=>by
  have e:b=it:=by simpa using hb
  subst e;obtain⟨o,e,c,d⟩:=st;exact⟨o,e,λv z=>by rw[d]at z;cases z⟩
 keep:=λi h h' st k=>st.at λo e=>k it (by simp) o e
 item:=by
  intro X hP hw hK hF' hc i Ae s U H E I hf st hg;subst hP hw hK hF';obtain⟨k,v,v',e1,e2⟩:=c8 rel (show i<ks.length from hg);have ea:=I.fzd _ hF;have go:=(show Do X.prog X.w H s.heap a (.frz ob (.dK ks))from I.hok a _ ea).1;have da':=da.at' λo e=>by rw[h0a]at e;cases e;exact go
  obtain⟨f0,f1,f2,f3,f4,f5⟩:=hf it (by simp);refine wpAny_pyNext_dict_item st da' e2 λkey h' isk st' sb=>?_;have I1:A4 X Ae U H {s with heap:=h' }:=I.turned (λb o hb e=>(sb.2 b hb).trans e) f0 f1 f3 f4 f5;obtain⟨o,e,c,d⟩:=id st';exact⟨key,rfl,Vw e c d (by decide) ⟨kV k,H,I1,az isk,⟨rfl,_,e1,rfl⟩,st',λb hb=>(hf b hb).1⟩⟩
 done:=by
  intro X hP hw hK hF' hc i Ae s U H E I hf st hg;subst hP hw hK hF';have ea:=I.fzd _ hF;have go:=(show Do X.prog X.w H s.heap a (.frz ob (.dK ks))from I.hok a _ ea).1;have da':=da.at' λo e=>by rw[h0a]at e;cases e;exact go
  obtain⟨f0,f1,f2,f3,f4,f5⟩:=hf it (by simp);have hl:=rel.length;have hg':ks.length<=i:=hg;exact wpAny_pyNext_dict_end (I.ok.hd hc) st da' (Eu.mpr (by ext)) λh' eb=>⟨rfl,I.turned (λb o hb e=>eb b o hb e) f0 f1 f3 f4 f5⟩
 self:=λ_ _ _ _ _ st h=>wpAny_pyIter_keyiter st h
theorem oW {X:Cx}(hl:PE X l tl)(hF:(a,ob,HO.dK ks)∈X.fz):PI X tg l (λU H R=>tl U H λv H1=>v=.ref a/\R (UM ks) H1):=by
 intro Ae s U H R I h;refine Dl (hl Ae s U H _ I h) λu s1 e=>e.el λv H1 I1 r ⟨e,q⟩=>?_;subst e;cases(show u=AC a from r);have ea:=I1.fzd _ hF;obtain⟨z,hd,vs,rel,dd⟩:=S4 I1.hok (.inr ⟨ob,ea⟩);obtain⟨ep,da⟩:=dd.dictAt;have go:=(show Do X.prog X.w H1 s1.heap a (.frz ob (.dK ks))from I1.hok a _ ea).1;refine wpAny_pyIter_dict hd da ?_;have I2:A4 X Ae U H1 {s1 with heap:=s1.heap.push {cls:=.type "dict_keyiterator",data:=.fields #[.ref a,.int 0 0,.int (vs.length:Int) 0,.int (ep:Int) 0]} }:=I1.kept λb o e=>Ag _ e;refine⟨s1.heap.objs.size,[s1.heap.objs.size],_,_,H1,rfl,I2,vx a _ hF rel da go,⟨_,Ax _ rfl,rfl,rfl⟩,λb hb=>?_,q⟩;have e:b=s1.heap.objs.size:=by simpa using hb
 subst e;exact I1.fpOk (AH _) (I1.hok.fresh (AH _))
end L2
namespace L3
open PySem PySem.Spec PyProof.Rows L2
unseal BU Hv Jf Gj JW GL Dw Cf FR BP Fz Gc Ku Hq EF
section
noncomputable def KS (xs ys:List D):List D:=(xs.zip ys).map λp=>.tup [p.1,p.2]
theorem uk {xs ys:List D}{i:Nat}{d:D}(h:(KS xs ys)[i]? = some d):∃x y,xs[i]? = some x/\ys[i]? = some y/\d=.tup [x,y]:=by
 unfold KS at h;rw[AJ]at h;cases e:(xs.zip ys)[i]? with
 |none=>rw[e]at h;cases h
 |some p=>rw[e]at h;rw[List.getElem?_zip_eq_some]at e;exact⟨p.1,p.2,e.1,e.2,(A8 h).symm⟩
theorem ul (xs ys:List D):(KS xs ys).length=min xs.length ys.length:=by unfold KS;rw[Ab,Rv]
def Ww (t:JV):MN:=λτ M R=>t τ M λds M1=>Fw ds λx y=>Cw (Bi M1 x) λxs=>Cw (Bi M1 y) λys=>R (KS xs ys) (λM=>Bi M x=some xs/\Bi M y=some ys) M1
theorem fo {es:List B8}{n:Nat}{tp:Pos}{a b:B8}{ta:JV}{p pos:Pos}(hm:X.mg "zip" = none)(ha:Gj X [a,b] ta)(hg:Gl X "zip":=by rfl)(hs:Au [a,b] X.env=[(false,eval a X.env),(false,eval b X.env)]:=by rfl)(hs2:Au [b] X.env=[(false,eval b X.env)]:=by rfl) :
  Hq X (.Tuple es n tp) (.Call (.Name "zip" p) [a,b] [] pos) (Ww ta):=PI.mono (d9 hg hm ha hs hs2) (by
 intro U H R;ext1⟨Z,τ,M,R2,st,hr,h,k⟩;refine ⟨Z,τ,M,_,st,hr,h,λZ1 vs ds H1 M1 l1 h1 a1 q1=>?_⟩;obtain ⟨x,y,rfl,q0⟩:=NE q1;obtain ⟨xs,e,q0⟩:=Cj q0;obtain ⟨ys,e',q⟩:=Cj q0;obtain ⟨v,w,rfl,a2,a3⟩:=OU a1;obtain ⟨p,ws,rfl,hs,b2⟩:=h1.rdL e a2;obtain ⟨p',ws',rfl,hs',b3⟩:=h1.rdL e' a3;refine ⟨p,p',ws,ws',rfl,hs,hs',k Z1 _ (KS xs ys) _ H1 M1 l1 h1 (λi H M Z' l hr s=>?_) q⟩;obtain ⟨q,us,e2,hu,c2⟩:=hr.rdL s.1 (a2.mono l);cases e2;obtain ⟨q',us',e3,hu',c3⟩:=hr.rdL s.2 (a3.mono l);cases e3;have lu:=c2.length;have lu':=c3.length;refine ⟨λd hd=>?_,λhi=>⟨us,us',hu,hu',by rw [ul] at hi;ext⟩⟩;obtain ⟨d1,d2,g1,g2,rfl⟩:=uk hd;obtain ⟨v1,hv1,av1⟩:=c2.get g1;obtain ⟨v2,hv2,av2⟩:=c3.get g2;refine ⟨⟨us,us',v1,v2,hu,hu',hv1,hv2⟩,λz H' yl=>?_⟩;refine An λG' kk'=>?_;obtain ⟨r,x',y',e1',hn,e2',f1,f2⟩:=yl;refine kk' ?_;clear kk';subst e1' e2';have z1:=f1 us hu;rw [hv1] at z1;cases z1;have z2:=f2 us' hu';rw [hv2] at z2;cases z2;exact ⟨_,Le.ext,hr.newT hn (.cons av1 (.cons av2 .nil)),⟨r,rfl,.inr ⟨rfl,rfl⟩⟩⟩)
noncomputable def capT (τ:Gy)(caps:List (Str×Nat))(ds:List D):Gy:=ds.map some++caps.map λc=>(τ[c.2]?).join
theorem Gx.capT (h:Gx Z U τ)(caps:List (Str×Nat)):∀{us:List V}{ds:List D},Dm Z us ds->Gx Z (Fg U caps (us.map some)) (capT τ caps ds)
 |[],[],.nil=>by
  unfold Fg L3.capT;rw[DB,DB,FE,FE];induction caps with
  |nil=>exact .nil
  |cons c r ih=>exact .cons (h.join c.2) ih
 |_::_,_::_,.cons a r=>.cons a (Gx.capT h caps r)
def Lh (n:Nat)(xs:List D)(S:Mp->Prop)(caps:List (Str×Nat))(tt:Ks)(te:DQ)(τ:Gy)(M:Mp)(Q:List D->Mp->Prop):Prop:=xs.length<=Am/\∃W:Nat->List D->Mp->Prop,W 0 [] M/\(∀i ys M,W i ys M->S M/\ys.length<=i) /\
 (∀i x ys M,xs[i]? = some x->W i ys M->∃us,x=.tup us/\us.length=n/\tt (capT τ caps us) M λb M2=>if b=true then te (capT τ caps us) M2 λy M3=>W (i+1) (ys++[y]) M3 else W (i+1) ys M2)/\∀ys M,W xs.length ys M->Q ys M
theorem xo {K:Ac}(st:Gx Z U τ)(hr:HR K H M Z)(h:wi τ M λxs S M1=>Lh n xs S caps tt te τ M1 QL)
  (ht:∀U H Q,lT K tt U H Q->tt1 U H Q)
  (k:∀Z1 H1 M1 vs ds,Le Z Z1->HR K H1 M1 Z1->Dm Z1 vs ds->QL ds M1->∀p,H1 p=none->Q (.ref p) (Cv H1 p (.lst vs))):Nw (lI K wi) n caps tt1 (lE K te) K U H Q:=by
 refine⟨Z,τ,M,_,st,hr,h,λZ1 J xs S H1 M1 l1 h1 jk ⟨hz,W,w0,stay,turn,done⟩=>?_⟩;refine⟨xs.length,λi vs H=>i<=xs.length/\∃Z2 M2 ds,Le Z1 Z2/\HR K H M2 Z2/\Dm Z2 vs ds/\W i ds M2,⟨DO _,Z1,M1,[],Le.refl _,h1,.nil,w0⟩,?_⟩;intro i vs H2;ext1⟨hi,Z2,M2,ds,l2,h2,a2,w2⟩;obtain⟨s2,hl⟩:=stay i ds M2 w2;obtain⟨go,stop⟩:=jk i H2 M2 Z2 l2 h2 s2;have la:=a2.length;by_cases hlt:i<xs.length
 .obtain⟨g1,g2⟩:=go _ (Af hlt);refine .inr ⟨g1,hlt,by ext,λx H' y=>?_⟩;obtain⟨Z5,l5,h5,a⟩:=g2 x H' y;obtain⟨ds5,ex,hl5,tk⟩:=turn i _ ds M2 (Af hlt) w2;rw[ex]at a;obtain⟨p5,us,rfl,hs5,a5⟩:=h5.rdT a;have l2:=l2.trans l5;have a2:=a2.mono l5;refine⟨p5,us,rfl,hs5,a5.length.trans hl5,?_⟩;refine ht _ _ _ (lT.bind ((st.mono (l1.trans l2)).capT caps a5) h5 tk λZ3 b H3 M3 l3 h3 q3=>?_);cases b with
  |false=>rw[if_neg Aj]at q3 ⊢;exact⟨hlt,Z3,M3,ds,l2.trans l3,h3,a2.mono l3,q3⟩
  |true=>rw[if_pos rfl]at q3 ⊢;refine lE.bind (((st.mono (l1.trans l2)).capT caps a5).mono l3) h3 q3 λZ4 z dz H4 M4 l4 h4 a4 q4=>?_;exact⟨hlt,Z4,M4,ds++[dz],l2.trans (l3.trans l4),h4,(a2.mono (l3.trans l4)).append (.cons a4 .nil),q4⟩
 .have e:i=xs.length:=by ext
  subst e;exact .inl ⟨stop (AH _),by ext,k Z2 H2 M2 vs ds (l1.trans l2) h2 a2 (done ds M2 w2)⟩
noncomputable def XR:D->Option (List (Co×D))
 |.dic kvs=>some kvs
 |_=>none
theorem HR.frzH {K:Ac}(h:HR K H M Z)(z:Z p (.dic kvs))(rd:Rd H p (.dK ks)):HR K (Cv H p (.frz ob (.dK ks))) M Z:=by
 have hM:M p=none:=by
  cases e:M p with
  |none=>rfl
  |some o=>exact((h.m p o e).1 _ z).elim
 have key:∀{d:D},HB H Z p d->HB (Cv H p (.frz ob (.dK ks))) Z p d:=λ{d} hb=>by
  cases d with
  |dic ds=>
   obtain⟨vs,r,a⟩:=hb
   have e:HO.dK vs=HO.dK ks:=by
    rcases r with r|⟨o,r⟩<;>rcases rd with r' | ⟨o',r'⟩<;>rw[r]at r'<;>cases r'<;>rfl
   cases e;exact⟨_,.inr ⟨ob,L1⟩,a⟩
  |tup ds=>obtain⟨vs,r,a⟩:=hb;rcases rd with r' | ⟨o',r'⟩<;>rw[r]at r'<;>cases r'
  |dct ds=>obtain⟨vs,r,a⟩:=hb;rcases r with r|⟨o,r⟩<;>rcases rd with r' | ⟨o',r'⟩<;>rw[r]at r'<;>cases r'
  |lst ds=>obtain⟨vs,r,a⟩:=hb;rcases r with r|⟨o,r⟩<;>rcases rd with r' | ⟨o',r'⟩<;>rw[r]at r'<;>cases r'
  |_=>exact hb.elim
 refine⟨λb d q=>?_,λb w q=>?_⟩
 .by_cases hb:b=p
  .subst hb;rcases h.z b d q with k|k
   .exact .inl (key k)
   .exact .inr k
  .rcases h.z b d q with k|k
   .exact .inl (k.at (HL hb))
   .exact .inr k
 .have hb:b≠p:=λe=>by rw[e,hM]at q;cases q
  obtain⟨k1,k2⟩:=h.m b w q;exact⟨k1,k2.at (HL hb)⟩
def OL (t:DQ):MN:=λτ M R=>t τ M λx M1=>Cw (XR x) λkvs=>R (kvs.map λp=>kD p.1) (λ_=>True) M1
theorem mx {Z:Zt}{ks:List (Co×V)}{kvs:List (Co×D)}(a:CV Z ks kvs){i:Nat}{p:Co×V}(h:ks[i]? = some p):∃d,kvs[i]? = some (p.1,d):=by
 induction a generalizing i with
 |nil=>simp at h
 | @cons u d _ _ h1 _ ih=>
  cases i with
  |zero=>
   have e:u=p:=by simpa using h
   subst e;obtain⟨e1,_⟩:=h1;exact⟨d.2,by rw[e1];rfl⟩
  |succ i=>exact ih (by simpa using h)
theorem yZ (k):At Z (kV k) (kD k):=by cases k<;>rfl
theorem sk {K:Ac}{Z:Zt}{ks:List (Co×V)}{kvs:List (Co×D)}(a:CV Z ks kvs):YJ K (UM ks) (kvs.map λp=>kD p.1) (λ_=>True) Z:=λi H M Z' l hr s=>by
 have hl:=a.length;refine⟨λd hd=>?_,λhi=>by rw[Ab]at hi;show ks.length<=i;ext⟩;rw[AJ]at hd
 have hi:i<kvs.length:=by
  cases e:kvs[i]? with
  |none=>rw[e]at hd;cases hd
  |some p=>exact(Ai.mp e).1
 refine⟨show i<ks.length by ext,λx H' y=>?_⟩;obtain⟨rfl,p,e1,rfl⟩:=y;obtain⟨d',e2⟩:=mx a e1;rw[e2]at hd;cases hd;exact⟨Z',Le.refl _,hr,yZ _⟩
noncomputable def NK (k:Str):List Str->Option Nat
 |[]=>none
 |a::r=>if a=k then some 0 else(NK k r).map (·+1)
theorem rY :∀{xs:List Str}{j:Nat},NK k xs=some j->xs[j]? = some k/\∀m a,m<j->xs[m]? = some a->a≠k
 |[],j,h=>by cases h
 |a::r,j,h=>by
  unfold NK at h;by_cases e:a=k
  .rw[if_pos e]at h;cases h;exact⟨by rw[e];rfl,λm a hm=>by ext⟩
  .rw[if_neg e]at h;cases q:NK k r with
   |none=>rw[q]at h;cases h
   |some i=>
    rw[q]at h;cases h;obtain⟨h1,h2⟩:=rY q;refine⟨by simpa using h1,λm b hm hb=>?_⟩;cases m with
    |zero=>
     have:a=b:=by simpa using hb
     rw[<- this];exact e
    |succ m=>exact h2 m b (by have hm':m+1<i+1:=hm;ext) (by simpa using hb)
noncomputable def Em:List D->Option (List Str)
 |[]=>some []
 |.str a::r=>(Em r).map (a::·)
 |_::_=>none
theorem VI:∀{ds:List D}{ss:List Str},Em ds=some ss->ds=ss.map D.str
 |[],ss,h=>by cases h;rfl
 |.str a::r,ss,h=>by
  change(Em r).map (a::·)=_ at h;cases e:Em r with
  |none=>rw[e]at h;cases h
  |some t=>rw[e]at h;cases h;rw[AT,<- VI e]
 |.non::r,_,h | .int _::r,_,h | .bl _::r,_,h | .tup _::r,_,h | .lst _::r,_,h | .dic _::r,_,h | .dct _::r,_,h | .ref _::r,_,h | .ty _::r,_,h=>by cases h
theorem qW (hu:X.A.units+45<DV):EF X "list.index" (λx xs M Q=>Ga xs λy=>Gr y λk=>Cw (Bi M x) λds=>Cw (Em ds) λss=>Cw (NK k ss) λi=>Q (.int (i:Int)) M):=by
 intro Ae s U H x xs v us Q I rx r;ext1⟨Z,d,ds,M,Q2,hr,a,as,h,kk⟩;obtain⟨y,rfl,h1⟩:=G4 h;obtain⟨k,rfl,h2⟩:=D8 h1;obtain⟨zs,e,h3⟩:=Cj h2;obtain⟨ss,e2,h4⟩:=Cj h3;obtain⟨i,e3,q⟩:=Cj h4;obtain⟨p,ws,rfl,hs,a2⟩:=hr.rdL e a;cases(show v=AC p from rx);obtain⟨w,rfl,aw⟩:=Ic as;cases(show w=V.str k from aw);obtain⟨u,rfl,ru⟩:=GH r;obtain⟨t,rfl⟩:=ru;obtain⟨Bh,rv,⟨o,n,ho0,hc1,hc2,hc3⟩,hz⟩:=I.list hs
 have ho:s.heap.get? p=some {cls:=.type "list",dict:=o.dict,data:=.seq Bh.toArray n,slots:=o.slots}:=by
  rw[ho0];cases o
  simp_all
 have hzs:=VI e2;obtain⟨g1,g2⟩:=rY e3;have l1:=rv.length;have l2:=a2.length;have hi:=(Ai.mp g1).1;have hzl:zs.length=ss.length:=by rw[hzs,Ab]
 have at_:∀m (hm:m<Bh.toArray.size),∃a t,Bh.toArray[m]=DD a t/\ss[m]? = some a:=λm hm=>by
  obtain⟨v',d',_,e1,q1,z1⟩:=Ui rv a2 m hm;rw[hzs,AJ]at e1;cases e4:ss[m]? with
  |none=>rw[e4]at e1;cases e1
  |some b=>rw[e4]at e1;cases e1;cases(show v'=V.str b from q1);obtain⟨t',ht⟩:=z1;exact⟨b,t',ht,rfl⟩
 let ef:Ah->Bool:=λv=>match v with | .str a _=>decide (a=k) | _=>false
 have hsz:Bh.toArray.size=ss.length:=by simp;ext
 refine Iq F.slot_list_index ⟨_,ho,rfl⟩ F.entry_list_index (F.args_list_index_2 _ _) (SeqAt.list_indexAt p Bh.toArray n _ _ (.str k t) ef i (by ext) ?_ ?_ ?_) ⟨ho,?_,?_⟩
 .have:Am<2^62:=by decide
  ext
 .obtain⟨b,t',h5,h6⟩:=at_ i (by ext);rw[h5];rw[g1]at h6;cases h6;simp[ef]
 .intro m hm hlt;obtain⟨b,t',h5,h6⟩:=at_ m hm;rw[h5];simp[ef,g2 m b hlt h6]
 .intro y hy;obtain⟨m,hm,rfl⟩:=Array.mem_iff_getElem.mp hy;obtain⟨b,t',h5,h6⟩:=at_ m hm;rw[h5];exact gR I hr 1 (x:=.str b) (y:=.str k) rfl rfl ⟨t',rfl⟩ ⟨t,rfl⟩ (by show X.A.units+1+1<DV;ext) rfl
 .exact⟨.int i,H,I.tok _,⟨_,rfl⟩,kk.i hr q⟩
theorem wa (as bs:List Int):KS (as.map D.int) (bs.map D.int)=(as.zip bs).map λp=>.tup [.int p.1,.int p.2]:=by
 unfold KS;rw[List.zip_map,BI];rfl
theorem rW (f):∀as bs:List Int,((as.zip bs).map λp=>D.int (f p.1 p.2))=(as.zipWith f bs).map D.int
 |[],_=>rfl
 |_::_,[]=>rfl
 |a::as,b::bs=>by
  show D.int (f a b)::(as.zip bs).map _=D.int (f a b)::(as.zipWith f bs).map D.int;rw[rW f as bs]
theorem Lh.ints {as bs:List Int}(f:Int->Int->Int)(hz:as.length<=Am)(hS:S M)(h:∀a b,(a,b)∈as.zip bs->∀R:Ef,R (.int (f a b)) M->te (capT τ caps [.int a,.int b]) M R)(q:Q ((as.zipWith f bs).map D.int) M):Lh 2 (KS (as.map D.int) (bs.map D.int)) S caps Ha te τ M Q:=by
 rw[wa];refine⟨by rw[Ab,Rv];ext,λi ys M'=>M'=M/\ys=((as.zip bs).take i).map λp=>D.int (f p.1 p.2),⟨rfl,rfl⟩,?_,?_,?_⟩
 .rintro i ys M' ⟨rfl,rfl⟩;exact⟨hS,by rw[Ab,A6];ext⟩
 .rintro i x ys M' hx ⟨rfl,rfl⟩;rw[AJ]at hx;cases e:(as.zip bs)[i]? with
  |none=>rw[e]at hx;cases hx
  |some p=>rw[e]at hx;refine⟨_,(A8 hx).symm,rfl,?_⟩;unfold Ha;dsimp only;rw[if_pos rfl];exact h p.1 p.2 (AE e) _ ⟨rfl,by rw[BE,e,AM];rfl⟩
 .rintro ys M' ⟨rfl,rfl⟩;rw[Ab,BD];rw[rW f as bs];exact q
end
end L3
namespace L2
open PySem PySem.Spec PyProof.Rows L3
noncomputable def xB (x:Str):It:=⟨λi _=>i<x.cps.size,λi H v H'=>H'=H/\∃c,x.cps[i]? = some c/\v=.str ⟨#[c]⟩,λi _=>x.cps.size<=i⟩
theorem ug {K:Ac}(it)(x)(t:Tok):LF P w K F tg (xB x) [it] it (λi h=>h.IsStrIter it "str_ascii_iterator" x t i) where
 mem:=by simp
 obj:=λi h st b hb=>by
  have e:b=it:=by simpa using hb
  subst e;obtain⟨o,e,c,d⟩:=st;exact⟨o,e,λv z=>by rw[d]at z;cases z⟩
 keep:=λi h h' st k=>by
  obtain⟨o,e,c,d⟩:=st;exact⟨o,k it (by simp) o e,c,d⟩
 item:=by
  intro X hP hw hK hF hc i Ae s U H E I hf st hg;subst hP hw hK;have hi:=hg;obtain⟨f0,f1,f2,f3,f4,f5⟩:=hf it (by simp);refine wpAny_pyNext_ascii_item st (AW hi) λh' st' sb=>?_;have I1:A4 X Ae U H {s with heap:=h',toks:=s.toks+1}:=I.turned (λb o hb e=>(sb.2 b hb).trans e) f0 f1 f3 f4 f5;obtain⟨o,e,c,d⟩:=id st';exact⟨_,rfl,Vw e c d (by decide) ⟨.str ⟨#[x.cps[i]]⟩,H,I1,⟨_,rfl⟩,⟨rfl,_,AW hi,rfl⟩,st',λb hb=>(hf b hb).1⟩⟩
 done:=by
  intro X hP hw hK hF hc i Ae s U H E I hf st hg;subst hP hw hK;have hg':=hg;obtain⟨f0,f1,f2,f3,f4,f5⟩:=hf it (by simp);exact wpAny_pyNext_ascii_end (I.ok.hd hc) st (DN hg') λh' eb=>⟨rfl,I.turned (λb o hb e=>eb b o hb e) f0 f1 f3 f4 f5⟩
 self:=λ_ _ _ _ _ st h=>wpAny_pyIter_striter_ascii st h
theorem dq {X:Cx}{tg l:B8}{tl:TE}(hl:PE X l tl):PI X tg l (λU H R=>tl U H λv H1=>∃x,v=.str x/\(x.cps.all λc=>decide (c<128))=true/\R (xB x) H1):=by
 intro Ae s U H R I h;refine Dl (hl Ae s U H _ I h) λu s1 e=>e.el λv H1 I1 r ⟨x,e,ha,q⟩=>?_;subst e;obtain⟨t,rfl⟩:=r;refine wpAny_pyIter_ascii ha ?_;have I2:A4 X Ae U H1 {s1 with heap:=s1.heap.push {cls:=.type "str_ascii_iterator",data:=.fields #[.str x t,.int 0 0]} }:=I1.kept λb o e=>Ag _ e;refine⟨s1.heap.objs.size,[s1.heap.objs.size],_,_,H1,rfl,I2,ug _ x t,⟨_,Ax _ rfl,rfl,rfl⟩,λb hb=>?_,q⟩;have e:b=s1.heap.objs.size:=by simpa using hb
 subst e;exact I1.fpOk (AH _) (I1.hok.fresh (AH _))
theorem vq :FS X (Bb .LtE) (λx y H Q=>∃i j,x=.str i/\y=.str j/\Q (.bl (!decide (j.cps.toList<i.cps.toList))) H):=by
 intro Ae s U H x y v u Q I rx ry h;obtain⟨i,j,rfl,rfl,q⟩:=h;obtain⟨t,rfl⟩:=rx;obtain⟨t',rfl⟩:=ry;exact richCompare_gives (op:=.LtE) (MR _ _ _) (MR _ _ _) PySem.F.slot_str_le PySem.F.entry_str_le (PySem.F.args_str_le_2 _ _) (PySem.gives_str_le i j t t') (by simp[Made.takes]) (Ij I q rfl)
end L2
namespace L3
open PySem PySem.Spec PyProof.Rows L2
unseal BU Hv Jf Gj JW GL Dw Cf FR BP Fz Gc Ku Hq EF
section
noncomputable def Ka (z:Str):List D:=z.cps.toList.map λc=>.str ⟨#[c]⟩
def Wy (t:DQ):MN:=λτ M R=>t τ M λx M1=>Gr x λz=>(z.cps.all λc=>decide (c<128))=true/\R (Ka z) (λ_=>True) M1
theorem fj (hl:BU X l tl):Hq X tg l (Wy tl):=PI.mono (dq hl) (by
 intro U H R;ext1⟨Z,τ,M,R2,st,hr,h,k⟩;refine lE.bind st hr h λZ1 v d H1 M1 l1 h1 a1 q1=>?_;obtain⟨z,rfl,ha,q⟩:=D8 q1;refine⟨z,a1,ha,k Z1 _ (Ka z) _ H1 M1 l1 h1 (λi H M Z' l hr s=>?_) q⟩;unfold Ka;refine⟨λd hd=>?_,λhi=>by rw[Ab,Bt]at hi;exact hi⟩;rw[AJ,C3]at hd;cases e:z.cps[i]? with
 |none=>rw[e]at hd;cases hd
 | some c=>rw [e] at hd;cases hd;refine ⟨(Ee.mp e).1,λx H' y=>?_⟩;obtain ⟨rfl,c',e',rfl⟩:=y;rw [e] at e';cases e';exact ⟨Z',Le.refl _,hr,rfl⟩)
theorem sK:Cf X (Bb .LtE) (λx y M Q=>Gr x λi=>Gr y λj=>Q (.bl (!decide (j.cps.toList<i.cps.toList))) M):=FS.mono vq (by
 intro x y H Q;ext1⟨Z,dx,dy,M,Q2,hr,ax,ay,h,k⟩;obtain ⟨i,rfl,h1⟩:=D8 h;obtain ⟨j,rfl,q⟩:=D8 h1;exact ⟨i,j,ax,ay,k.b hr q⟩)
noncomputable def Iz:List D->Option (List Bool)
 |[]=>some []
 |.bl b::r=>(Iz r).map (b::·)
 |_::_=>none
theorem tG:∀{ds:List D}{bs:List Bool},Iz ds=some bs->ds=bs.map D.bl
 |[],bs,h=>by cases h;rfl
 |.bl a::r,bs,h=>by
  change(Iz r).map (a::·)=_ at h;cases e:Iz r with
  |none=>rw[e]at h;cases h
  |some t=>rw[e]at h;cases h;rw[AT,<- tG e]
 |.non::r,_,h | .int _::r,_,h | .str _::r,_,h | .tup _::r,_,h | .lst _::r,_,h | .dic _::r,_,h | .dct _::r,_,h | .ref _::r,_,h | .ty _::r,_,h=>by cases h
theorem jS:∀bs,Iz (bs.map D.bl)=some bs
 |[]=>rfl
 |b::r=>by
  show(Iz (r.map D.bl)).map (b::·)=_;rw[jS r];rfl
theorem va (bs:List Bool):(Bk bs.length).all (λi=>bs.getD i true)=bs.all id:=by
 induction bs with
 |nil=>rfl
 |cons b r ih=>rw[AK,Es,F6,PJ,F6];congr 1
theorem mQ (hc:X.calm=true):BP X (.builtin "all") (λxs M Q=>Ga xs λx=>Cw (Bi M x) λds=>Cw (Iz ds) λbs=>Q (.bl (bs.all id)) M):=by
 intro Ae s U H xs us Q I r;ext1⟨Z,ds,M,Q2,hr,a,h,k⟩;obtain⟨x,rfl,h1⟩:=G4 h;obtain⟨zs,e,h2⟩:=Cj h1;obtain⟨bs,e2,q⟩:=Cj h2;obtain⟨v,rfl,av⟩:=Ic a;obtain⟨p,ws,rfl,hs,a2⟩:=hr.rdL e av;obtain⟨u,rfl,ru⟩:=GH r;cases(show u=AC p from ru);obtain⟨Bh,rv,pl,hz⟩:=I.list hs;have hzs:=tG e2;have l1:=rv.length;have l2:=a2.length;have hzl:zs.length=bs.length:=by rw[hzs,Ab]
 have hsz:Bh.toArray.size=bs.length:=by simp;ext
 refine call_all_walkS (Hr pl.isList ?_)
 have hlt:p<s.heap.objs.size:=by
  obtain⟨o,eo,_⟩:=pl.isList;exact Ap eo
 have hne:=A5 hlt;refine⟨s.heap.objs.size,[s.heap.objs.size,p],[s.heap.objs.size],_,Bh.toArray.size,_,_,λi=>bs.getD i true,rfl,(V3 (show X.A.in1.handled=none from I.ok.hd hc) s.heap.objs.size p hne Bh.toArray).toS,⟨⟨_,Ax _ rfl,rfl,rfl⟩,?_⟩,?_,?_⟩
 .obtain⟨o,eo,c1,n,c2⟩:=pl.isList;exact⟨o,Ag _ eo,c1,n,c2⟩
 .intro i v s' Q' E' hv hq;have hi:=(Ee.mp hv).1;obtain⟨v',d',_,e1,q1,z1⟩:=Ui rv a2 i hi;rw[hzs,AJ]at e1;cases e4:bs[i]? with
  |none=>rw[e4]at e1;cases e1
  |some b=>
   rw[e4]at e1;cases e1;cases(show v'=V.bl b from q1)
   have hb:v=KJ b:=by
    have h3:=z1;rw[AW hi,h3]at hv;exact(A8 hv).symm
   subst hb
   have hq':Q' b s':=by
    have:bs.getD i true=b:=by rw[Ch,e4];rfl
    have hq2:Q' (bs.getD i true) s':=hq;rw[this]at hq2;exact hq2
   exact Er hq'
 .intro s' mv;rw[hsz,va];obtain⟨m1,m2,m3,m4,m5⟩:=mv;obtain⟨h',g',d',t',o'⟩:=s';have e1:=m2;have e2:=m3;have e3:=m4;subst e1 e2 e3;refine⟨.bl _,H,I.kept λb o eb=>m1 b o (λhb=>?_) (Ag _ eb),rfl,k.b hr q⟩;have:b=s.heap.objs.size:=by simpa using hb
  rw[this]at eb;exact absurd (Ap eb) (EI _)
theorem Eg.of {α:Type}{ks:List α}{g f:α->D}{S:Mp->Prop}{caps:List (Str×Nat)}{te:DQ}{τ:Gy}{M:Mp}{Q:List D->Mp->Prop}(hz:ks.length<=Am)(hS:S M)(h:∀k∈ks,∀R:Ef,R (f k) M->te (LB τ caps (some (g k))) M R)(q:Q (ks.map f) M):Eg (ks.map g) S caps Ha te τ M Q:=by
 refine⟨by rw[Ab];exact hz,λi ys M'=>M'=M/\ys=(ks.take i).map f,⟨rfl,rfl⟩,?_,?_,?_⟩
 .rintro i ys M' ⟨rfl,rfl⟩;exact⟨hS,by rw[Ab,A6];ext⟩
 .rintro i x ys M' hx ⟨rfl,rfl⟩;rw[AJ]at hx;cases e:ks[i]? with
  |none=>rw[e]at hx;cases hx
  |some k=>rw[e]at hx;cases hx;unfold Ha;dsimp only;rw[if_pos rfl];exact h k (AE e) _ ⟨rfl,by rw[BE,e,AM];rfl⟩
 .rintro ys M' ⟨rfl,rfl⟩;rw[Ab,BD];exact q
end
end L3
namespace L2
open PySem PySem.Spec PyProof.Rows L3
end L2
namespace L3
open PySem PySem.Spec PyProof.Rows L2
unseal BU Hv Jf Gj JW GL Dw Cf FR BP Fz Gc Ku Hq EF
end L3
namespace L2
open PySem PySem.Spec PyProof.Rows L3
theorem Zfp (t:C6)(n:Nat):(t.orStandIn n).led=t.led:=by
 unfold SetTable.orStandIn;split<;>rfl
theorem xw (t:C6)(es:Array (Int×Ah))(h:Int)(x:Ah):(layNew t es h x).2.1.led=t.led:=by
 unfold layNew;split
 .next slot wd e=>
  show((t.put slot).1.orStandIn _).led=_;rw[Zfp];rfl
 .rfl
theorem z6 (t)(es)(n):(HQ t es n).2.1.led=t.led:=by
 unfold HQ;split
 .next t' order e=>
  have e2:t'.led=t.led:=by
   unfold Oy Kk at e;cases q:Nc (Ew n-1) (es.map (·.1))with
   |none=>rw[q]at e;cases e
   |some o=>rw[q]at e;cases e;rfl
  dsimp only;split
  .exact e2
  .rfl
 .rfl
theorem Zed (t)(es)(n)(h:t.plain=false):(HQ t es n).2.1.plain=false:=by
 unfold HQ;split
 .next t' order e=>
  have e2:t'.plain=t.plain:=by
   unfold Oy Kk at e;cases q:Nc (Ew n-1) (es.map (·.1))with
   |none=>rw[q]at e;cases e
   |some o=>rw[q]at e;cases e;rfl
  dsimp only;split
  .rw[<- h];exact e2
  .rfl
 .rfl
def IC (w:BK)(es:List (Int×Ah)):Prop:=∀e∈es,∃x t,e=(Fm w x,DD x t)
noncomputable def GI (es:List (Int×Ah)):List Str:=es.map λe=>strOf e.2
def CO (w:BK)(h:CH)(a:Av)(ks:List Str)(led:Bool):Prop:=
 ∃o es ep t,h.get? a=some o/\o.ExactSet/\o.data=Ig es ep t/\IC w es.toList/\(GI es.toList).Perm ks/\es.size<Be/\t.fits es.size=true/\t.led=led/\(es.size≠0->t.plain=false)
theorem IC.elems (h:IC w es):ElemsOf (By prog w) es:=λe he=>by
 obtain⟨x,t,rfl⟩:=h e he;exact⟨⟨x,by simp[By,DZ],rfl⟩,rfl⟩
theorem jL (h:IC w es)(hx:x∉GI es):es.findIdx? (λe=>(By prog w).is x e.2)=none:=by
 rw[Gv];intro e he;obtain⟨y,t,rfl⟩:=h e he;cases q:(By prog w).is x (DD y t)with
 |false=>rfl
 |true=>
  have:y=x:=by simpa[By,DZ]using q
  subst this;exact absurd (Ao.mpr ⟨_,he,rfl⟩) hx
theorem jM (h:IC w es)(hx:x∈GI es):∃j,es.findIdx? (λe=>(By prog w).is x e.2)=some j:=by
 cases q:es.findIdx? (λe=>(By prog w).is x e.2)with
 |some j=>exact⟨j,rfl⟩
 |none=>rw[Gv]at q;obtain⟨e,he,rfl⟩:=Ao.mp hx;obtain⟨y,t,rfl⟩:=h e he;have:=q _ he;simp[By,DZ,strOf]at this
theorem stored {s:CH}(ho:s.get? a=some o)(hex:o.ExactSet)(hd:o.data=Ig es ep t) :
  ∃o',(s.update a (Obj.putSet es1 t2)).get? a=some o'/\o'.ExactSet/\o'.data=Ig es1 (ep+1) t2:=by
 have e:=putSet_of es1 t2 hd;refine⟨_,Db _ ho ?_,?_,?_⟩
 .rw[e];obtain⟨h1,h2,h3⟩:=hex;simp[Obj.isFreed,h1]
 .rw[e];exact hex
 .rw[e]
theorem SI {g:Bool->Sem Unit}(hg:∀b s₁ Q',Q' () s₁->Ar (Az prog w) A (g b) Q' E s₁)
  (ho:s.heap.get? a=some o) (hex:o.ExactSet) (hd:o.data=Ig es ep t)
  (h1:IC w es1.toList) (hp:(GI es1.toList).Perm ks) (hsz:es1.size<Be) (hfit:t2.fits es1.size=true) (hled:t2.led=led) (hpl:t2.plain=false)
  (hR:∀h',Bx a s.heap h'->CO w h' a ks led->R (some true) {s with heap:=h' }) :
  Ar (Az prog w) A (do
   storeSet a es1 t2
   if (!wd && t2.tooFull)=true then do
    g (HQ t2 es1 (Ds es1.size)).2.2
    storeSet a (HQ t2 es1 (Ds es1.size)).1 (HQ t2 es1 (Ds es1.size)).2.1
    pure (some true)
   else pure (some true)) R E s:=by
 have hline:Be<=Am:=by decide
 obtain⟨o1,ho1,hex1,hd1⟩:=stored ho hex hd;refine Aa (Dz ho hd ?_ (by ext));split
 .refine Aa (hg _ _ _ ?_);have hperm:=relayAll_perm t2 es1 (Ds es1.size);have hfit3:=relayAll_fits t2 es1 (Ds es1.size);have hled3:=z6 t2 es1 (Ds es1.size);have hpl3:=Zed t2 es1 (Ds es1.size) hpl
  have hlen:(HQ t2 es1 (Ds es1.size)).1.size=es1.size:=by
   have:=hperm.length_eq;simpa using this
  obtain⟨o2,ho2,hex2,hd2⟩:=stored ho1 hex1 hd1;refine Aa (Dz ho1 hd1 (Ad (hR _ ((AZ _ _ _).trans (AZ _ _ _)) ⟨o2,_,_,_,ho2,hex2,hd2,λe he=>h1 e (hperm.mem_iff.mp he),?_,by ext,by rw[hlen]at hfit3 ⊢;exact hfit3,by rw[hled3];exact hled,λ_=>hpl3⟩)) (by ext));exact(hperm.map _).trans hp
 .exact Ad (hR _ (AZ _ _ _) ⟨o1,_,_,_,ho1,hex1,hd1,h1,hp,hsz,hfit,hled,λ_=>hpl⟩)
theorem jR (hS:CO w s.heap a ks led)(hn:ks.length+1<Be)
  (hQ:∀b h',Bx a s.heap h'->CO w h' a (if x∈ks then ks else ks++[x]) led->Q b {s with heap:=h' }):Ar (Az prog w) A (Io a (.str x t) (Fm w x)) Q E s:=by
 obtain⟨o,es,ep,tb,ho,hex,hd,hes,hp,hsz,hfit,hled,hpl⟩:_:=hS;unfold Io;refine BQ ?_;generalize hN:(99999:Nat)=N;rw[show(100000:Nat)=99999+1 from rfl,hN];rw[setAddHashedIn];refine Aa (A3 ho hd hfit ?_);dsimp only;rw[if_pos (byScan_of (knd:=By prog w) (x:=.str x t) rfl hsz hes.elems)];refine Aa ?_;unfold setAddByScan;refine Aa (FD (Aa (VU (knd:=By prog w) (k:=x) (by simp[By,DZ]) ho hd hfit hes.elems ?_)));by_cases hx:x∈ks
 .obtain⟨j,hj⟩:=jM (prog:=prog) hes (hp.mem_iff.mpr hx);rw[hj];refine Ad (Ad ?_);have z:=hQ false s.heap (CI _ _) (by rw[if_pos hx];exact⟨o,es,ep,tb,ho,hex,hd,hes,hp,hsz,hfit,hled,hpl⟩);exact z
 .rw[jL (prog:=prog) hes (λh=>hx (hp.mem_iff.mp h))];dsimp only;have lp:=layNew_perm tb es (Fm w x) (.str x t);have lf:=layNew_fits tb es (Fm w x) (.str x t);have ll:=xw tb es (Fm w x) (.str x t);generalize layNew tb es (Fm w x) (.str x t)=L at lp lf ll ⊢;obtain⟨es1,t1,wd,gv⟩:=L;dsimp only at lp lf ll ⊢
  have hok1:IC w es1.toList:=λe he=>by
   rcases Array.mem_push.mp (Fu.mp (lp.mem_iff.mp he))with h|h
   .exact hes e (Fu.mpr h)
   .exact⟨x,t,h⟩
  have hlen:es1.size=es.size+1:=by
   have:=lp.length_eq;simpa using this
  have hkl:(GI es.toList).length=es.size:=by unfold GI;rw[Ab,Bt]
  have hkl2:=hp.length_eq
  have hp1:(GI es1.toList).Perm (ks++[x]):=by
   have h2:(GI es1.toList).Perm (GI (es.push (Fm w x,DD x t)).toList):=lp.map _;refine h2.trans ?_;unfold GI;rw[Pm,AM];exact hp.append (C1 _)
  have gw:∀gv s₁ Q',Q' () s₁->Ar (Az prog w) A (match gv with | true=>Rl "set.scan.the-table-gave-way" |false=>pure ()) Q' E s₁:=λgv s₁ Q' h=>by
   cases gv with
   |true=>exact FD h
   |false=>exact Ad h
  refine Aa (gw gv s _ ?_);split
  .rw[hashByValue_scannable 8 (x:=.str x t) rfl];refine Aa (Ad ?_);refine SI (led:=led) gw ho hex hd hok1 hp1 (by ext) ?_ ?_ ?_ λh' sb hS=>?_
   .split
    .exact lf
    .exact SetTable.fits_plain_off lf
   .split
    .rw[ll];exact hled
    .show t1.led=led;rw[ll];exact hled
   .rfl
   .exact Ad (hQ true h' sb (by rw[if_neg hx];exact hS))
  .refine Aa (Ad ?_);refine SI (led:=led) gw ho hex hd hok1 hp1 (by ext) ?_ ?_ ?_ λh' sb hS=>?_
   .rw[if_pos rfl];exact lf
   .rw[if_pos rfl,ll];exact hled
   .rw[if_pos rfl];exact PQ.mpr (by assumption)
   .exact Ad (hQ true h' sb (by rw[if_neg hx];exact hS))
theorem zj (a)
  (h:Q₁ (.ref s.heap.objs.size) {s with heap:=s.heap.push {cls:=.type "set",dict:=none,data:=.set #[] 0 (.fresh 0 0 (!(w.params.followText "set-order")))} }) :
  DP (Az prog w) A (.call (.builtin "set.__new__") ⟨[.type "set",a],[]⟩) (wants Q₁ E) s:=by
 refine YQ ?_;show Ar _ A.in1 (do checkBuiltinCall "set.__new__" ⟨[.type "set",a],[]⟩;Nb (.builtin "set.__new__" ⟨[.type "set",a],[]⟩)) _ _ s;refine Aa (BY (PySem.F.newCall_set_1 a) (Ad ⟨FU F.plain_set_new _,Dy F.entry_set_new ?_⟩));rw[CN F.plain_set_new _];unfold D7.«set.__new__» Ry;have hsub:=Kx;obtain⟨hp,g,d,tk,os⟩:=s;dsimp only;wp_walk;refine Dd (Ad ?_);dsimp only;simp only[newObj];refine Aa (wpAny_alloc (Ad ?_));exact Ad h
noncomputable def fm (xs:List Str):List Str:=xs.foldl (λks x=>if x∈ks then ks else ks++[x]) []
theorem pU (xs)(x:Str):fm (xs++[x])=if x∈fm xs then fm xs else fm xs++[x]:=by
 unfold fm;rw[JB];rfl
theorem yf (xs:List Str):∀ks,(xs.foldl (λks x=>if x∈ks then ks else ks++[x]) ks).length<=ks.length+xs.length:=by
 induction xs with
 |nil=>intro ks;exact AH _
 |cons x xs ih=>
  intro ks;rw[DI,AK];refine A7 (ih _) ?_;split
  .ext
  .rw[As];simp only[Dg];ext
theorem Um (xs:List Str):(fm xs).length<=xs.length:=by
 have:=yf xs [];simpa[fm]using this
theorem CO.moved (hS:CO w s.heap S ks led)(hm:Moved wr G s s')(hn:S∉wr):CO w s'.heap S ks led:=by
 obtain⟨o,es,ep,t,ho,C8⟩:=hS;exact⟨o,es,ep,t,hm.heap S _ hn ho,C8⟩
section
variable          {St:Nat->Aq->Prop}
theorem vd (W:WalksS prog w A.in1 I fp wr G n P St)(S:Av)(hSf:S∉fp)(xs:List Str)(hx:xs.length=n)
  (hval:∀i v (h:i<xs.length),P i v->∃t,v=.str xs[i] t) (hb:n+1<Be) (led:Bool) :
  ∀k i s,n-i=k->i<=n->St i s ->
   CO w s.heap S (fm (xs.take i)) led ->
   (∀s',Moved (S::wr) G s s'->CO w s'.heap S (fm xs) led->R (.ok (.ret .none)) s') ->
   DP (Az prog w) A (.builtin "set.update.loop" ⟨[.ref S,.ref I],[]⟩) R s:=by
 have hSw:S∉wr:=λh=>hSf (W.sub _ h);have hsub:∀b∈wr,b∈S::wr:=λb hb=>AF _ hb;intro k;induction k with
 |zero=>
  intro i s hk hi hst hS hR;have hin:i=n:=by ext
  subst hin;refine Dy F.entry_set_update_loop ?_;rw[CN F.plain_set_update_loop _];show Ar _ A.in1 (Ip (.ref I) >>= _) _ _ s;refine Aa (W.done s _ _ hst λs' hm=>?_);show Ar _ A.in1 (ret Ed) _ _ s';rw[BW (by ext)]at hS;exact Ad (hR s' (hm.mono hsub) (hS.moved hm hSw))
 |succ k ih=>
  intro i s hk hi hst hS hR;have hlt:i<n:=by ext
  refine Dy F.entry_set_update_loop ?_;rw[CN F.plain_set_update_loop _];show Ar _ A.in1 (Ip (.ref I) >>= _) _ _ s;refine Aa (W.item i s _ _ hlt hst λv s' hP hst' hm=>?_);obtain⟨t,rfl⟩:=hval i v (by ext) hP;have hS':=hS.moved hm hSw;show Ar _ A.in1 (GD [DD xs[i] t] (setAdd S (.str xs[i] t)) >>= _) _ _ s';refine Aa (BQ ?_);unfold setAdd;refine BQ ?_;refine Aa ((By prog w).pyHash (strKind_is _ _ _ _) ?_)
  have hroom:(fm (xs.take i)).length+1<Be:=by
   have:=Um (xs.take i);rw[A6]at this;ext
  refine jR hS' hroom λb h' hsb hS2=>?_;have e:xs.take (i+1)=xs.take i++[xs[i]]:=by rw[Jz (by ext)]
  rw[<- pU,<- e]at hS2;refine Ad ⟨FU F.plain_set_update_loop _,ih (i+1) _ (by ext) hlt (W.frame _ s' _ _ hst' (Ju _) λb hb o e=>?_) hS2 λs'' hm'' hS''=>?_⟩
  .rw[hsb.2 b (λh:b=S=>hSf (by rw[<- h];exact hb))];exact e
  .refine hR s'' (Moved.trans W.gtrans ((hm.mono hsub).then_heap (Ju _) λb o hb e=>?_) hm'') hS'';rw[hsb.2 b (λh:b=S=>hb (by rw[h];exact AG))];exact e
end
theorem jT (hg:h.get? a=some {cls:=.type "set",dict:=none,data:=.set #[] 0 (.fresh 0 0 led)})(e:led=led'):CO w h a (fm ([]:List Str)) led':=by
 subst e;exact⟨_,#[],0,_,hg,⟨rfl,rfl,rfl⟩,rfl,λe he=>absurd he (by simp),C1 _,by decide,rfl,rfl,λh=>absurd rfl h⟩
theorem OT (ft:TypeCalled T newId initId)(hct:checkTypeCall T ⟨args,[]⟩=pure ())
  (hnew:DP (Az prog w) A.in1 (.call (.builtin newId) ⟨.type T::args,[]⟩) (wants Q₁ E) s)
  (hini:∀obj s₁,Q₁ obj s₁->s₁.TypeIs obj T/\DP (Az prog w) A.in1 (.call (.builtin initId) ⟨obj::args,[]⟩) (wants (λr s₂=>r=.none/\Q obj s₂) E) s₁) :
  Ar (Az prog w) A (JY (.type T) args) Q E s:=by
 have f1:=ft.notType;have f2:=ft.canCreate;have f3:=ft.made;have f4:=ft.sub;have f5:=ft.init.lookup;obtain⟨c,tl,f6⟩:=ft.mro;refine Th (YQ ?_);show Ar _ _ (callAny (.type T) _) _ _ _;refine Ad ⟨Code.quiet_builtin _ (by nofun),Dy F.entry_type_call ?_⟩;rw[Around.under_plain (weight_type_call_type T args []) rfl]
 repeat (any_goals (first | assumption | wp_step))
 refine GF hnew λr s₁ hr=>?_
 match r,hr with
 |.error e,hr=>exact hr
 |.ok (.ret obj),hr=>
  obtain⟨hT,hi⟩:=hini _ _ hr;have f7:=ft.init.bind obj
  repeat (any_goals (first | assumption | wp_step))
  refine GF hi λr₂ s₂ hr₂=>?_
  match r₂,hr₂ with
  |.error e,hr₂=>exact hr₂
  |.ok (.ret _),⟨rfl,hq⟩=>repeat (any_goals (first | assumption | wp_step))
set_option maxHeartbeats 3200000 in
theorem vc {Q:Aq->Prop}(hh:A.handled=none)
  (hS:s.heap.get? S=some {cls:=.type "set",dict:=none,data:=.set #[] 0 (.fresh 0 0 led)}) (hl:s.heap.IsList l items) (hx:xs.length=items.size)
  (hi:∀i v (h:i<xs.length),items[i]? = some v->∃t,v=.str xs[i] t) (hb:items.size+1<Be)
  (h:∀h' tk,CO w h' S (fm xs) led->(∀b o,b≠S->s.heap.get? b=some o->h'.get? b=some o)->Q {s with heap:=h',toks:=tk}) :
  DP (Az prog w) A (.call (.builtin "set.__init__") ⟨[.ref S,.ref l],[]⟩) (wants (λr s₂=>r=.none/\Q s₂) E) s:=by
 have hT:s.TypeIs (.ref S) "set":=⟨_,hS,rfl⟩;have hSlt:=Ap hS
 have ne:l≠S:=λe=>by
  subst e;obtain⟨o,ho,hc,-⟩:=hl;rw[hS]at ho;cases ho;exact absurd (show Ec "set" = Ec "list" from hc) (by decide)
 refine codeAny_call_builtin F.called_set.init.plain F.entry_set_init (check_set_init_1 hT ?_);have hl0:=hl;obtain⟨⟨lc,ld,ldata,lsl⟩,hol,hcl,nl,hdl⟩:_:=hl;dsimp only at hcl hdl;subst hcl;subst hdl;have f1:=PySem.F.sub_list_set;have f2:=PySem.F.sub_list_frozenset;have f3:(Ec "list" == Ec "dict")=false:=by decide
 unfold D7.«set.__init__» noKeywords Hz;generalize hPI:Tl=PI;wp_walk;subst hPI;refine Hr hl0 (Aa (bN ?_));have hllt:=Ap hol
 refine vd ((V3 (by simp[hh]) _ l (A5 hllt) items).toS) S (by simp[A5 hSlt,Bj ne]) xs hx (λi v hlt hv=>hi i v hlt hv) hb led (items.size-0) 0 _ (by ext) (DO _)
  ⟨⟨_,Ax _ rfl,rfl,rfl⟩,hl0.push _⟩ (jT (Ag _ hS) rfl) ?_
 intro s' hm hS';obtain⟨h',g',d',tk',os'⟩:=s';have eg:=hm.gens;have ed:=hm.drawn;have eo:=hm.os;subst eg;subst ed;subst eo;refine Ad (Ad ⟨rfl,h h' tk' hS' λb o hbS e=>hm.heap b o ?_ (Ag _ e)⟩);have:=Ap e;simp only[BA,AR,or_false,not_or];exact⟨hbS,A5 this⟩
theorem jJ {prog:Bp}{w:BK}{A:Cu}{E:Ah->Aq->Prop}{s:Aq}{l:Av}{items:Array Ah}{xs:List Str}{Q:Ah->Aq->Prop}
  (hh:A.handled=none) (hl:s.heap.IsList l items) (hx:xs.length=items.size) (hi:∀i v (h:i<xs.length),items[i]? = some v->∃t,v=.str xs[i] t) (hb:items.size+1<Be)
  (h:∀h' tk,CO w h' s.heap.objs.size (fm xs) (!(w.params.followText "set-order"))->(∀b o,s.heap.get? b=some o->h'.get? b=some o)->Q (.ref s.heap.objs.size) {s with heap:=h',toks:=tk}) :
  Ar (Az prog w) A (JY (.type "set") [.ref l]) Q E s:=by
 refine OT F.called_set (PySem.F.typeCall_set_1 _) (zj (.ref l) (Q₁:=λobj s₁=>obj=.ref s.heap.objs.size/\s₁={s with heap:=s.heap.push {cls:=.type "set",dict:=none,data:=.set #[] 0 (.fresh 0 0 (!(w.params.followText "set-order")))} }) ⟨rfl,rfl⟩) ?_;rintro _ _ ⟨rfl,rfl⟩;refine⟨⟨_,Ax _ rfl,rfl⟩,vc (by simp[hh]) (Ax _ rfl) (hl.push _) hx hi hb λh' tk hS' hk=>h h' tk hS' λb o e=>hk b o (A5 (Ap e)) (Ag _ e)⟩
theorem Uz:cD "set_iterator" "__next__" "set_iterator.__next__":=
 .of (owner:="set_iterator") (n:="__next__") (by rw[IE,FA];kernel_rfl) (by nofun) (by nofun) (by nofun)
  (by first | exact .inl (by nofun) | exact .inr (by nofun)) (by rw[bX];kernel_rfl)
theorem wR:KI US "set_iterator.__next__" = some D7.«set_iterator.__next__»:=V1 (by kernel_rfl)
theorem vV (a):cC "set_iterator.__next__" ⟨[a],[]⟩:=by
 unfold cC;rw[signature?_of (id:="set_iterator.__next__") (n:=['_','_','t','x','e','n','_','_']) (o:=['r','o','t','a','r','e','t','i','_','t','e','s']) (by kernel_rfl) (show OE.lookup (Rp ['r','o','t','a','r','e','t','i','_','t','e','s'].reverse)=some J2 by kernel_rfl)]
 kernel_rfl
theorem zb:KI US "set.__iter__" = some D7.«frozenset.__iter__»:=Jl (id':="frozenset.__iter__") (by kernel_rfl) rfl (by nofun) (by kernel_rfl)
theorem Kd :∀(l:List α) (i:Nat) (h:i<l.length),(l[i]::l.eraseIdx i).Perm l
 |x::xs,0,_=>C1 _
 |x::xs,i+1,h=>by
  have h':i<xs.length:=by simpa using h
  exact(OJ x xs[i] _).trans ((Kd xs i h').cons x)
theorem ZfT (hn:n≠0)(h:∀i,i<n->∀d,Q i {s with drawn:=d}):Ar M A (choose src n) Q E s:=
 λΓ p _=>⟨hn,h _ (PF _ (Nat.pos_of_ne_zero hn)) _⟩
theorem Zd4 {M:Model}{A:Cu}{E:Ah->Aq->Prop}{α:Type}:∀(n:Nat) (xs:List α) (s:Aq) (Q:List α->Aq->Prop),xs.length<=n->(∀ys d,ys.Perm xs->Q ys {s with drawn:=d})->Ar M A (drawOrder n xs) Q E s:=by
 intro n;induction n with
 |zero=>
  intro xs s Q hl h;cases xs with
  |nil=>exact Ad (h [] s.drawn (C1 _))
  |cons x xs=>exact absurd hl (Nat.not_succ_le_zero _)
 |succ n ih=>
  intro xs s Q hl h;cases xs with
  |nil=>exact Ad (h [] s.drawn (C1 _))
  |cons x xs=>
   refine Aa (ZfT (by simp) λi hi d=>?_);rw[Af hi];dsimp only;refine Aa (ih _ _ _ ?_ λys d' hp=>Ad (h _ d' ?_))
   .rw[Gd hi];simp only[AK]at hl ⊢;ext
   .exact(hp.cons _).trans (Kd _ _ hi)
theorem pV (f):∀(fuel k:Nat) (left:List α) (out:Array α),left.length<=fuel->(KC f fuel k left out).toList.Perm (out.toList++left)
 |0,k,[],out,_=>by unfold KC;simp
 |fuel+1,k,left,out,h=>by
  unfold KC;cases left with
  |nil=>simp
  |cons x xs=>
   have hi:f k%(x::xs).length<(x::xs).length:=PF _ (by simp);rw[Af hi];dsimp only;refine(pV f fuel _ _ _ ?_).trans ?_
   .rw[Gd hi];simp only[AK]at h ⊢;ext
   .rw[Pm,Bq];exact(C1 _).append (Kd _ _ hi)
theorem wT (f)(xs:Array α):(HS f xs).toList.Perm xs.toList:=by
 have:=pV f xs.size 0 xs.toList #[] (by simp);simpa[HS]using this
def Rk (w:BK)(h:CH)(I S p i:Nat)(ord:List Ah):Prop:=
  ∃(o so:Obj) (first:Ah) (es:Array (Int×Ah)) (ep:Nat) (t:C6),h.get? I=some o/\o.cls=Ec "set_iterator"/\o.data=N9 #[first,.int i 0,.ref S,.int es.size 0,.int ep 0]/\h.get? S=some so/\so.data=Ig es ep t/\t.fits es.size=true/\ord.length=es.size /\
    ((∃ (po:Obj) (js:List Nat) (c:Nat),first=AC p/\h.get? p=some po/\po.data=Data.seq (js.map λj:Nat=>D0 j 0).toArray c/\ord.map some=js.map λj=>es[j]?.map (·.2))
   \/(∃sl tk,first=D0 sl tk/\w.params.followText "set-order" = true/\ord=(HS (w.params.setOrder S ep) es).toList.map (·.2))
   \/(∃ sl:Nat,first=D0 sl 0/\w.params.followText "set-order" = false/\t.led=true/\es.size<=1/\ord=es.toList.map (·.2)/\(i=0->sl=0)/\(i≠0->∀ j,t.place[0]? = some j->sl=j+1)))
theorem Rk.typeIs {s:Aq}(h:Rk w s.heap I S p i ord):s.TypeIs (.ref I) "set_iterator":=by
 obtain⟨o,so,first,es,ep,t,ho,hc,-⟩:_:=h;exact⟨o,ho,hc⟩
theorem Rk.kept (x:Rk w h I S p i ord)(e:∀b∈[I,S,p],∀o,h.get? b=some o->h'.get? b=some o):Rk w h' I S p i ord:=by
 obtain⟨o,so,first,es,ep,t,ho,hc,hd,hso,hsd,hf,hl,m⟩:_:=x;refine⟨o,so,first,es,ep,t,e I (by simp) _ ho,hc,hd,e S (by simp) _ hso,hsd,hf,hl,?_⟩;rcases m with⟨po,js,c,m1,m2,m3⟩|m|m
 .exact .inl ⟨po,js,c,m1,e p (by simp) _ m2,m3⟩
 .exact .inr (.inl m)
 .exact .inr (.inr m)
theorem kN (ho:s.heap.get? a=some o)(hd:o.data=.set es ep t)(hf:t.fits es.size=true)(h:Q es.size s) :
  Ar (Az prog w) A (Ir a) Q E s:=by
 unfold Ir Tk;exact Aa (Aa (A3 ho hd hf (Ad (Ad h))))
theorem wE (ho:s.heap.get? a=some o)(hd:o.data=.set es ep t)(hf:t.fits es.size=true)(h:Q es s) :
  Ar (Az prog w) A (Tk a) Q E s:=by
 unfold Tk;exact Aa (A3 ho hd hf (Ad h))
theorem VP (ho:s.heap.get? a=some o)(hd:o.data=.set es ep t)(hf:t.fits es.size=true)(h:Q ep s) :
  Ar (Az prog w) A (bR a) Q E s:=by
 unfold bR;exact Aa (A3 ho hd hf (Ad h))
theorem Zd3 (ho:s.heap.get? a=some o)(hd:o.data=.set es ep t)(hf:t.fits es.size=true)(h:Q (!(w.params.followText "set-order") && (!t.plain && decide (es.size > 1))) s) :
  Ar (Az prog w) A (setDrawn a) Q E s:=by
 unfold setDrawn Im;exact Aa (A3 ho hd hf (Aa (Aa (Dd (Ad (Ad h))))))
theorem aW :∀{es:List (Int×Ah)},IC w es->KL (es.map (·.2)) (GI es)
 |[],_=>.nil
 |e::es,h=>by
  obtain⟨x,t,rfl⟩:=h e (by simp);exact .cons x t (aW λe he=>h e (by simp[he]))
theorem oH {es:List (Int×Ah)}:∀(js:List Nat),(∀j∈js,j<es.length)->∃fs:List (Int×Ah),js.map (λj=>es[j]?)=fs.map some/\fs=js.filterMap λj=>es[j]?
 |[],_=>⟨[],rfl,rfl⟩
 |j::js,h=>by
  obtain⟨fs,h1,h2⟩:=oH js λk hk=>h k (by simp[hk]);have hj:=h j (by simp);refine⟨es[j]::fs,?_,?_⟩
  .rw[AT,AT,h1,Af hj]
  .rw[C0,Af hj,h2]
theorem tW (es:List (Int×Ah)):(Bk es.length).filterMap (λj=>es[j]?)=es:=by
 induction es with
 |nil=>rfl
 |cons e es ih=>rw[AK,Es,C0];simp only[G8,Jc];rw[show(λj=>(e::es)[j]?) ∘ Nat.succ=λj=>es[j]? from by funext j;simp,ih]
set_option maxHeartbeats 1000000 in
theorem zi (hS:CO w s.heap S ks (!(w.params.followText "set-order")))
  (hQ:∀(h':CH) d (I p:Nat) (ord:List Ah),Rk w h' I S p 0 ord->I∉[S,p]->(∀b o,s.heap.get? b=some o->h'.get? b=some o)->(∀b∈[I,p],s.heap.get? b=none\/b=S)->(∃ys,ys.Perm ks/\KL ord ys)->Q (.ref I) {s with heap:=h',drawn:=d}) :
  Ar (Az prog w) A (Tl (.ref S)) Q E s:=by
 obtain⟨o,es,ep,t,ho,hex,hd,hes,hp,hsz,hfit,hled,hpl⟩:_:=hS;have hT:s.TypeIs (.ref S) "set":=⟨o,ho,hex.1⟩;refine UP hT F.slot_set_iter (BL F.slot_set_iter hT zb ?_ (F.args_set_iter_1 _));unfold D7.«frozenset.__iter__»;refine Aa (BY rfl ?_);refine Aa (kN ho hd hfit ?_);refine Aa (Zd3 ho hd hfit ?_);have hle:es.size<4096:=hsz
 have none_at:∀b,s.heap.objs.size<=b->s.heap.get? b=none:=λb hb=>by
  cases hq:s.heap.get? b with
  |none=>rfl
  |some o'=>exact absurd (Ap hq) (cE.mpr hb)
 have hSlt:S<s.heap.objs.size:=Ap ho;by_cases c:(!(w.params.followText "set-order") && (!t.plain && decide (es.size > 1)))=true
 .rw[if_pos c];refine Aa (Zd4 es.size (Bk es.size) _ _ (by simp) λjs d hjs=>?_);have hjl:js.length=es.size:=by simpa using hjs.length_eq
  refine Aa (BC ?_ (by simp only[sizeOk,AU,Ab];have:(4096:Nat)<=Am:=(by decide);ext));have hS1:(s.heap.push {cls:=Ec "tuple",dict:=none,data:=Data.seq (js.map λi:Nat=>JX i).toArray}).get? S=some o:=Ag _ ho;refine Aa (VP hS1 hd hfit ?_);refine Aa (BC (Ad ⟨_,rfl, "set_iterator",_,⟨_,Ax _ rfl,rfl⟩,Uz.lookup,?_⟩));obtain⟨fs,f1,f2⟩:=oH (es:=es.toList) js λj hj=>by simpa using hjs.mem_iff.mp hj
  have fp:fs.Perm es.toList:=by
   rw[f2];have:=hjs.filterMap (λj=>es.toList[j]?);rw[show es.size=es.toList.length by simp,tW]at this;exact this
  have hfl:fs.length=es.size:=by simpa using fp.length_eq
  have fok:IC w fs:=λe he=>hes e (fp.mem_iff.mp he);refine hQ _ d _ s.heap.objs.size (fs.map (·.2)) ⟨_,o,_,es,ep,t,Ax _ rfl,rfl,rfl,Ag _ hS1,hd,hfit,by simpa using hfl,.inl ⟨_,js,_,rfl,Ag _ (Ax _ rfl),rfl,?_⟩⟩ ?_ ?_ ?_ ⟨GI fs,?_,aW fok⟩
  .have:=congrArg (E1 (G7 λe:Int×Ah=>e.2)) f1;rw[BI,BI]at this;rw[BI];refine Eq.trans ?_ (this.symm.trans ?_)
   .rfl
   .apply EA;intro j hj;simp
  .rw[Gg];simp only[BA,AR,or_false,not_or];exact⟨EW (Eh hSlt),Rr _⟩
  .intro b o' e;exact Ag _ (Ag _ e)
  .intro b hb;left
   rw[Gg]at hb;simp only[BA,AR,or_false]at hb;exact none_at b (by ext)
  .exact(fp.map _).trans hp
 .rw[if_neg c];refine Aa (Ad ?_);refine Aa (VP ho hd hfit ?_);refine Aa (BC (Ad ⟨_,rfl, "set_iterator",_,⟨_,Ax _ rfl,rfl⟩,Uz.lookup,?_⟩))
  have side:s.heap.objs.size∉[S,S]/\(∀b∈[s.heap.objs.size,S],s.heap.get? b=none\/b=S):=by
   refine⟨by simp only[BA,AR,or_false,not_or];exact⟨EW hSlt,EW hSlt⟩,λb hb=>?_⟩;simp only[BA,AR,or_false]at hb;rcases hb with rfl|rfl
   .exact .inl (none_at _ (AH _))
   .exact .inr rfl
  cases ft:w.params.followText "set-order" with
  |true=>
   have pp:=wT (w.params.setOrder S ep) es;have pl:(HS (w.params.setOrder S ep) es).toList.length=es.size:=by simpa using pp.length_eq
   exact hQ _ s.drawn _ S ((HS (w.params.setOrder S ep) es).toList.map (·.2)) ⟨_,o,_,es,ep,t,Ax _ rfl,rfl,rfl,Ag _ ho,hd,hfit,by rw[Ab];exact pl,.inr (.inl ⟨_,_,rfl,ft,rfl⟩)⟩ side.1 (λb o' e=>Ag _ e) side.2 ⟨_,(pp.map _).trans hp,aW λe he=>hes e (pp.mem_iff.mp he)⟩
  |false=>
   have h1:es.size<=1:=by
    rcases GZ 1 es.size with h|h
    .have hq:=hpl (by ext);rw[ft,hq]at c;simp at c;ext
    .exact h
   rw[ft]at hled;exact hQ _ s.drawn _ S (es.toList.map (·.2)) ⟨_,o,_,es,ep,t,Ax _ rfl,rfl,rfl,Ag _ ho,hd,hfit,by simp,.inr (.inr ⟨0,rfl,ft,hled,h1,rfl,λ_=>rfl,λh=>absurd rfl h⟩)⟩ side.1 (λb o' e=>Ag _ e) side.2 ⟨_,hp,aW hes⟩
theorem wQ {prog:Bp}{w:BK}{A:Cu}{E:Ah->Aq->Prop}{s:Aq}{a:Av}{o:Obj}{es:Array (Int×Ah)}{ep sl i:Nat}{t:C6}{Q:Option (Ah×Nat)->Aq->Prop}(ho:s.heap.get? a=some o)(hd:o.data=.set es ep t)(hf:t.fits es.size=true)
  (ft:w.params.followText "set-order" = true) (h:Q (((HS (w.params.setOrder a ep) es)[i]?).map λe=>(e.2,sl)) s):Ar (Az prog w) A (UV a sl i ep) Q E s:=by
 unfold UV Im;refine Aa (A3 ho hd hf ?_);refine Aa (Aa (Dd (Ad ?_)));have e1:(Az prog w).w.params.followText "set-order" = true:=ft;dsimp only;rw[if_pos e1];rw[if_neg (by simp)];unfold setWalk Im;refine Aa (Aa (A3 ho hd hf ?_));refine Aa (Aa (Dd (Ad ?_)));dsimp only;rw[if_pos e1];exact Aa (Dd (Ad (Ad h)))
theorem wP {prog:Bp}{w:BK}{A:Cu}{E:Ah->Aq->Prop}{s:Aq}{a:Av}{o:Obj}{es:Array (Int×Ah)}{ep sl i:Nat}{t:C6}{Q:Option (Ah×Nat)->Aq->Prop}(ho:s.heap.get? a=some o)(hd:o.data=.set es ep t)(hf:t.fits es.size=true)
  (ft:w.params.followText "set-order" = false) (hl:t.led=true) (h1:es.size<=1) (h:Q (match es[C2 t.place sl]?,t.place[C2 t.place sl]? with | some (_,x),some j=>some (x,j+1) | _,_=>none) s):Ar (Az prog w) A (UV a sl i ep) Q E s:=by
 unfold UV Im;refine Aa (A3 ho hd hf ?_);refine Aa (Aa (Dd (Ad ?_)));have e1:(Az prog w).w.params.followText "set-order" = false:=ft;dsimp only;rw[if_neg (by rw[e1];simp)];split
 .next hc=>
  have h':(!t.plain && decide (es.size > 1))=true:=hc;simp at h';ext
 .refine Aa ?_;show Ar _ A (if (!t.led && !es.isEmpty)=true then unsupported "set:maker-not-led" else pure ()) _ E s;rw[if_neg (by rw[hl];simp)];exact Ad (Ad h)
theorem xh (xs)(j)(h:xs.size=0):C2 xs j=0:=by
 have:=JM h;subst this;rfl
theorem xi (k):C2 #[k] 0=0:=by
 simp[C2,KN]
theorem um (k):C2 #[k] (k+1)=1:=by
 simp[C2,KN]
theorem VE {s:CH}{I:Av}{o:Obj}{vs:Array Ah}(ho:s.get? I=some o)(hc:o.cls=Ec "set_iterator")(hd:o.data=N9 vs)(k)(x) :
  ∃o',(s.update I (Obj.mapFields (·.setIfInBounds k x))).get? I=some o'/\o'.cls=Ec "set_iterator"/\o'.data=N9 (vs.setIfInBounds k x):=
 ⟨_,Db _ ho (NY (Gn hd _)),(QP ..).trans hc,Gn hd _⟩
set_option maxHeartbeats 2000000 in
theorem s0 {prog:Bp}{w:BK}{A:Cu}{E:Ah->Aq->Prop}{s:Aq}{I S p i:Nat}{ord:List Ah}{Q:Option Ah->Aq->Prop}(hit:Rk w s.heap I S p i ord)(hI:I∉[S,p])(hi:i<ord.length)
  (hQ:∀h',Rk w h' I S p (i+1) ord->Bx I s.heap h'->Q (some ord[i]) {s with heap:=h' }):Ar (Az prog w) A (Ip (.ref I)) Q E s:=by
 obtain⟨o,so,first,es,ep,t,ho,hc,hd,hso,hsd,hf,hl,m⟩:_:=id hit;have hIS:S≠I:=λe=>hI (by simp[e]);have hIp:p≠I:=λe=>hI (by simp[e]);unfold Ip;refine Aa (wpAny_attempt (DR (name:=Al "__next__") hit.typeIs Uz (BL Uz hit.typeIs wR ?_ (vV _))));unfold D7.«set_iterator.__next__»;refine Aa (BY (a:=(AC I,[])) rfl ?_);refine Aa (bO ho hd ?_);dsimp only;refine Aa (wE hso hsd hf ?_);rw[if_neg (by simp)];rcases m with⟨po,js,c,rfl,hpo,hpd,hmap⟩|⟨sl,tk,rfl,ft,rfl⟩|⟨sl,rfl,ft,hled,h1,rfl,z0,z1⟩
 .have hjl:js.length=ord.length:=by
   have:=congrArg Ej hmap;simpa using this.symm
  have hat:∃e,es[js[i]'(by ext)]? = some e/\e.2=ord[i]:=by
   have h2:=congrArg (λl:List (Option Ah)=>l[i]?) hmap;try dsimp only at h2
   rw[AJ,AJ,Af hi,Af (show i<js.length by ext)]at h2;simp only[Jh,HX]at h2;cases q:es[js[i]'(by ext)]? with
   |none=>rw[q]at h2;cases h2
   |some e=>rw[q]at h2;exact⟨e,rfl,(A8 h2).symm⟩
  obtain⟨e,he,hev⟩:=hat
  dsimp only;refine Aa (GW hpo hpd ?_);dsimp only
  have g1:((js.map λj:Nat=>D0 j 0).toArray)[(i:Int).toNat]? = some (.int (js[i]'(by ext):Nat) 0):=by
   rw[Br,DU,AJ,Af (show i<js.length by ext)];rfl
  rw[g1];dsimp only;refine Aa ?_;unfold setNextDrawn;refine Aa (A3 hso hsd hf ?_);dsimp only;rw[if_neg (by simp),Br,he];refine Ad ?_;refine Aa (CF ho hd (by simp) (Ad ⟨_,rfl,Ad ?_⟩));rw[hev];obtain⟨o',ho',hc',hd'⟩:=VE ho hc hd 1 (JX ((i:Int)+1));exact hQ _ ⟨o',so,_,es,ep,t,ho',hc',hd',(A9 _ _ (Bj hIS)).trans hso,hsd,hf,hl,.inl ⟨po,js,c,rfl,(A9 _ _ (Bj hIp)).trans hpo,hpd,hmap⟩⟩ (AZ ..)
 .dsimp only;refine Aa (wQ hso hsd hf ft ?_);have hi':i<(HS (w.params.setOrder S ep) es).size:=by simpa using hi
  rw[Br i,Br ep,AW hi'];dsimp only[G7];refine Aa (CF ho hd (by simp) ?_);obtain⟨o',ho',hc',hd'⟩:=VE ho hc hd 0 (JX (sl.toNat:Int));refine Aa (CF (s:={s with heap:=_}) ho' hd' (by simp) (Ad ⟨_,rfl,Ad ?_⟩));obtain⟨o2,ho2,hc2,hd2⟩:=VE ho' hc' hd' 1 (JX ((i:Int)+1));have z:=hQ _ ⟨o2,so,_,es,ep,t,ho2,hc2,hd2,(A9 _ _ (Bj hIS)).trans ((A9 _ _ (Bj hIS)).trans hso),hsd,hf,hl,.inr (.inl ⟨_,_,rfl,ft,rfl⟩)⟩ ((AZ ..).trans (AZ ..));rw[Ji,Nq]at z;exact z
 .dsimp only;refine Aa (wP hso hsd hf ft hled h1 ?_);have hi':i<es.size:=by simpa using hi
  have i0:i=0:=by ext
  subst i0;have e0:=z0 rfl;subst e0
  have hps:t.place.size=es.size:=by
   unfold DL at hf;simp at hf;exact hf.1
  have hs1:es.size=1:=by ext
  obtain⟨k,hk⟩:∃k,t.place=#[k]:=by
   have:t.place.toList.length=1:=by simp[hps,hs1]
   obtain⟨k,hk⟩:=MC.mp this;exact⟨k,by rw[<- H0 (xs:=t.place),hk]⟩
  rw[hk,show((0:Nat):Int).toNat=0 from rfl,xi,AW hi'];try dsimp only
  try rw[show(#[k]:Array Nat)[0]? = some k from rfl]
  try dsimp only
  refine Aa (CF ho hd (by simp) ?_);obtain⟨o',ho',hc',hd'⟩:=VE ho hc hd 0 (JX ((k+1:Nat):Int));refine Aa (CF (s:={s with heap:=_}) ho' hd' (by simp) (Ad ⟨_,rfl,Ad ?_⟩));obtain⟨o2,ho2,hc2,hd2⟩:=VE ho' hc' hd' 1 (JX (((0:Nat):Int)+1));have z:=hQ _ ⟨o2,so,_,es,ep,t,ho2,hc2,hd2,(A9 _ _ (Bj hIS)).trans ((A9 _ _ (Bj hIS)).trans hso),hsd,hf,hl,.inr (.inr ⟨k+1,rfl,ft,hled,h1,rfl,λh=>absurd h (by ext),λ_ j hj=>by rw[hk]at hj;cases hj;rfl⟩)⟩ ((AZ ..).trans (AZ ..));rw[Ji,Nq]at z;exact z
theorem jQ {prog:Bp}{w:BK}{A:Cu}{E:Ah->Aq->Prop}{s:Aq}{Q:Option Ah->Aq->Prop}{R:Fin->Aq->Prop}(hh:A.handled=none)
  (hQ:∀h',(∀b o,s.heap.get? b=some o->h'.get? b=some o)->Q none {s with heap:=h' }) :
  Ar (Az prog w) A.in1 (do bU (<- bV (.type "StopIteration") [])) R
   (λe s'=>Ar (Az prog w) A (do if <- isInstance e (.type "StopIteration")then pure none else throw e) Q E s') s:=by
 refine Aa ?_;simp only[bV,newTuple];refine Aa (BC ?_ (by size_fits));refine Aa (BY (by first | rfl | (simp only[bY];rfl)) ?_);refine BC ?_ (by size_fits);simp only[bU];refine Aa (wpAny_handled ?_);rw[show A.in1.handled=none from hh];refine Aa (Ad (wpAny_throw ?_));refine Aa (HP ⟨_,Ax _ rfl,rfl⟩ isSubtype_stop ?_);exact Ad (hQ _ λb o e=>Ag _ (Ag _ e))
set_option maxHeartbeats 2000000 in
theorem sy {prog:Bp}{w:BK}{A:Cu}{E:Ah->Aq->Prop}{s:Aq}{I S p:Nat}{ord:List Ah}{Q:Option Ah->Aq->Prop}(hh:A.handled=none)(hit:Rk w s.heap I S p ord.length ord)
  (hQ:∀h',(∀b o,b≠I->s.heap.get? b=some o->h'.get? b=some o)->Q none {s with heap:=h' }):Ar (Az prog w) A (Ip (.ref I)) Q E s:=by
 obtain⟨o,so,first,es,ep,t,ho,hc,hd,hso,hsd,hf,hl,m⟩:_:=id hit;unfold Ip;refine Aa (wpAny_attempt (DR (name:=Al "__next__") hit.typeIs Uz (BL Uz hit.typeIs wR ?_ (vV _))));unfold D7.«set_iterator.__next__»;refine Aa (BY (a:=(AC I,[])) rfl ?_);refine Aa (bO ho hd ?_);dsimp only;refine Aa (wE hso hsd hf ?_);rw[if_neg (by simp)];rcases m with⟨po,js,c,rfl,hpo,hpd,hmap⟩|⟨sl,tk,rfl,ft,rfl⟩|⟨sl,rfl,ft,hled,h1,rfl,z0,z1⟩
 .have hjl:js.length=ord.length:=by
   have:=congrArg Ej hmap;simpa using this.symm
  dsimp only;refine Aa (GW hpo hpd ?_);dsimp only
  have g1:((js.map λj:Nat=>D0 j 0).toArray)[(ord.length:Int).toNat]? = none:=by
   rw[Br,DU,AJ,Bv (by ext)];rfl
  rw[g1];dsimp only;refine Aa (CF ho hd (by simp) ?_);obtain⟨o',ho',hc',hd'⟩:=VE ho hc hd 0 (JX 0);refine Aa (CF (s:={s with heap:=_}) ho' hd' (by simp) ?_);exact jQ hh λh' k=>hQ h' λb o hb e=>k b o ((A9 _ _ (Bj hb)).trans ((A9 _ _ (Bj hb)).trans e))
 .dsimp only;refine Aa (wQ hso hsd hf ft ?_);rw[Br (Ej _),Br ep,DN (by simp)];dsimp only[G7];refine Aa (CF ho hd (by simp) ?_);exact jQ hh λh' k=>hQ h' λb o hb e=>k b o ((A9 _ _ (Bj hb)).trans e)
 .dsimp only;refine Aa (wP hso hsd hf ft hled h1 ?_)
  have hps:t.place.size=es.size:=by
   unfold DL at hf;simp at hf;exact hf.1
  have none_there:es[C2 t.place ((sl:Int)).toNat]? = none:=by
   rcases GZ 0 es.size with h|h
   .have hs1:es.size=1:=by ext
    obtain⟨k,hk⟩:∃k,t.place=#[k]:=by
     have:t.place.toList.length=1:=by simp[hps,hs1]
     obtain⟨k,hk⟩:=MC.mp this;exact⟨k,by rw[<- H0 (xs:=t.place),hk]⟩
    have:=z1 (by rw[Ab,Bt];ext) k (by rw[hk];rfl);subst this;rw[hk,Br,um];exact DN (by ext)
   .rw[xh _ _ (by ext)];exact DN (by ext)
  rw[none_there];dsimp only;refine Aa (CF ho hd (by simp) ?_);exact jQ hh λh' k=>hQ h' λb o hb e=>k b o ((A9 _ _ (Bj hb)).trans e)
theorem wC:cD "set_iterator" "__iter__" "set_iterator.__iter__":=
 .of (owner:="set_iterator") (n:="__iter__") (by rw[IE,FA];kernel_rfl) (by nofun) (by nofun) (by nofun)
  (by first | exact .inl (by nofun) | exact .inr (by nofun)) (by rw[bX];kernel_rfl)
theorem Zel:KI US "set_iterator.__iter__" = some D7.«dict_keyiterator.__iter__»:=Jl (id':="dict_keyiterator.__iter__") (by kernel_rfl) rfl (by nofun) (by kernel_rfl)
theorem ZfQ (a):cC "set_iterator.__iter__" ⟨[a],[]⟩:=by
 unfold cC;rw[signature?_of (id:="set_iterator.__iter__") (n:=['_','_','r','e','t','i','_','_']) (o:=['r','o','t','a','r','e','t','i','_','t','e','s']) (by kernel_rfl) (show OE.lookup (Rp ['r','o','t','a','r','e','t','i','_','t','e','s'].reverse)=some J2 by kernel_rfl)]
 kernel_rfl
theorem Wv (hh:A.handled=none)(hI:I∉[S,p]) :
  WalksS prog w A I [I,S,p] [I] (λa b=>b=a) ord.length (λi v=>ord[i]? = some v) (λi s=>Rk w s.heap I S p i ord) where
 sub:=λb hb=>by simp at hb;simp[hb]
 grefl:=λ_=>rfl
 gtrans:=λa b c h1 h2=>h2.trans h1
 frame:=λi s h' tk hst _ hk=>hst.kept hk
 item:=λi s Q E hi hst hQ=>s0 hst hI hi λh' hst' sb=>hQ _ _ (Af hi) hst' ⟨λb o hb e=>by rw[sb.2 b (by simpa using hb)];exact e,rfl,rfl,rfl,AH _⟩
 done:=λs Q E hst hQ=>sy hh hst λh' hk=>hQ _ ⟨λb o hb e=>hk b o (by simpa using hb) e,rfl,rfl,rfl,AH _⟩
 self:=λi s Q E hst hQ=>UP hst.typeIs wC (BL wC hst.typeIs Zel (by
  show Ar _ _ (ret (.ref I)) _ _ s;exact Ad ⟨_,rfl, "set_iterator",_,hst.typeIs,Uz.lookup,hQ⟩) (ZfQ _))
theorem jC:∀{vs:List Ah}{ys:List Str},KL vs ys->vs.length=ys.length
 |_,_,.nil=>rfl
 |_,_,.cons y t h=>by simp[jC h]
theorem ZeV:splitId "set.__len__" = some ("set", "__len__"):=by kernel_rfl
theorem m6:MQ (.type "set") "__len__" = pure (some (.builtin "set.__len__")):=by rw[IE,FA];kernel_rfl
theorem vz (hc:c=true)(h:Ar M A a Q E s):Ar M A (if c=true then a else b) Q E s:=by
 rw[if_pos hc];exact h
set_option maxHeartbeats 2000000 in
theorem za (hh:A.handled=none)(hS:CO w s.heap S ks (!(w.params.followText "set-order")))
  (hQ:∀(h':CH) d tk vs ys,ys.Perm ks->KL vs ys->(∀b o,s.heap.get? b=some o->h'.get? b=some o)->Q vs {s with heap:=h',drawn:=d,toks:=tk}) :
  Ar (Az prog w) A (collect (.ref S)) Q E s:=by
 have hSlt:S<s.heap.objs.size:=by obtain⟨o,es,ep,t,ho,-⟩:=hS;exact Ap ho
 unfold collect;refine Aa (bN (Dy F.entry_proto_collect ?_));rw[CN F.plain_proto_collect _];show Ar _ A.in1 (PD [] >>= λl=>Nb (.builtin "list.__iadd__" ⟨[l,.ref S],[]⟩)) _ _ s;refine Aa (BC ?_);refine Ad ⟨FU F.plain_list_iadd _,Dy F.entry_list_iadd ?_⟩;rw[CN F.plain_list_iadd _];show Ar _ A.in1 (E8 (.ref s.heap.objs.size) (.ref S) (.ref s.heap.objs.size)) _ _ _
 have hS1:CO w (s.heap.push {cls:=.type "list",data:=.seq ([]:List Ah).toArray}) S ks (!(w.params.followText "set-order")):=by
  obtain⟨o,es,ep,t,ho,C8⟩:=hS;exact⟨o,es,ep,t,Ag _ ho,C8⟩
 have hL:(s.heap.push {cls:=.type "list",data:=.seq ([]:List Ah).toArray}).get? s.heap.objs.size=some {cls:=.type "list",data:=.seq ([]:List Ah).toArray}:=Ax _ rfl
 have hT:Rq {s with heap:=s.heap.push {cls:=.type "list",data:=.seq ([]:List Ah).toArray} } (.ref S) "set":=by
  obtain⟨o,es,ep,t,ho,hex,-⟩:_:=hS1;exact⟨o,ho,hex.1⟩
 unfold E8;refine Aa (Fi hT ?_)
 rw [if_neg (by
  have:JD (.ref s.heap.objs.size) (.ref S)=false:=by simp[JD,EW hSlt]
  rw [this];decide)]
 refine Aa (zi hS1 λh' d I p ord hit hIn hk hfr hord=>?_)
 have hT':Rq {s with heap:=h',drawn:=d} (.ref S) "set":=by
  obtain⟨o,ho,hc⟩:=hT;exact⟨o,hk _ _ ho,hc⟩
 refine Aa (BQ ?_);unfold Zh;refine Aa (YO hT' m6 ?_);dsimp only;rw[ZeV];dsimp only;refine Aa (HP hT' Kx ?_);rw[if_neg (by decide)];refine vz (by kernel_rfl) ?_
 .refine Aa (Fi hT' (Ad ?_))
  show Ar _ A.in1 (Rl "list.extend.makes-room" >>= λ_=>Zg (.ref s.heap.objs.size) >>= λ_ =>
   Nb (.builtin "list.extend.loop" ⟨[.ref s.heap.objs.size,.ref I,.ref s.heap.objs.size],[]⟩)) _ _ _
  refine Aa (FD ?_);have hL1:=hk _ _ hL;refine Aa ?_;show Ar _ A.in1 (updateSeq s.heap.objs.size (·.push .none) >>= λ_=>updateSeq s.heap.objs.size (·.pop)) _ _ _;refine Aa (YN hL1 rfl ?_);have hL2:=Db (Hy (·.push Ed)) hL1 rfl;refine YN hL2 rfl ?_;have hL3:=Db (Hy (·.pop)) hL2 rfl
  have hnot:∀b∈[I,p],s.heap.objs.size≠b:=λb hb e=>by
   rcases hfr b hb with h|h
   .rw[<- e]at h;rw[hL]at h;cases h
   .rw[h]at e;exact EW hSlt e
  have hLn:s.heap.objs.size∉[I,S,p]:=by
   simp only[BA,AR,or_false,not_or];exact⟨hnot I (by simp),EW hSlt,hnot p (by simp)⟩
  have oth:∀b o,b≠s.heap.objs.size->h'.get? b=some o->((h'.update s.heap.objs.size (Hy (·.push Ed))).update s.heap.objs.size (Hy (·.pop))).get? b=some o:=
   λb o hb e=>(A9 _ _ (Bj hb)).trans ((A9 _ _ (Bj hb)).trans e)
  obtain⟨ys,hy1,hy2⟩:=hord
  have hol:ord.length<=Am:=by
   obtain⟨o,es,ep,t,ho,hex,hd,hes,hp,hsz,-⟩:_:=hS;have l1:=hy1.length_eq;have l2:=hp.length_eq;have l3:(GI es.toList).length=es.size:=by unfold GI;rw[Ab,Bt]
   have l4:=(jC hy2).symm;have:Be<=Am:=by decide
   ext
  refine Ad ⟨FU F.plain_extend_loop _,codeAny_extend_loopS (Wv (by simp[hh]) hIn) ?_ _ hLn _ ord.length 0 _ _ _ rfl (DO _) (hit.kept λb hb o e=>?_) hL3 (ItemsOf.nil _) λs' acc' c' hm hS' hacc=>?_⟩
  .exact hol
  .exact oth b o (λh=>hLn (h ▸ hb)) e
  .show Ar _ A (load s.heap.objs.size >>= _) _ _ s';refine Aa (wpAny_load hS' ?_)
   have e:acc'.toList=ord:=by
    apply Fn;intro j;rcases GZ j acc'.size with h|h
    .rw[C3,AW h];exact(hacc.2 j _ (AW h)).symm
    .rw[Bv (by simpa using h),Bv (by rw[<- hacc.1];exact h)]
   obtain⟨h2,g2,d2,tk2,os2⟩:=s';have eg:=hm.gens;have ed:d2=d:=hm.drawn;have eo:os2=s.os:=hm.os;subst eg;subst ed;subst eo;refine Ad ?_;rw[e];refine hQ h2 d2 tk2 ord ys hy1 hy2 λb o e=>?_;have hb:=A5 (Ap e);refine hm.heap b o ?_ (oth b o hb (hk b o (Ag _ e)));simp only[BA,AR,or_false,not_or];refine⟨hb,λe2=>?_⟩;rcases hfr I (by simp)with h|h
   .rw[<- e2,Ag _ e]at h;cases h
   .exact hIn (by simp[h])
theorem vM (hh:A.handled=none)(hS:CO w s.heap S ks (!(w.params.followText "set-order")))(h64:ks.length<64)
  (hQ:∀(h':CH) d tk (L:Av) (out:List Ah) (c:Nat) (ys:List Str),s.heap.get? L=none->S<L->h'.get? L=some (seqObj "list" out.toArray c)->KL out ys->ys.Perm ks->Kz ys=true->(∀b o,s.heap.get? b=some o->h'.get? b=some o)->Q (.ref L) {s with heap:=h',drawn:=d,toks:=tk}) :
  Ar (Az prog w) A (JY (.builtin "sorted") [.ref S]) Q E s:=by
 refine Calls.call_function_entry kind_sorted plain_sorted entry_sorted (args_sorted1 _) ?_;unfold D7.«sorted»;refine Aa (Ad ?_);refine Aa (za (by simp[hh]) hS λh1 d tk vs ys hy1 hy2 hk=>?_)
 have hvl:vs.length<64:=by
  have l1:=jC hy2;have l2:=hy1.length_eq;ext
 have hSL:S<h1.objs.size:=by
  obtain⟨o,es,ep,t,ho,-⟩:=hS;exact Ap (hk _ _ ho)
 refine Aa (wpAny_newList ?_);have hoL:(h1.push (seqObj "list" vs.toArray 0)).get? h1.objs.size=some (seqObj "list" vs.toArray 0):=Ax _ rfl
 have hfresh:s.heap.get? h1.objs.size=none:=by
  cases hq:s.heap.get? h1.objs.size with
  |none=>rfl
  |some o=>exact absurd (Ap (hk _ _ hq)) (EI _)
 refine Aa (BQ (BL slot_list_sort ⟨_,hoL,rfl⟩ entry_list_sort (list_sort_treeK strKind_oneLt hoL hy2.keysOf (λv₁ v₂ C8 e=>keyKind_strs (by rw[<- e];exact hy2)) hvl λst' a1 a2=>⟨_,rfl,?_⟩) (args_list_sort _)));obtain⟨ss',b1,b2,b3⟩:=sorted_out_str hy2 a1 a2;obtain⟨c,hc⟩:=sortedHeap_at hoL;refine Ad ⟨_,rfl,hQ _ d tk _ _ c ss' hfresh hSL (by rw[H0];exact hc) b1 (b2.trans hy1) b3 λb o e=>?_⟩;have hlt:=Ap (hk _ _ e);rw[sortedHeap_old (A5 hlt) (by rw[size_push'];exact Eh hlt),Heap.get?_push_ne _ _ _ (A5 hlt)];exact hk _ _ e
section
theorem A4.draw (I:A4 X Ae U H s)(d:Drawn):A4 X Ae U H {s with drawn:=d}:=
 ⟨I.ok,I.os,I.bare,I.base,I.loc,I.cell,I.free,I.freeC,I.pin,I.hok,I.len,I.fzd⟩
theorem bA:∀{vs:List Ah}{ys:List Str},KL vs ys->BF (ys.map V.str) vs
 |_,_,.nil=>.nil
 |_,_,.cons y t h=>.cons ⟨t,rfl⟩ (bA h)
def mI (K:Ac)(Q:VK)(x:V)(H1:Hp):Prop:=
 ∃p xs,x=.ref p/\F0 K H1 p (xs.map V.str)/\xs.length+1<Be/\(fm xs).length<64/\∀l ys,H1 l=none->ys.Perm (fm xs)->Kz ys=true->Q (.ref l) (Cv H1 l (.lst (ys.map V.str)))
def xG (K:Ac)(ta:TE):TE:=λU H Q=>ta U H (mI K Q)
theorem z5 (hc:X.calm=true)(ha:PE X e ta)(hm1:X.mg "sorted" = none)(hm2:X.mg "set" = none)(hg1:Gl X "sorted":=by rfl)(hg2:Gl X "set":=by rfl)
  (he:Au [e] X.env=(false,eval e X.env)::Au [] X.env:=by rfl) :
  PE X (.Call (.Name "sorted" p1) [.Call (.Name "set" p2) [e] [] pos2] [] pos) (xG X.K ta):=by
 intro Ae s U H Q I h;refine Cm (Qt I hg1 hm1 rfl ?_);refine EO ?_ rfl rfl;show Ar _ _ (UT ((false,eval (.Call (.Name "set" p2) [e] [] pos2) X.env)::Cb pos (Au [] X.env))) _ _ s;refine IN ?_;refine Cm (Qt I hg2 hm2 rfl ?_);refine Bz (Dl (ZR ha ZO he pos2 Ae s U H (λvs H1=>match vs with | [x]=>mI X.K Q x H1 | _=>False) I h) λus s1 e=>e.el λvs H1 I1 r1 q1=>?_) he rfl
 match vs,r1,q1 with
 |[x],r1,⟨p,xs,hx,hs,hz,h64,q⟩=>
  subst hx;obtain⟨u,rfl,ru⟩:=GH r1;cases(show u=AC p from ru);obtain⟨Bh,rv,pl,hzz⟩:=I1.list hs
  have hl:xs.length=Bh.toArray.size:=by
   have:=rv.length;simpa using this
  refine jJ (I1.ok.hd hc) pl.isList hl (λi v hi hv=>?_) (by ext) λh2 tk2 hS hk2=>?_
  .obtain⟨u,hu,ru⟩:=rv.get (by rw[AJ,Af hi];rfl);rw[DU]at hv;rw[hu]at hv;cases hv;exact ru
  .refine Jn ?_;refine vM (I1.ok.hd hc) hS h64 λh3 d tk3 L out c ys hf hSL hL hst hp hsrt hk3=>?_;refine⟨.ref L,_,((I1.draw d).laid (o:=.lst (ys.map V.str)) (λb u eb=>hk3 b u (hk2 b u eb)) (Fl hSL) ⟨?_,out,c,bA hst,hL⟩),rfl,q L ys ?_ hp hsrt⟩
   .rw[Ab,hp.length_eq];have:(64:Nat)<=Am:=by decide
    ext
   .exact I1.hok.fresh (Fl hSL)
end
noncomputable def OR (a b:Str):Bool:=!ltCps b.cps.toList a.cps.toList
noncomputable def Iv (xs:List Str):List Str:=(fm xs).mergeSort OR
theorem Up :OR a b=true↔a.cps.toList<=b.cps.toList:=by
 unfold OR;rw[ltCps_eq];simp
theorem UB (a b c:Str)(h1:OR a b=true)(h2:OR b c=true):OR a c=true:=Up.mpr (List.le_trans (Up.mp h1) (Up.mp h2))
theorem VH (a b:Str):(OR a b || OR b a)=true:=by
 rcases List.le_total a.cps.toList b.cps.toList with h|h
 .rw[Up.mpr h];rfl
 .rw[Up.mpr h,Vf]
theorem aL (h1:OR a b=true)(h2:OR b a=true):a=b:=by
 have e:=List.le_antisymm (Up.mp h1) (Up.mp h2);cases a;cases b;simpa using e
theorem tY:∀r x,risingS x r=true->(x::r).Pairwise (λa b=>OR a b=true)
 |[],x,_=>by simp
 |y::r,x,h=>by
  unfold risingS at h;rw[Bo]at h;have ih:=tY r y h.2;rw[Pe]at ih ⊢;refine⟨λb hb=>?_,Pe.mpr ih⟩;rcases Bc.mp hb with rfl|hb
  .exact h.1
  .exact UB x y b h.1 (ih.1 b hb)
theorem uA:∀l,Kz l=true->l.Pairwise (λa b=>OR a b=true)
 |[],_=>.nil
 |x::r,h=>tY r x h
theorem rR (h1:ys.Perm (fm xs))(h2:Kz ys=true):ys=Iv xs:=
 G1 (λa b _ _ p q=>aL p q) (uA _ h2) (Di UB VH _) (h1.trans (DS _ _).symm)
theorem iX (xs):(Iv xs).length=(fm xs).length:=(DS _ _).length_eq
section
theorem ats_strs :∀{vs:List V}{ss:List Str},Dm Z vs (ss.map D.str)->vs=ss.map V.str
 |[],[],_=>rfl
 |v::vs,s::ss,.cons h t=>by
  cases(show v=V.str s from h);rw[ats_strs t];rfl
theorem Yw :∀(ss:List Str),Dm Z (ss.map V.str) (ss.map D.str)
 |[]=>.nil
 |s::ss=>.cons rfl (Yw ss)
unseal BU
def lL (ta:DQ):DQ:=λτ M Q=>ta τ M λx M1=>Cw (Bi M1 x) λds=>Cw (Em ds) λxs=>xs.length+1<Be/\(fm xs).length<64/\∀p,M1 p=none->Q (.ref p) (put M1 p (.lst ((Iv xs).map D.str)))
theorem mD (hc:X.calm=true)(hm1:X.mg "sorted" = none)(hm2:X.mg "set" = none)(ha:BU X e ta)(hg1:Gl X "sorted":=by rfl)(hg2:Gl X "set":=by rfl)
  (he:Au [e] X.env=(false,eval e X.env)::Au [] X.env:=by rfl):BU X (.Call (.Name "sorted" p1) [.Call (.Name "set" p2) [e] [] pos2] [] pos) (lL ta):=PE.mono (z5 hc ha hm1 hm2 hg1 hg2 he) (by
 intro U H Q;ext1⟨Z,τ,M,Q2,st,hr,h,k⟩;refine ⟨Z,τ,M,_,st,hr,h,λZ1 v d H1 M1 l1 h1 a1 q1=>?_⟩;obtain ⟨ds,e1,q2⟩:=Cj q1;obtain ⟨xs,e2,hz,h64,q3⟩:=Cj q2;obtain ⟨p,vs,rfl,hs,a2⟩:=h1.rdL e1 a1;have e3:=VI e2;subst e3;have e4:=ats_strs a2;subst e4;refine ⟨p,xs,rfl,hs,hz,h64,λl ys hl hp hq=>?_⟩;rw [rR hp hq];exact (k.le l1).l h1 hl (Yw _) q3)
unseal EF
def P7 (K:Ac):V->List V->Hp->VK->Prop:=λx vs H Q=>∃l b xs zs,x=.ref l/\vs=[.ref b]/\H l=some (.lst xs)/\F0 K H b zs/\xs.length+zs.length<=Am/\Q .non (Cv H l (.lst (xs++zs)))
theorem wc:YI X "list.extend" (P7 X.K):=by
 intro Ae s U H x vs v us Q I rx rv;ext1⟨l,b,xs,zs,e1',e2',hH,hB,hz,q⟩;cases rx;obtain⟨u,rfl,ru⟩:=rv.one;cases ru;obtain⟨z,Bh,n,r,hl,e⟩:=I.lstM hH;obtain⟨its2,r2,⟨o2,n2,e2,c2,d2,s2⟩,z2⟩:=I.list hB;have hl2:=r2.length;refine BL F.slot_list_extend ⟨_,e,rfl⟩ F.entry_list_extend ?_ (F.args_list_extend_2 _ _);unfold D7.«list.extend»;refine Aa (BY rfl ?_);dsimp only;unfold E8;refine Aa (Fi ⟨o2,e2,c2⟩ ?_);rw[if_pos (by simp)];refine Aa (listItems_at e2 s2 ?_);refine Aa (listItems_at e rfl ?_);have hsz:Bh.toArray.size+its2.toArray.size<=Am:=by rw[AU,AU];ext
 rw[if_neg (by rw[Qf hsz,E3];exact Aj)];refine Aa (listUpdate_at e rfl ?_ (by rw[AU];ext) (by simp only[LJ];ext));refine Ad ⟨_,rfl,.non,_,I.lset hH e (by simp) (r.append r2) ?_,rfl,q⟩;rw[As];ext
def Gi:D->List D->Mp->Ef->Prop:=λx xs M Q=>JF x λp=>Ga xs λy=>match M p with
 |some (.lst ys)=>Cw (Bi M y) λzs=>ys.length+zs.length<=Am/\Q .non (put M p (.lst (ys++zs)))
 |_=>False
theorem R8:EF X "list.extend" Gi:=MP.mono wc (by
 intro x xs H Q;ext1⟨Z,d,ds,M,Q2,hr,a,as,h,k⟩;obtain⟨p,rfl,h1⟩:=Ia h;obtain⟨y,rfl,h2⟩:=G4 h1;cases(show x=V.ref p from a);obtain⟨v,rfl,av⟩:=Ic as;split at h2
 .next ys e=>
  obtain⟨zs,e2,hl,q⟩:=Cj h2;obtain⟨vs,r,a2⟩:=hr.rdM e;obtain⟨b,ws,rfl,hs,a3⟩:=hr.rdL e2 av;refine⟨p,b,vs,ws,rfl,rfl,r,hs,by rw[a2.length,a3.length];exact hl,?_⟩;exact k Z .non .non _ _ (Le.refl _) (hr.chgL e (a2.append a3)) rfl q
 .exact h2.elim)
end
end L2
namespace L3
open PySem PySem.Spec PyProof.Rows L2
noncomputable def mergeK (kvs more:List (Co×V)):List (Co×V):=more.foldl (λacc kv=>putK acc kv.1 kv.2) kvs
noncomputable def Ix (kvs more:List (Co×D)):List (Co×D):=more.foldl (λacc kv=>H9 acc kv.1 kv.2) kvs
theorem sA:∀{more:List (Co×V)}{ms:List (Co×Ah)},KV more ms->∀{kvs:List (Co×V)}{vs:List (Co×Ah)},KV kvs vs->KV (mergeK kvs more) (Jg vs ms)
 |_,_,.nil,_,_,r=>r
 |_,_,.cons (a:=p) (b:=q) h t,kvs,vs,r=>by
  have e:stored vs q.1 q.2=stored vs p.1 q.2:=by rw[h.1]
  have:=sA t (r.put p.1 h.2);unfold Jg at this ⊢;rw[DI,e];exact this
theorem uI:∀(more kvs:List (Co×V)),(mergeK kvs more).length<=kvs.length+more.length
 |[],kvs=>AH _
 |m::more,kvs=>by
  have h1:=uI more (putK kvs m.1 m.2);have h2:=aP kvs m.1 m.2;unfold mergeK at h1 ⊢;rw[DI,AK];ext
theorem uZ :∀{more:List (Co×V)}{ms:List (Co×D)},CV Z more ms->∀{kvs:List (Co×V)}{vs:List (Co×D)},CV Z kvs vs->CV Z (mergeK kvs more) (Ix vs ms)
 |_,_,.nil,_,_,r=>r
 |_,_,.cons (a:=p) (b:=q) h t,kvs,vs,r=>by
  have:=uZ t (r.put (k:=p.1) h.2);unfold mergeK Ix at this ⊢;rw[DI,DI,<- h.1];exact this
section
end
section
unseal EF
unseal BU Gj
end
end L3
namespace PySem
open Sem (wp)
section
variable {prog:Bp}{w:BK}{K:Type}[DecidableEq K]{knd:KeyKind prog w K}{A:Cu}  {s:Aq}
def QE (knd:KeyKind prog w K)(h:CH)(kvs:List (K×Ah))(j:Nat)(v:Ah):Prop:=∃a key k x,v=.ref a/\kvs[j]? = some (k,x)/\knd.is k key=true/\h.get? a=some {cls:=.type "tuple",data:=.seq #[key,x]}
theorem QE.at {h h':CH}{kvs:List (K×Ah)}{j:Nat}{v:Ah}(x:QE knd h kvs j v)(e:∀a,v=.ref a->∀o,h.get? a=some o->h'.get? a=some o):QE knd h' kvs j v:=by
 obtain⟨a,key,k,x,e1',h1,h2,h3⟩:_:=x;exact⟨a,key,k,x,rfl,h1,h2,e a rfl _ h3⟩
end
end PySem
namespace L2
open PySem PySem.Spec PyProof.Rows L3
section
end
end L2
namespace L3
open PySem PySem.Spec PyProof.Rows L2
noncomputable def G5 (kvs:List (Co×D)):List D:=kvs.map λkv=>.tup [kD kv.1,kv.2]
section
variable {X:Cx}
unseal BU
unseal Dw
def PU (j:Nat)(t:HM):HM:=λE τ M=>Cw (τ[j]?).join λd=>JF d λp=>match M p with
 |some (.lst ds)=>t E (τ.set j (some (.lst ds))) (JU M p)
 |_=>False
theorem Ut (j)(h:Dw X body t):Dw X body (PU j t):=K3.mono h (by
 intro D U H;ext1⟨Z,τ,M,D2,st,hr,h,er⟩;obtain⟨d,e,q0⟩:=Cj h;obtain⟨p,ed,q⟩:=Ia q0;subst ed;obtain⟨v,e1,a⟩:=st.get (EL.mp e);cases(show v=.ref p from a);cases e2:M p with
 |none=>rw[e2]at q;exact q.elim
 |some o=>
  cases o with
  |dic ds=>rw[e2]at q;exact q.elim
  |dct ds=>rw[e2]at q;exact q.elim
  |obj C fs=>rw[e2]at q;exact q.elim
  |lst kvs=>
   rw[e2]at q;have q':=q;have st2:=(st.mono (Le.ext)).set (d:=.lst kvs) ⟨p,rfl,.inr ⟨rfl,rfl⟩⟩ j
   have e3:U.set j (some (.ref p))=U:=by
    apply Fn;intro i;rw[PM];by_cases hij:j=i
    .subst hij;obtain⟨hj,ej⟩:=Ai.mp e1;simp[hj,ej]
    .simp[hij]
   rw [e3] at st2;exact ⟨_,_,_,D2,st2,hr.frzL e2,q',er.le Le.ext⟩)
section
def Nt (wi:MN)(n:Nat)(caps:List (Str×Nat))(tt:Ks)(te:DQ):DQ:=λτ M Q=>wi τ M λxs S M1=>Lh n xs S caps tt te τ M1 λys M2=>∀p,M2 p=none->Q (.ref p) (put M2 p (.lst ys))
theorem T5 {K:Ac}(ht:∀U H Q,lT K tt U H Q->tt1 U H Q):∀U H Q,lE K (Nt wi n caps tt te) U H Q->Nw (lI K wi) n caps tt1 (lE K te) K U H Q:=by
 intro U H Q;ext1⟨Z,τ,M,Q2,st,hr,h,k⟩;exact xo st hr h ht λZ1 H1 M1 vs ds l1 h1 a1 q p hp=>(k.le l1).l h1 hp a1 q
unseal Hq
theorem TX (B:Kj X scope x ns caps)(hc:X.calm=true)(hi:Hq X (.Tuple tes tk px) iter wi)(he:∀cl C fp pn s H,BU (FZ X scope cl C (x::(ns++caps.map (·.1))) fp pn s H) elt te)
  (hg:∀cl C fp pn s H,Te (FZ X scope cl C (x::(ns++caps.map (·.1))) fp pn s H) tes (Gu (Bk (ns.length+1)))) (hgn:∀cl C fp pn s H,(CQ tes (FZ X scope cl C (x::(ns++caps.map (·.1))) fp pn s H).env).length=ns.length+1:=by intros;rfl) (hgf:∀cl C fp pn s H,LU (λy=>y.1) (CQ tes (FZ X scope cl C (x::(ns++caps.map (·.1))) fp pn s H).env)=none:=by intros;rfl)
  (hs:∀x,Ba iter X.env x=pure x:=by intro _;rfl):BU X (.ListComp elt [⟨.Tuple tes tk px,iter,[],0⟩] scope pos) (Nt wi (ns.length+1) caps Ha te):=PE.mono (qk (te:=lE X.K te) B hc hi he (λ_ _ _ _ _ _=>GN.nil) hg hgn hgf hs) (T5 Ld)
end
end
end L3
namespace PySem
open Sem (wp)
theorem θ:MQ (.type "list") "keys" = pure none:=by rw[IE,FA];kernel_rfl
section
theorem ux (hx:s.heap.get? a=some {cls:=.type "list",dict:=none,data:=.seq xs k,slots:=sl})(hA:A.handled=none)
  (h:∀h' tk,(∀b u,s.heap.get? b=some u->h'.get? b=some u)->Q none {s with heap:=h',toks:=tk}):Ar (Az prog w) A (getAttr? (.ref a) "keys") Q E s:=by
 obtain⟨hp,g,d,tk,os⟩:=s;have hT:∀tk',(⟨hp,g,d,tk',os⟩:Aq).TypeIs (.ref a) "list":=λ_=>⟨_,hx,rfl⟩;have f1:=sub_AttributeError;have f3:=F.slot_list_getattribute.lookup;have f4:=F.slot_list_getattribute.bind (.ref a);have f5:=am_list_getattr_none;unfold getAttr? getAttrBy? getAttrBy
 repeat (any_goals (first | assumption | exact hT _ | ((with_reducible show Ar _ _ (JY (Value.builtin "list.__getattribute__") _ _) _ _ _);refine Iq F.slot_list_getattribute (hT _) am_entry_list_getattribute (F.args_list_getattribute_2 _ _) (meets_getattribute_miss_list a xs k sl "keys" _ θ (by nofun) (by nofun)) ⟨hx,hA,λh' tk' e hx'=>?_⟩) | wp_step))
 obtain⟨t',u',he⟩:=hx'.there;show Ar _ _ (Tn _ _ _ _ _ _ _) _ _ _;unfold Tn
 repeat (any_goals (first | assumption | wp_step))
 exact h _ _ hx'.keeps
end
theorem wU:KI US "dict.update.loop" = some D7.«dict.update.loop»:=V1 (by kernel_rfl)
theorem bB:plainId "dict.update.loop" = true:=by nofun
section
variable {prog:Bp}{w:BK}{K:Type}[DecidableEq K]{knd:KeyKind prog w K}
def LH (knd:KeyKind prog w K)(h:CH)(v:Ah)(k:K)(x:Ah):Prop:=∃a key o n,v=.ref a/\knd.is k key=true/\h.get? a=some o/\o.cls=.type "tuple"/\o.data=.seq #[key,x] n
theorem yv {kvs:List (K×Ah)}(h:kvs[i]? = some p):Jg [] (kvs.take (i+1))=stored (Jg [] (kvs.take i)) p.1 p.2:=merged_take_succ [] kvs i p h
theorem t6 {d it l:Av}{lo:Nat}{items:Array Ah}{pairs:List (K×Ah)}{R:Tq->Aq->Prop}(hh:A.handled=none)(hlen:items.size=pairs.length)(hsz:pairs.length<=Am)(hdl:lo<=d)(hil:lo<=it)(hne:d≠it)(hl:l<lo)
  (hp:∀(i:Nat) v,items[i]? = some v->∃a,v=.ref a/\a<lo) (res:Ah) :
  ∀k i s tk0,pairs.length-i=k->i<=pairs.length->s.heap.IsListIter it l i->s.heap.IsList l items->s.heap.DictOf knd d (Jg [] (pairs.take i)) ->
   (∀(j:Nat) v p,items[j]? = some v->pairs[j]? = some p->LH knd s.heap v p.1 p.2) ->
   (∀h' tk,(∀b o,b<lo->s.heap.get? b=some o->h'.get? b=some o)->h'.DictOf knd d (Jg [] pairs)->R (.ok (.ret res)) {s with heap:=h',toks:=tk}) ->
   DP (Az prog w) A (.builtin "dict.update.loop" ⟨[.ref d,.ref it,.int (i:Int) tk0,res],[]⟩) R s:=by
 have nd:∀b,b<lo->b≠d:=λb h=>A5 (Bm h hdl);have ni:∀b,b<lo->b≠it:=λb h=>A5 (Bm h hil);intro k;induction k with
 |zero=>
  intro i s tk0 hk hi hit hls hd hpr hR;have hin:i=pairs.length:=by ext
  subst hin;refine Dy wU ?_;rw[CN bB _];show Ar _ A.in1 (Ip (.ref it) >>= _) _ _ s;refine Aa (QI hh hit hls (by rw[<- hlen];simp) λh' he'=>?_);rw[BD]at hd;obtain⟨o,es,ep,ho,C8⟩:=hd;show Ar _ _ (Zl d [] >>= _) _ _ _;exact Aa (Ad (Ad (hR h' s.toks (λb o hb e=>he' b o (ni b hb) e) ⟨o,es,ep,he' d o hne ho,C8⟩)))
 |succ k ih=>
  intro i s tk0 hk hi hit hls hd hpr hR;have hlt:i<pairs.length:=by ext
  have hlt':i<items.size:=by ext
  refine Dy wU ?_;rw[CN bB _];show Ar _ A.in1 (Ip (.ref it) >>= _) _ _ s;refine Aa (Pw hit hls (AW hlt') λh1 hit1 sb=>?_);obtain⟨a,key,o,n,ev,hkey,ho,hoc,hod⟩:_:=hpr i _ _ (AW hlt') (Af hlt)
  have hal:a<lo:=by
   obtain⟨a',e',hl'⟩:=hp i _ (AW hlt');rw[ev]at e';cases e';exact hl'
  have ho1:=(sb.2 a (ni a hal)).trans ho
  have hd1:h1.DictOf knd d (Jg [] (pairs.take i)):=by
   obtain⟨o,es,ep,ho,C8⟩:=hd;exact⟨o,es,ep,(sb.2 d hne).trans ho,C8⟩
  have hml:(Jg [] (pairs.take i)).length<=Am:=by
   have e1:=merged_length_le ([]:List (K×Ah)) (pairs.take i);rw[A6,EB]at e1;ext
  rw[ev];dsimp only;refine Aa (BQ ?_);refine Aa (wpAny_tryCatch ?_);unfold Zj;refine Aa (Fi ⟨o,ho1,hoc⟩ ?_);rw[if_pos (by decide)];refine Aa (GW ho1 hod (Ad ?_));show Ar _ _ (GD [key,pairs[i].2] (dictSet d key pairs[i].2)) _ _ _;refine BQ (wpAny_dictSet_pairs hkey hd1 λh2 hd2 sb2=>?_);refine Ad ⟨FU bB _,?_⟩;have ec:(i:Int)+1=((i+1:Nat):Int):=by ext
  show DP _ _ (.builtin "dict.update.loop" ⟨[.ref d,.ref it,.int ((i:Int)+1) 0,res],[]⟩) _ _;rw[ec];have keep:∀b o,b<lo->s.heap.get? b=some o->h2.get? b=some o:=λb o hb e=>(sb2.2 b (nd b hb)).trans ((sb.2 b (ni b hb)).trans e);refine ih (i+1) _ 0 (by ext) hlt ?_ ?_ ?_ ?_ λh' tk hk' hd'=>hR h' tk (λb o hb e=>hk' b o hb (keep b o hb e)) hd'
  .obtain⟨oi,hoi,r⟩:=hit1;exact⟨oi,(sb2.2 it (Bj hne)).trans hoi,r⟩
  .obtain⟨ol,hol,r⟩:=hls;exact⟨ol,keep l ol hl hol,r⟩
  .rw[yv (Af hlt)];exact hd2
  .intro j v p hv hj;obtain⟨a',key',o',n',e1',r1,r2,r3⟩:_:=hpr j v p hv hj;obtain⟨a2,e2,hl2⟩:=hp j _ hv;cases e2;exact⟨a',key',o',n',rfl,r1,keep a' o' hl2 r2,r3⟩
theorem t5 {s:Aq}{l:Av}{items:Array Ah}{n:Nat}{sl:Array (Option Ah)}{pairs:List (K×Ah)}{Q:Ah->Aq->Prop}(hh:A.handled=none)(hx:s.heap.get? l=some {cls:=.type "list",dict:=none,data:=.seq items n,slots:=sl})(hlen:items.size=pairs.length)(hsz:pairs.length<=Am)
  (hpr:∀(j:Nat) v p,items[j]? = some v->pairs[j]? = some p->LH knd s.heap v p.1 p.2)
  (hQ:∀h' tk,(∀b o,s.heap.get? b=some o->h'.get? b=some o)->h'.DictOf knd s.heap.objs.size (Jg [] pairs)->Q (.ref s.heap.objs.size) {s with heap:=h',toks:=tk}) :
  Ar (Az prog w) A (JY (.type "dict") [.ref l]) Q E s:=by
 refine callType_codes (Q₁:=λobj s₁=>obj=.ref s.heap.objs.size/\s₁={s with heap:=s.heap.push {cls:=.type "dict",data:=.dict #[]} }) F.kt_called_dict (F.kt_typeCall_dict_1 _) F.entry_dict_init (kt_code_dict_new _ ⟨rfl,rfl⟩) ?_;rintro obj s₁ ⟨rfl,rfl⟩;have hnew:(s.heap.push {cls:=.type "dict",data:=.dict #[]}).DictOf knd s.heap.objs.size []:=ME s.heap;have hx':(s.heap.push {cls:=.type "dict",data:=.dict #[]}).get? l=some {cls:=.type "list",dict:=none,data:=.seq items n,slots:=sl}:=Ag _ hx;have hll:=Ap hx;refine⟨hnew.typeIs,F.args_dict_init_2 _ _,?_⟩;unfold D7.«dict.__init__»;refine Aa ?_;unfold Zi;refine Aa (QJ hnew.typeIs ?_);show Ar _ _ (pure (s.heap.objs.size,[AC l])) _ _ _;refine Ad ?_;show Ar _ _ (JL "dict.__init__" s.heap.objs.size (.ref l) [] .none) _ _ _;unfold JL;refine Aa (Fi (T:="list") ⟨_,hx',rfl⟩ ?_);rw[if_pos (by decide)];refine Aa (ux hx' hh λh1 tk1 k1=>?_);simp only[Option.isNone_none,if_true];refine Aa (FD ?_);have hl1:=k1 _ _ hx';refine Aa (Hr (items:=items) ⟨_,hl1,rfl,n,rfl⟩ ?_);have kk:∀b o,s.heap.get? b=some o->(h1.push {cls:=.type "list_iterator",data:=.fields #[.ref l,.int 0 0]}).get? b=some o:=λb o e=>Ag _ (k1 b o (Ag _ e))
 have hds:s.heap.objs.size<h1.objs.size:=by
  obtain⟨o,_,_,ho,_⟩:=hnew;exact Ap (k1 _ _ ho)
 have hls:(h1.push {cls:=.type "list_iterator",data:=.fields #[.ref l,.int 0 0]}).IsList l items:=⟨_,Ag _ hl1,rfl,n,rfl⟩;have hit:(h1.push {cls:=.type "list_iterator",data:=.fields #[.ref l,.int 0 0]}).IsListIter h1.objs.size l 0:=⟨_,Ax _ rfl,rfl,rfl⟩;refine Ad ⟨FU bB _,?_⟩;refine t6 (A:=A.in1) (knd:=knd) (lo:=s.heap.objs.size) (pairs:=pairs) hh hlen hsz (AH _) (Fl hds) (A5 hds) hll (λi v hv=>?_) .none pairs.length 0 {s with heap:=h1.push {cls:=.type "list_iterator",data:=.fields #[.ref l,.int 0 0]},toks:=tk1} 0 rfl (DO _) hit hls ?_ ?_ λh' tk hk hd=>?_
 .have hi:i<pairs.length:=by
   rw[<- hlen];exact(Ee.mp hv).1
  obtain⟨a,key,o,n',e1',_,ho,_⟩:_:=hpr i v _ hv (Af hi);exact⟨a,rfl,Ap ho⟩
 .obtain⟨o,es,ep,ho,C8⟩:=hnew;exact⟨o,es,ep,Ag _ (k1 _ _ ho),C8⟩
 .intro j v p hv hj;obtain⟨a,key,o,n',e1',r1,ho,r2⟩:_:=hpr j v p hv hj;exact⟨a,key,o,n',rfl,r1,kk a o ho,r2⟩
 .exact⟨rfl,hQ h' tk (λb o e=>hk b o (Ap e) (kk b o e)) hd⟩
end
end PySem
namespace L3
open PySem PySem.Spec PyProof.Rows L2
section
theorem i9 (h:DX F l [b,c]):∃x y,l=[x,y]/\F x b/\F y c:=by
 cases h with
 |cons h t=>
  cases t with
  |cons h' t'=>cases t';exact⟨_,_,rfl,h,h'⟩
theorem qb (h:DX F [b,c] l):∃x y,l=[x,y]/\F b x/\F c y:=by
 cases h with
 |cons h t=>
  cases t with
  |cons h' t'=>cases t';exact⟨_,_,rfl,h,h'⟩
theorem og (I:A4 X Ae U H s)(hr:HR X.K H M Z)(h:At Z v (.tup [kD k,d]))(r:RelV v u) :
  ∃w2 u2,At Z w2 d/\RelV w2 u2/\LH (BO X.prog X.w) s.heap u k u2:=by
 obtain⟨p,ws,rfl,hs,aw⟩:=hr.rdT h;have eu:=r;subst eu;obtain⟨its2,rv,ht,_⟩:=I.tuple hs;obtain⟨w1,w2,rfl,a1,a2⟩:=i9 aw;obtain⟨u1,u2,rfl,r1,r2⟩:=qb rv;have e1:=Vx a1;subst e1;obtain⟨o,e,c,n,hd⟩:=ht;exact⟨w2,u2,a2,r2,p,u1,o,n,rfl,RY r1,e,c,hd⟩
theorem jm (h:DX F l (b::m)):∃x r,l=x::r/\F x b/\DX F r m:=by
 cases h with
 |cons h t=>exact⟨_,_,rfl,h,t⟩
theorem rl (h:DX F (b::m) l):∃x r,l=x::r/\F b x/\DX F m r:=by
 cases h with
 |cons h t=>exact⟨_,_,rfl,h,t⟩
theorem gg (h:DX F l []):l=[]:=by cases h;rfl
theorem nk (h:DX F [] l):l=[]:=by cases h;rfl
theorem yj :G5 ((k,d)::ps)=.tup [kD k,d]::G5 ps:=rfl
theorem qh (I:A4 X Ae U H s)(hr:HR X.K H M Z)(ps:List (Co×D)):∀vs Bh,Dm Z vs (G5 ps)->BF vs Bh ->
  ∃(ks:List (Co×V)) (prs:List (Co×Ah)),KV ks prs/\CV Z ks ps/\Bh.length=prs.length/\∀(j:Nat) v p,Bh[j]? = some v->prs[j]? = some p->LH (BO X.prog X.w) s.heap v p.1 p.2:=by
 induction ps with
 |nil=>intro vs Bh ha hv;have e:=gg ha;subst e;have e:=nk hv;subst e;exact⟨[],[],.nil,.nil,rfl,λj v p h=>by simp at h⟩
 |cons kd ps ih=>
  intro vs Bh ha hv;obtain⟨k,d⟩:=kd;rw[yj]at ha;obtain⟨v,vs',rfl,h,t⟩:=jm ha;obtain⟨u,us',rfl,r,rs⟩:=rl hv;obtain⟨ks,prs,h1,h2,h3,h4⟩:=ih vs' us' t rs;obtain⟨w2,u2,a2,r2,pa⟩:=og I hr h r;refine⟨(k,w2)::ks,(k,u2)::prs,.cons ⟨rfl,r2⟩ h1,.cons ⟨rfl,a2⟩ h2,by rw[AK,AK,h3],λj v p hv hp=>?_⟩;cases j with
  |zero=>rw[G8]at hv hp;cases hv;cases hp;exact pa
  |succ j=>rw[G9]at hv hp;exact h4 j v p hv hp
theorem xp (hc:X.calm=true)(I:A4 X Ae U H s)(r:BF xs us)(hr:HR X.K H M Z)(a:Dm Z xs [x])(e:Bi M x=some (G5 ps))(hz:ps.length<=Am)
  (q:∀ks p,CV Z ks (Ix [] ps)->H p=none->Q (.ref p) (Cv H p (.dK ks))):Ar (Az X.prog X.w) X.A (JY (.type "dict") us) (EP X Ae U Q) X.xe s:=by
 obtain⟨v,rfl,a1⟩:=Ic a;obtain⟨p,vs,rfl,hs,a2⟩:=hr.rdL e a1;obtain⟨u,rfl,ru⟩:=GH r;have eu:=ru;subst eu;obtain⟨Bh,rv,⟨o,n,e2,c2,d2,s2⟩,_⟩:=I.list hs;obtain⟨ks,prs,h1,h2,h3,h4⟩:=qh I hr ps vs Bh a2 rv;obtain⟨oc,od,oa,os⟩:=o;simp only at c2 d2 s2;subst c2 d2 s2;have hl:ps.length=prs.length:=by rw[<- DW h2];exact h1.length
 refine t5 (I.ok.hd hc) e2 (by rw[AU];exact h3) (by rw[<- hl];exact hz) (λj v p hv hp=>h4 j v p (by rw[DU]at hv;exact hv) hp) λh' tk hk dd=>?_;have kk:=sA h1 .nil
 have hm:(mergeK [] ks).length<=Am:=by
  have:=uI ks [];rw[EB,Ey,DW h2]at this;ext
 exact⟨.ref s.heap.objs.size,_,I.laid hk (AH _) (ZM hm (beq_eq_false_iff_ne.mpr (Bj (A5 I.big))) kk dd),rfl,q _ _ (uZ h2 .nil) (I.hok.fresh (AH _))⟩
unseal BP
theorem aI (hc:X.calm=true):BP X (.type "dict") (λxs M Q=>Ga xs λx=>∃ps,Bi M x=some (G5 ps)/\ps.length<=Am/\Q (.dic (Ix [] ps)) M):=by
 intro Ae s U H xs us Q I r;ext1⟨Z,ds,M,Q2,hr,a,h,k⟩;obtain⟨x,rfl,ps,e,hz,q⟩:=G4 h;exact xp hc I r hr a e hz λks p a2 hp=>k.fd hr hp a2 q
end
end L3
namespace L2
open PySem PySem.Spec PyProof.Rows L3
section
end
end L2
namespace L3
open PySem PySem.Spec PyProof.Rows L2
section
unseal EF Cf
end
def W7:K2:=λx y M Q=>Cw (Hj M y) λys=>∃f:D->Bool,(∀z∈ys,EN M 40 z x=some (f z))/\Q (.bl (ys.any f)) M
theorem am {Bh:List Ah}{ys:List D}{f:D->Bool}{g:Ah->Bool}(hl:Bh.length=ys.length)(hg:∀w,g w=true↔∃(j:Nat) (d:D),Bh[j]? = some w/\ys[j]? = some d/\f d=true):Bh.toArray.any g=ys.any f:=by
 rw[show Bh.toArray.any g=Bh.any g by simp,D3,DH,DH];constructor
 .rintro⟨w,_,h⟩;obtain⟨j,d,_,e2,e3⟩:=(hg w).mp h;exact⟨d,AE e2,e3⟩
 .rintro⟨d,hd,h⟩;obtain⟨j,hj,rfl⟩:=N6.mp hd;exact⟨Bh[j],F5 _,(hg _).mpr ⟨j,ys[j],Af (by ext),Af hj,h⟩⟩
theorem tN {X:Cx}{Ae:List (Av×Obj)}{U:St}{H:Hp}{s:Aq}{M:Mp}{Z:Zt}{A:Cu}{x:V}{v:Ah}{dx:D}{vs:List V}{Bh:List Ah}{ys:List D}{f:D->Bool}(I:A4 X Ae U H s)(hr:HR X.K H M Z)(hu:A.units+40<DV)(ax:At Z x dx)(rx:RelV x v)(a:Dm Z vs ys)(r:BF vs Bh)(hf:∀z∈ys,EN M 40 z dx=some (f z)) :
  ∃g:Ah->Bool,(∀w,w∈Bh.toArray->EK A s w v (g w))/\Bh.toArray.any g=ys.any f:=by
 obtain⟨g,hg⟩:∃g:Ah->Bool,∀w,g w=true↔∃(j:Nat) (d:D),Bh[j]? = some w/\ys[j]? = some d/\f d=true:=⟨λw=>@decide _ (Classical.propDecidable (∃(j:Nat) (d:D),Bh[j]? = some w/\ys[j]? = some d/\f d=true)),λw=>by simp⟩;have l1:=a.length;have l2:=r.length;refine⟨g,λw hw=>?_,am (by ext) hg⟩
 have at_:∀j,Bh[j]? = some w->∃d,ys[j]? = some d/\EK A s w v (f d):=λj hj=>by
  obtain⟨hj1,hj2⟩:=Ai.mp hj;obtain⟨v1,d1,_,e1,z1,q1⟩:=Ui r a j (by simpa using hj1);refine⟨d1,e1,gR I hr 40 z1 ax (by simpa[hj2]using q1) rx (by ext) (hf d1 (AE e1))⟩
 by_cases c:g w=true
 .obtain⟨j,d,h1,h2,h3⟩:=(hg w).mp c;obtain⟨d',h4,h5⟩:=at_ j h1;rw[h2]at h4;cases h4;rw[c,<- h3];exact h5
 .obtain⟨j,hj,hw2⟩:=N6.mp (by simpa using hw:w∈Bh);have h1:Bh[j]? = some w:=by rw[Af hj,hw2]
  obtain⟨d',h4,h5⟩:=at_ j h1
  have h6:f d'=false:=by
   cases h7:f d' with
   |false=>rfl
   |true=>exact absurd ((hg w).mpr ⟨j,d',h1,h4,h7⟩) c
  rw[show g w=false by simpa using c,<- h6];exact h5
unseal Cf
theorem nI (hu:X.A.units+41<DV):Cf X (Bb .In) W7:=by
 intro Ae s U H x y v u Q I rx ry;ext1⟨Z,dx,dy,M,Q2,hr,ax,ay,h,k⟩;obtain⟨ys,e,f,hf,q⟩:=Cj h;obtain⟨p,vs,rfl,hs,a⟩:=hr.rdS e ay;cases(show u=AC p from ry);rcases hs with hs|hs
 .obtain⟨Bh,r,pl,_⟩:=I.list hs;obtain⟨g,hg,e2⟩:=tN I hr (A:=X.A.in1) (by show X.A.units+1+40<DV;ext) ax rx a r hf;refine QK g pl.isList hg ⟨.bl _,H,I,rfl,?_⟩;rw[e2];exact k.b hr q
 .obtain⟨Bh,r,pl,_⟩:=I.tuple hs;obtain⟨g,hg,e2⟩:=tN I hr (A:=X.A.in1) (by show X.A.units+1+40<DV;ext) ax rx a r hf;refine PK g pl hg ⟨.bl _,H,I,rfl,?_⟩;rw[e2];exact k.b hr q
end L3
namespace L3
open PySem PySem.Spec PyProof.Rows L2
unseal Cf
unseal BU
end L3
namespace L3
open PySem PySem.Spec PyProof.Rows L2
theorem XN (hr:Dv k A):A.units+45<DV:=Fk (IM (by decide:45<=64) _) hr.units
theorem Js (hr:Dv k A):A.units+41<DV:=Fk (IM (by decide:41<=64) _) hr.units
def Jd (xs:List D)(k:D->D->D->Prop):Prop:=match xs with
 |[x,y,z]=>k x y z
 |_=>False
def T0 (xs:List D)(k:D->D->D->D->Prop):Prop:=match xs with
 |[x,y,z,w]=>k x y z w
 |_=>False
def Xw (xs:List D)(k:D->D->D->D->D->Prop):Prop:=match xs with
 |[x,y,z,w,v]=>k x y z w v
 |_=>False
theorem RN (h:Jd xs k):∃x y z,xs=[x,y,z]/\k x y z:=by
 match xs,h with
 |[x,y,z],h=>exact⟨x,y,z,rfl,h⟩
theorem Xx (h:T0 xs k):∃x y z w,xs=[x,y,z,w]/\k x y z w:=by
 match xs,h with
 |[x,y,z,w],h=>exact⟨x,y,z,w,rfl,h⟩
theorem T1 (h:Xw xs k):∃x y z w v,xs=[x,y,z,w,v]/\k x y z w v:=by
 match xs,h with
 |[x,y,z,w,v],h=>exact⟨x,y,z,w,v,rfl,h⟩
theorem zT :Jd [x,y,z] k=k x y z:=rfl
theorem zU :T0 [x,y,z,w] k=k x y z w:=rfl
theorem bb :Xw [x,y,z,w,v] k=k x y z w v:=rfl
theorem ZX (h0:0<=i)(h1:i<(xs.length:Int)):∃v,FC xs i=some v/\v∈xs:=by
 obtain⟨j,rfl⟩:∃j:Nat,i=(j:Int):=⟨i.toNat,by ext⟩;have hk:j<xs.length:=by ext
 exact⟨xs[j],Ot (Af hk),F5 hk⟩
section
theorem Xg:FM 0 (some d::τ) M Q=Q d M:=rfl
theorem eE:Fd 0 te E (o::τ) M=te (o::τ) M λx M1=>E.nx (some x::τ) M1:=rfl
theorem Xf :FM 1 (a0::some d::τ) M Q=Q d M:=rfl
theorem eD :Fd 1 te E (a0::o::τ) M=te (a0::o::τ) M λx M1=>E.nx (a0::some x::τ) M1:=rfl
theorem Xe :FM 2 (a0::a1::some d::τ) M Q=Q d M:=rfl
theorem eC :Fd 2 te E (a0::a1::o::τ) M=te (a0::a1::o::τ) M λx M1=>E.nx (a0::a1::some x::τ) M1:=rfl
theorem eO :Kh 2 d (a0::a1::o::τ) k=k (a0::a1::some d::τ):=rfl
theorem Xd :FM 3 (a0::a1::a2::some d::τ) M Q=Q d M:=rfl
theorem Xm :Fd 3 te E (a0::a1::a2::o::τ) M=te (a0::a1::a2::o::τ) M λx M1=>E.nx (a0::a1::a2::some x::τ) M1:=rfl
theorem eM :Kh 3 d (a0::a1::a2::o::τ) k=k (a0::a1::a2::some d::τ):=rfl
theorem Xc :FM 4 (a0::a1::a2::a3::some d::τ) M Q=Q d M:=rfl
theorem Xl :Fd 4 te E (a0::a1::a2::a3::o::τ) M=te (a0::a1::a2::a3::o::τ) M λx M1=>E.nx (a0::a1::a2::a3::some x::τ) M1:=rfl
theorem eK :Kh 4 d (a0::a1::a2::a3::o::τ) k=k (a0::a1::a2::a3::some d::τ):=rfl
theorem Xb :FM 5 (a0::a1::a2::a3::a4::some d::τ) M Q=Q d M:=rfl
theorem Xk :Fd 5 te E (a0::a1::a2::a3::a4::o::τ) M=te (a0::a1::a2::a3::a4::o::τ) M λx M1=>E.nx (a0::a1::a2::a3::a4::some x::τ) M1:=rfl
theorem dR :FM 6 (a0::a1::a2::a3::a4::a5::some d::τ) M Q=Q d M:=rfl
theorem eB :Fd 6 te E (a0::a1::a2::a3::a4::a5::o::τ) M=te (a0::a1::a2::a3::a4::a5::o::τ) M λx M1=>E.nx (a0::a1::a2::a3::a4::a5::some x::τ) M1:=rfl
theorem eJ :Kh 6 d (a0::a1::a2::a3::a4::a5::o::τ) k=k (a0::a1::a2::a3::a4::a5::some d::τ):=rfl
theorem dQ :FM 7 (a0::a1::a2::a3::a4::a5::a6::some d::τ) M Q=Q d M:=rfl
theorem dZ :Fd 7 te E (a0::a1::a2::a3::a4::a5::a6::o::τ) M=te (a0::a1::a2::a3::a4::a5::a6::o::τ) M λx M1=>E.nx (a0::a1::a2::a3::a4::a5::a6::some x::τ) M1:=rfl
theorem dP :FM 8 (a0::a1::a2::a3::a4::a5::a6::a7::some d::τ) M Q=Q d M:=rfl
theorem dY :Fd 8 te E (a0::a1::a2::a3::a4::a5::a6::a7::o::τ) M=te (a0::a1::a2::a3::a4::a5::a6::a7::o::τ) M λx M1=>E.nx (a0::a1::a2::a3::a4::a5::a6::a7::some x::τ) M1:=rfl
theorem eI :Kh 8 d (a0::a1::a2::a3::a4::a5::a6::a7::o::τ) k=k (a0::a1::a2::a3::a4::a5::a6::a7::some d::τ):=rfl
theorem dO :FM 9 (a0::a1::a2::a3::a4::a5::a6::a7::a8::some d::τ) M Q=Q d M:=rfl
theorem dX :Fd 9 te E (a0::a1::a2::a3::a4::a5::a6::a7::a8::o::τ) M=te (a0::a1::a2::a3::a4::a5::a6::a7::a8::o::τ) M λx M1=>E.nx (a0::a1::a2::a3::a4::a5::a6::a7::a8::some x::τ) M1:=rfl
theorem eG :Kh 9 d (a0::a1::a2::a3::a4::a5::a6::a7::a8::o::τ) k=k (a0::a1::a2::a3::a4::a5::a6::a7::a8::some d::τ):=rfl
theorem b9 :FM 10 (a0::a1::a2::a3::a4::a5::a6::a7::a8::a9::some d::τ) M Q=Q d M:=rfl
theorem bd :Fd 10 te E (a0::a1::a2::a3::a4::a5::a6::a7::a8::a9::o::τ) M=te (a0::a1::a2::a3::a4::a5::a6::a7::a8::a9::o::τ) M λx M1=>E.nx (a0::a1::a2::a3::a4::a5::a6::a7::a8::a9::some x::τ) M1:=rfl
theorem ca :FM 11 (a0::a1::a2::a3::a4::a5::a6::a7::a8::a9::a10::some d::τ) M Q=Q d M:=rfl
theorem be :Fd 11 te E (a0::a1::a2::a3::a4::a5::a6::a7::a8::a9::a10::o::τ) M=te (a0::a1::a2::a3::a4::a5::a6::a7::a8::a9::a10::o::τ) M λx M1=>E.nx (a0::a1::a2::a3::a4::a5::a6::a7::a8::a9::a10::some x::τ) M1:=rfl
theorem cb :FM 12 (a0::a1::a2::a3::a4::a5::a6::a7::a8::a9::a10::a11::some d::τ) M Q=Q d M:=rfl
theorem bf :Fd 12 te E (a0::a1::a2::a3::a4::a5::a6::a7::a8::a9::a10::a11::o::τ) M=te (a0::a1::a2::a3::a4::a5::a6::a7::a8::a9::a10::a11::o::τ) M λx M1=>E.nx (a0::a1::a2::a3::a4::a5::a6::a7::a8::a9::a10::a11::some x::τ) M1:=rfl
theorem cg :FM 13 (a0::a1::a2::a3::a4::a5::a6::a7::a8::a9::a10::a11::a12::some d::τ) M Q=Q d M:=rfl
theorem bg :Fd 13 te E (a0::a1::a2::a3::a4::a5::a6::a7::a8::a9::a10::a11::a12::o::τ) M=te (a0::a1::a2::a3::a4::a5::a6::a7::a8::a9::a10::a11::a12::o::τ) M λx M1=>E.nx (a0::a1::a2::a3::a4::a5::a6::a7::a8::a9::a10::a11::a12::some x::τ) M1:=rfl
theorem cm :FM 14 (a0::a1::a2::a3::a4::a5::a6::a7::a8::a9::a10::a11::a12::a13::some d::τ) M Q=Q d M:=rfl
theorem bi :Fd 14 te E (a0::a1::a2::a3::a4::a5::a6::a7::a8::a9::a10::a11::a12::a13::o::τ) M=te (a0::a1::a2::a3::a4::a5::a6::a7::a8::a9::a10::a11::a12::a13::o::τ) M λx M1=>E.nx (a0::a1::a2::a3::a4::a5::a6::a7::a8::a9::a10::a11::a12::a13::some x::τ) M1:=rfl
theorem cq :FM 15 (a0::a1::a2::a3::a4::a5::a6::a7::a8::a9::a10::a11::a12::a13::a14::some d::τ) M Q=Q d M:=rfl
theorem bj :Fd 15 te E (a0::a1::a2::a3::a4::a5::a6::a7::a8::a9::a10::a11::a12::a13::a14::o::τ) M=te (a0::a1::a2::a3::a4::a5::a6::a7::a8::a9::a10::a11::a12::a13::a14::o::τ) M λx M1=>E.nx (a0::a1::a2::a3::a4::a5::a6::a7::a8::a9::a10::a11::a12::a13::a14::some x::τ) M1:=rfl
theorem lY:uC d τ M Q=Q d M:=rfl
theorem Xn :Vh r ta tb τ M Q=ta τ M λx M1=>tb τ M1 λy M2=>r x y M2 Q:=rfl
theorem pE:Of te τ M QT=te τ M λx M1=>Q5 x λc=>QT c M1:=rfl
theorem mh :Nu r r' ta tb tc τ M Q=ta τ M λx M1=>tb τ M1 λy M2=>r x y M2 λz M3=>Q5 z λk=>if k=true then tc τ M3 λw M4=>r' y w M4 Q else Q (.bl false) M3:=rfl
theorem Xh :lJ r ta τ M Q=ta τ M λx M1=>r x M1 Q:=rfl
theorem yH:WN t1 t2 τ M QT=t1 τ M λc M1=>if c=true then t2 τ M1 QT else QT false M1:=rfl
theorem eF:lN t1 t2 τ M QT=t1 τ M λc M1=>if c=true then QT true M1 else t2 τ M1 QT:=rfl
theorem zS:WG t1 τ M QT=t1 τ M λc M1=>QT (!c) M1:=rfl
theorem ia:SG ta tb τ M Q=ta τ M λx M1=>Q5 x λc=>if c=true then tb τ M1 Q else Q (.bl false) M1:=rfl
theorem bc:WF ta tb τ M Q=ta τ M λx M1=>Q5 x λc=>if c=true then Q (.bl true) M1 else tb τ M1 Q:=rfl
theorem Xo:lP t1 ta tb τ M Q=t1 τ M λc M1=>if c=true then ta τ M1 Q else tb τ M1 Q:=rfl
theorem eQ :lQ ds τ M QA=QA ds M:=rfl
theorem nQ:TF τ M QA=QA [] M:=rfl
theorem oX:SE te tA τ M QA=te τ M λx M1=>tA τ M1 λxs M2=>QA (x::xs) M2:=rfl
theorem nV:Wz tA τ M Q=tA τ M λxs M1=>xs.length<=Am/\Q (.tup xs) M1:=rfl
theorem jt:Sx tA τ M Q=tA τ M λxs M1=>xs.length<=Am/\Q (.lst xs) M1:=rfl
theorem zP:WH tA τ M Q=tA τ M λxs M1=>xs.length<=Am/\∀p,M1 p=none->Q (.ref p) (put M1 p (.lst xs)):=rfl
theorem eS :Zm r tA τ M Q=tA τ M λxs M1=>r xs M1 Q:=rfl
theorem ib :SF sp tA τ M Q=tA τ M λxs M1=>sp xs M1 Q:=rfl
theorem qw:Og τ M QO=QO none M:=rfl
theorem jz:Su te τ M QO=te τ M λx M1=>EQ x λi=>QO (some i) M1:=rfl
theorem dU :lK r te tl th τ M Q=te τ M λx M1=>tl τ M1 λl M2=>th τ M2 λu M3=>r x l u M3 Q:=rfl
theorem jw:Sv E τ M=E.nx τ M:=rfl
theorem nU:WB s1 s2 E τ M=s1 {E with nx:=s2 E} τ M:=rfl
theorem zR:PR E τ M=False:=rfl
theorem ik:Sy te E τ M=te τ M λ_ M1=>E.nx τ M1:=rfl
theorem nS:WE te E τ M=te τ M E.rt:=rfl
theorem yT:WI tt s1 s2 E τ M=tt τ M λb M1=>if b=true then s1 E τ M1 else s2 E τ M1:=rfl
theorem yJ :TH te g E τ M=te τ M λx M1=>g x τ λτ'=>E.nx τ' M1:=rfl
theorem yR :WK ti g s1 E τ M=ti τ M λxs S M1=>UJ xs S g s1 E τ M1:=rfl
theorem dS:lL te τ M Q=te τ M λx M1=>Cw (Bi M1 x) λds=>Cw (Em ds) λxs=>xs.length+1<Be/\(fm xs).length<64/\∀p,M1 p=none->Q (.ref p) (put M1 p (.lst ((Iv xs).map D.str))):=rfl
theorem oz :Sr te τ M R=te τ M λx M1=>Cw (Bi M1 x) λxs=>R xs (λM=>Bi M x=some xs) M1:=rfl
theorem o5 :Sq tA τ M R=tA τ M λxs M1=>Ga xs λx=>EQ x λj=>(-(2^62)<=j/\j<2^62)/\R (Ny 0 j.toNat) (λ_=>True) M1:=rfl
theorem mi :FN wi caps tt te τ M Q=wi τ M λxs S M1=>Eg xs S caps tt te τ M1 λys M2=>Q (.lst ys) M2:=rfl
theorem ie :Oi wi caps tt te τ M Q=wi τ M λxs S M1=>Eg xs S caps tt te τ M1 λys M2=>∀p,M2 p=none->Q (.ref p) (put M2 p (.lst ys)):=rfl
theorem eT :lV T r te tA τ M Q=te τ M λx M1=>QW M1 x=some T/\tA τ M1 λxs M2=>r x xs M2 Q:=rfl
theorem yK :WM T r te τ M Q=te τ M λx M1=>QW M1 x=some T/\r x [] M1 Q:=rfl
theorem ii:SA τ M Q=∀p,M p=none->Q (.ref p) (put M p (.dic [])):=rfl
theorem ij:Sz ta tb tc E τ M=tc τ M λv M1=>ta τ M1 λx M2=>tb τ M2 λy M3=>JF x λp=>Q4 y λk=>Ke (M3 p) λkvs=>kvs.length<Am/\E.nx τ (put M3 p (.dic (H9 kvs k v))):=rfl
theorem ig:SD ta tb τ M Q=ta τ M λx M1=>tb τ M1 λy M2=>Cw (E6 M2 x) λkvs=>Q4 y λk=>Cw (DJ kvs k) λv=>Q v M2:=rfl
theorem iq :Ww tA τ M R=tA τ M λds M1=>Fw ds λx y=>Cw (Bi M1 x) λxs=>Cw (Bi M1 y) λys=>R (KS xs ys) (λM=>Bi M x=some xs/\Bi M y=some ys) M1:=rfl
theorem j8 :OL te τ M R=te τ M λx M1=>Cw (XR x) λkvs=>R (kvs.map λp=>kD p.1) (λ_=>True) M1:=rfl
theorem io :Wy te τ M R=te τ M λx M1=>Gr x λz=>(z.cps.all λc=>decide (c<128))=true/\R (Ka z) (λ_=>True) M1:=rfl
theorem yO :XR (.dic kvs)=some kvs:=rfl
theorem j7:Ha τ M QT=QT true M:=rfl
theorem yS:WJ te τ M Q=te τ M λd M1=>JF d λp=>match M1 p with | some (.lst ds)=>Q (.lst ds) (JU M1 p) | some (.dic ds)=>Q (.dic ds) (JU M1 p) | some (.dct ds)=>Q (.dct ds) (JU M1 p) | _=>False:=rfl
theorem ip :Wx te τ M R=te τ M λx M1=>match x with | .tup xs=>R xs (λ_=>True) M1 | _=>False:=rfl
end
section
theorem gL :EQ (.int i) k=k i:=rfl
theorem gK :Q5 (.bl b) k=k b:=rfl
theorem X0 :Gr (.str z) k=k z:=rfl
theorem Qr :JF (.ref p) k=k p:=rfl
theorem B3 :Cw (some a) k=k a:=rfl
theorem jx :Q4 (.int i) k=k (.inl i):=rfl
theorem gX :Q4 (.str z) k=k (.inr z):=rfl
theorem VB :Ke (some (.dic kvs)) k=k kvs:=rfl
theorem yN :E6 M (.dic kvs)=some kvs:=rfl
theorem ox :Ke (put M p (.dic kvs) p) k=k kvs:=by simp[Ke,Dq]
theorem mH (h:M p=some (.dic kvs)):E6 M (.ref p)=some kvs:=by simp[E6,h]
theorem yU :TM n x y M Q=Cw (E6 M y) λkvs=>Q4 x λk=>Q (.bl (if n then !(DJ kvs k).isSome else(DJ kvs k).isSome)) M:=rfl
theorem zM:W5 x y M Q=Gr x λz=>EQ y λi=>z.length<=Am/\Cw (FC z.cps.toList i) λc=>Q (.str ⟨#[c]⟩) M:=rfl
theorem ZE :Ga [x] k=k x:=rfl
theorem nR :Fw [x,y] k=k x y:=rfl
theorem Xj :sI C g (.int i) (.int j) M Q=(C i j/\Q (g i j) M):=rfl
theorem nT :P4 g (.int i) (.int j) M Q=Q (g i j) M:=rfl
theorem Xi :sU g (.int i) M Q=Q (g i) M:=rfl
theorem nO:W8 false (.int i) (.int j) M Q=(true=true/\Q (.bl (decide (i=j))) M):=rfl
theorem zQ:W8 true (.int i) (.int j) M Q=(true=true/\Q (.bl (!decide (i=j))) M):=rfl
theorem yP :W8 false (.str z) (.str z') M Q=(true=true/\Q (.bl (decide (z=z'))) M):=rfl
theorem zN:Lv (.tup xs) (.int i) M Q=Cw (FC xs i) λv=>Q v M:=rfl
theorem zL:W6 x y M Q=Cw (Bi M x) λxs=>EQ y λi=>Cw (FC xs i) λv=>Q v M:=rfl
theorem br :W3 x l u M Q=Cw (Bi M x) λxs=>Q (.lst (cutD xs l u)) M:=rfl
theorem bu :W2 (.tup xs) l u M Q=(¬(HT.sIx xs.length 0 l=0/\HT.sIx xs.length xs.length u=xs.length)/\Q (.tup (cutD xs l u)) M):=rfl
theorem ic:SN x y M Q=Cw (Bi M x) λxs=>Cw (Bi M y) λys=>xs.length+ys.length<=Am/\Q (.lst (xs++ys)) M:=rfl
theorem yM:Xa x y M Q=Cw (Bi M x) λxs=>Cw (Bi M y) λys=>xs.length+ys.length<=Am/\∀p,M p=none->Q (.ref p) (put M p (.lst (xs++ys))):=rfl
theorem jq :Nx n (.tup xs) (.tup ys) M Q=Cw (Gb (EN M 40) xs ys) λb=>Q (.bl (if n then !b else b)) M:=rfl
theorem jp :Nx n (.ref p) y M Q=Cw (Bi M (.ref p)) λxs=>Cw (Bi M y) λys=>Cw (Gb (EN M 40) xs ys) λb=>Q (.bl (if n then !b else b)) M:=rfl
theorem jo :Nx n (.lst xs) y M Q=Cw (Bi M y) λys=>Cw (Gb (EN M 40) xs ys) λb=>Q (.bl (if n then !b else b)) M:=rfl
theorem oo:El (.int i)=true:=rfl
theorem oq:El (.str z)=true:=rfl
theorem il:Kn (.int i) (.int j)=decide (i=j):=rfl
theorem im :Kn (.str z) (.str z')=decide (z=z'):=rfl
theorem eP :cY n x y M Q=Cw (Hj M y) λys=>ys.all El=true/\El x=true/\Q (.bl (if n then !(ys.any λz=>Kn z x)else ys.any λz=>Kn z x)) M:=rfl
theorem nP:Bi M (.lst xs)=some xs:=rfl
theorem bw:Hj M (.lst xs)=some xs:=rfl
theorem b5:Hj M (.tup xs)=some xs:=rfl
theorem zO:Bi (put M p (.lst xs)) (.ref p)=some xs:=by simp[Bi,Dq]
theorem bz:Hj (put M p (.lst xs)) (.ref p)=some xs:=by simp[Hj,Bi,Dq]
theorem On (h:M p=some (.lst xs)):Bi M (.ref p)=some xs:=by simp[Bi,h]
theorem oy:QW M (.int i)=some "int":=rfl
theorem qx:QW M (.lst xs)=some "list":=rfl
theorem b8:QW (put M p (.lst xs)) (.ref p)=some "list":=Zo Dq
theorem Vp :FC (x::xs) 0=some x:=Ot rfl
theorem xT :FC (x::y::xs) 1=some y:=Ot rfl
theorem xS :FC (x::y::z::xs) 2=some z:=Ot rfl
theorem xR :FC (x::y::z::w::xs) 3=some w:=Ot rfl
theorem b6 :W1 h T (.ref h) (.str z) M Q=(h=h/\Cw (T.lookup z) λv=>Q (.int v) M):=rfl
theorem yI:HJ (.ref p) [x] (put M p (.lst xs)) Q=(xs.length<Am/\Q .non (put M p (.lst (xs++[x])))):=by simp[HJ,JF,Ga,Dq,R3]
theorem gE :Gi (.ref p) [.lst zs] (put M p (.lst xs)) Q=(xs.length+zs.length<=Am/\Q .non (put M p (.lst (xs++zs)))):=by simp[Gi,JF,Ga,Dq,R3,Bi,Cw]
theorem mj :Nt wi n caps tt te τ M Q=wi τ M λxs S M1=>Lh n xs S caps tt te τ M1 λys M2=>∀p,M2 p=none->Q (.ref p) (put M2 p (.lst ys)):=rfl
theorem ot :Cw (E6 M (.dic kvs)) k=k kvs:=rfl
theorem Md :En (n::N) (d::ds)=some d::En N ds:=rfl
theorem Mb :En (n::N) []=none::En N []:=rfl
theorem Mc:En [] []=[]:=rfl
theorem yL :LB τ caps v=v::caps.map λc=>(τ[c.2]?).join:=rfl
end
theorem jn (xs)(k:Nat):cutD xs none (some (k:Int))=xs.take k:=by
 unfold cutD;rw[HT.sIx_none,HT.sIx_nat,Ll,MT];by_cases h:k<=xs.length
 .rw[F4 h]
 .rw[GA (by ext),BD,BW (by ext)]
theorem cutD_toI (xs:List D)(h:0<=k):cutD xs none (some k)=xs.take k.toNat:=by
 have e:k=((k.toNat:Nat):Int):=by ext
 rw[e,jn,Br]
theorem ah :cutD (x::r) (some 1) (some 1)=[]:=by
 unfold cutD;rw[show(some (1:Int))=some ((1:Nat):Int)from rfl,HT.sIx_nat,HT.sIx_nat,Ky,O1]
theorem gS (h:k=1+(ks.length:Int)):cutD (x::(ks++more)) (some 1) (some k)=ks:=by
 subst h;unfold cutD
 have e1:HT.sIx (x::(ks++more)).length 0 (some 1)=1:=by
  rw[show(some (1:Int))=some ((1:Nat):Int)from rfl,HT.sIx_nat,AK];ext
 have e2:HT.sIx (x::(ks++more)).length (x::(ks++more)).length (some (1+(ks.length:Int)))=1+ks.length:=by
  rw[show(1+(ks.length:Int))=((1+ks.length:Nat):Int) by ext,HT.sIx_nat,AK,As];ext
 rw[e1,e2,List.drop_succ_cons,Ll,Hg,List.take_left]
theorem ai :cutD (x::a::r) (some 1) (some 2)=[a]:=gS (ks:=[a]) rfl
theorem aj :cutD (x::a::b::r) (some 1) (some 3)=[a,b]:=gS (ks:=[a,b]) rfl
theorem ak :cutD (x::a::b::c::r) (some 1) (some 4)=[a,b,c]:=gS (ks:=[a,b,c]) rfl
theorem cX :HT.sIx (n+1) 0 (some 1)=1:=by
 rw[show(some (1:Int))=some ((1:Nat):Int)from rfl,HT.sIx_nat];ext
theorem Ps {α:Type}{g:α->D}{xs:List α}{i:Nat}{d:D}(h:(xs.map g)[i]? = some d):∃x,xs[i]? = some x/\d=g x:=by
 rw[AJ]at h;cases e:xs[i]? with
 |none=>rw[e]at h;cases h
 |some x=>rw[e]at h;exact⟨x,rfl,(A8 h).symm⟩
noncomputable def Iy:List D->Option (List Int)
 |[]=>some []
 |.int n::r=>(Iy r).map (n::·)
 |_::_=>none
theorem uY:∀ns,Iy (ns.map D.int)=some ns
 |[]=>rfl
 |n::r=>by rw[AT,Iy,uY r];rfl
theorem tO:∀{xs:List D}{ns:List Int},Iy xs=some ns->xs=ns.map D.int
 |[],ns,h=>by cases h;rfl
 |x::r,ns,h=>by
  cases x with
  |int n=>
   rw[Iy]at h;cases e:Iy r with
   |none=>rw[e]at h;cases h
   |some ms=>rw[e]at h;cases h;rw[tO e];rfl
  |_=>cases h
theorem uc (h:Bi M x=some xs):Hj M x=some xs:=by
 cases x with
 |tup ys=>cases h
 |_=>exact h
def OP (M:Mp)(x:D)(k:List Int->Prop):Prop:=Cw (Bi M x) λxs=>Cw (Iy xs) k
theorem gH (h:OP M x k):∃ns,Bi M x=some (ns.map D.int)/\Hj M x=some (ns.map D.int)/\k ns:=by
 obtain⟨xs,e,h1⟩:=Cj h;obtain⟨ns,e2,q⟩:=Cj h1;rw[tO e2]at e;exact⟨ns,e,uc e,q⟩
theorem ou :OP M (.lst (ns.map D.int)) k=k ns:=by unfold OP;rw[nP,B3,uY,B3]
theorem ri (M)(n)(a b):EN M n (.int a) (.int b)=some (decide (a=b)):=by cases n<;>rfl
theorem ji (M)(n)(a b)(xs ys):Gb (EN M n) (.int a::xs) (.int b::ys)=(Gb (EN M n) xs ys).map (decide (a=b) && ·):=by
 rw[Gb,ri];cases Gb (EN M n) xs ys<;>rfl
theorem jj :Gb f [] []=some true:=rfl
theorem fZ:((0:Nat):Int)=0:=rfl
theorem fY:((2:Nat):Int)=2:=rfl
theorem rj (M)(n)(xs):Gb (EN M n) xs []=some xs.isEmpty:=by cases xs<;>rfl
theorem none_of (s:Sub M M')(h:M' p=none):M p=none:=by
 cases e:M p with
 |none=>rfl
 |some o=>rw[s p o e]at h;cases h
theorem jB (h:put M p o q=none):M q=none:=by
 unfold put at h;split at h
 .cases h
 .exact h
theorem Yu {K:Ac}(no:∀ds M Q,¬sp ds M Q):FnOk P w K mg base CX0 k f fd ps (lSp K sp):=
 ⟨λvs H Q E ⟨Z,ds,M,Q2,_,_,h,_⟩=>absurd h (no ds M Q2),λA outer s H args us vs Q E _ _ _ _ ⟨Z,ds,M,Q2,_,_,h,_⟩=>absurd h (no ds M Q2)⟩
theorem Qs (s:Sub M M')(h:Q d M):Dn Q d M':=⟨M,s,h⟩
theorem GR (h:n<=1000):n<=Am:=Fl (B5 h)
theorem lW (h:n<=1000):(n<=Am)=True:=eq_true (GR h)
section
variable {P:Bp}{w:BK}{K:Ac}{mg:Str->Option Ah}{base:CH}{x qual:Str}{st:DE}{f:Av}{fd:DG}{N ps:List Str}{k:Nat}
theorem Cz.p1 {B:D->Mp->Ef->Prop}(F:Cz K x qual st f fd)(N:List Str)
  (hb:∀ {cdv:Ah} {A:Cu} {outer:List Env} {s:Aq} {H:Hp} {E:XK} (d0:D) (M:Mp) (Q:Ef),Dv k (A.deeper (FG qual (IJ st) s.heap.objs.size f cdv))->N.Nodup->B d0 M Q ->
   ∃ t:HM,Dw (JQ CX0 P w K mg base N qual (IJ st) f cdv A outer s H E).nox (NM st) t/\t { nx:=λ_ M'=>Dn Q .non M',rt:=Dn Q } (En N [d0]) M) (S:Fb N ps (IJ st):=by exact ⟨rfl,rfl,rfl,by nofun,rfl,by nofun,by nofun⟩) (hl:ps.length=1:=by rfl):FnOk P w K mg base CX0 (k+1) f fd ps (lSp K λds M Q=>Ga ds λd0=>B d0 M Q) :=
 Cz.ok2 F S (λds M Q h=>by obtain⟨d0,rfl,_⟩:=G4 h;exact hl.symm) λcdv A outer s H E ds M Q hr h=>by
  obtain⟨d0,rfl,h⟩:=G4 h;exact hb d0 M Q hr S.nd h
theorem Cz.p2 {B:D->D->Mp->Ef->Prop}(F:Cz K x qual st f fd)(N:List Str)
  (hb:∀ {cdv:Ah} {A:Cu} {outer:List Env} {s:Aq} {H:Hp} {E:XK} (d0 d1:D) (M:Mp) (Q:Ef),Dv k (A.deeper (FG qual (IJ st) s.heap.objs.size f cdv))->N.Nodup->B d0 d1 M Q ->
   ∃ t:HM,Dw (JQ CX0 P w K mg base N qual (IJ st) f cdv A outer s H E).nox (NM st) t/\t { nx:=λ_ M'=>Dn Q .non M',rt:=Dn Q } (En N [d0,d1]) M) (S:Fb N ps (IJ st):=by exact ⟨rfl,rfl,rfl,by nofun,rfl,by nofun,by nofun⟩) (hl:ps.length=2:=by rfl):FnOk P w K mg base CX0 (k+1) f fd ps (lSp K λds M Q=>Fw ds λd0 d1=>B d0 d1 M Q) :=
 Cz.ok2 F S (λds M Q h=>by obtain⟨d0,d1,rfl,_⟩:=NE h;exact hl.symm) λcdv A outer s H E ds M Q hr h=>by
  obtain⟨d0,d1,rfl,h⟩:=NE h;exact hb d0 d1 M Q hr S.nd h
theorem Cz.p3 {B:D->D->D->Mp->Ef->Prop}(F:Cz K x qual st f fd)(N:List Str)
  (hb:∀ {cdv:Ah} {A:Cu} {outer:List Env} {s:Aq} {H:Hp} {E:XK} (d0 d1 d2:D) (M:Mp) (Q:Ef),Dv k (A.deeper (FG qual (IJ st) s.heap.objs.size f cdv))->N.Nodup->B d0 d1 d2 M Q ->
   ∃ t:HM,Dw (JQ CX0 P w K mg base N qual (IJ st) f cdv A outer s H E).nox (NM st) t/\t { nx:=λ_ M'=>Dn Q .non M',rt:=Dn Q } (En N [d0,d1,d2]) M) (S:Fb N ps (IJ st):=by exact ⟨rfl,rfl,rfl,by nofun,rfl,by nofun,by nofun⟩) (hl:ps.length=3:=by rfl):FnOk P w K mg base CX0 (k+1) f fd ps (lSp K λds M Q=>Jd ds λd0 d1 d2=>B d0 d1 d2 M Q) :=
 Cz.ok2 F S (λds M Q h=>by obtain⟨d0,d1,d2,rfl,_⟩:=RN h;exact hl.symm) λcdv A outer s H E ds M Q hr h=>by
  obtain⟨d0,d1,d2,rfl,h⟩:=RN h;exact hb d0 d1 d2 M Q hr S.nd h
theorem Cz.p4 {B:D->D->D->D->Mp->Ef->Prop}(F:Cz K x qual st f fd)(N:List Str)
  (hb:∀ {cdv:Ah} {A:Cu} {outer:List Env} {s:Aq} {H:Hp} {E:XK} (d0 d1 d2 d3:D) (M:Mp) (Q:Ef),Dv k (A.deeper (FG qual (IJ st) s.heap.objs.size f cdv))->N.Nodup->B d0 d1 d2 d3 M Q ->
   ∃ t:HM,Dw (JQ CX0 P w K mg base N qual (IJ st) f cdv A outer s H E).nox (NM st) t/\t { nx:=λ_ M'=>Dn Q .non M',rt:=Dn Q } (En N [d0,d1,d2,d3]) M) (S:Fb N ps (IJ st):=by exact ⟨rfl,rfl,rfl,by nofun,rfl,by nofun,by nofun⟩) (hl:ps.length=4:=by rfl):FnOk P w K mg base CX0 (k+1) f fd ps (lSp K λds M Q=>T0 ds λd0 d1 d2 d3=>B d0 d1 d2 d3 M Q) :=
 Cz.ok2 F S (λds M Q h=>by obtain⟨d0,d1,d2,d3,rfl,_⟩:=Xx h;exact hl.symm) λcdv A outer s H E ds M Q hr h=>by
  obtain⟨d0,d1,d2,d3,rfl,h⟩:=Xx h;exact hb d0 d1 d2 d3 M Q hr S.nd h
theorem Cz.p5 {B:D->D->D->D->D->Mp->Ef->Prop}(F:Cz K x qual st f fd)(N:List Str)
  (hb:∀ {cdv:Ah} {A:Cu} {outer:List Env} {s:Aq} {H:Hp} {E:XK} (d0 d1 d2 d3 d4:D) (M:Mp) (Q:Ef),Dv k (A.deeper (FG qual (IJ st) s.heap.objs.size f cdv))->N.Nodup->B d0 d1 d2 d3 d4 M Q ->
   ∃ t:HM,Dw (JQ CX0 P w K mg base N qual (IJ st) f cdv A outer s H E).nox (NM st) t/\t { nx:=λ_ M'=>Dn Q .non M',rt:=Dn Q } (En N [d0,d1,d2,d3,d4]) M) (S:Fb N ps (IJ st):=by exact ⟨rfl,rfl,rfl,by nofun,rfl,by nofun,by nofun⟩) (hl:ps.length=5:=by rfl):FnOk P w K mg base CX0 (k+1) f fd ps (lSp K λds M Q=>Xw ds λd0 d1 d2 d3 d4=>B d0 d1 d2 d3 d4 M Q) :=
 Cz.ok2 F S (λds M Q h=>by obtain⟨d0,d1,d2,d3,d4,rfl,_⟩:=T1 h;exact hl.symm) λcdv A outer s H E ds M Q hr h=>by
  obtain⟨d0,d1,d2,d3,d4,e1',h⟩:_:=T1 h;exact hb d0 d1 d2 d3 d4 M Q hr S.nd h
end
end L3
namespace SH
open PySem PySem.W PySem.Calls PyProof.Rows
noncomputable def NN :List α->List α
 |a::_::l=>a::NN l
 |[a]=>[a]
 |[]=>[]
theorem iA :∀(l:List α) (i:Nat),(NN l)[i]? = l[2*i]?
 |[],i=>by simp[NN]
 |[a],0=>by simp[NN]
 |[a],i+1=>by simp[NN,UX]
 |a::b::l,0=>by simp[NN]
 |a::b::l,i+1=>by simp only[NN,G9,UX,Nat.mul_one];exact iA l i
theorem iB :∀(l:List α),(NN l).length=(l.length+1) / 2
 |[]=>by simp[NN]
 |[a]=>by simp[NN]
 |a::b::l=>by simp only[NN,AK,iB l];ext
noncomputable def RO:Nat->List Obj->BT
 |0,_=>.nil
 |_+1,[]=>.nil
 |n+1,o::l=>.node o (RO n (NN l)) (RO n (NN l.tail))
theorem iT:∀(n:Nat) (l:List Obj),l.length<2^n->∀i,(RO n l).get i=l[i]?
 |0,l,h,i=>by
  have:=List.length_eq_zero_iff.mp (by simpa using h);subst this;simp[RO,BT.get]
 |n+1,[],_,i=>by simp[RO,BT.get]
 |n+1,o::l,h,i=>by
  have hl:l.length+1<2^n*2:=by simpa[Nat.pow_succ]using h
  have ha:(NN l).length<2^n:=by rw[iB];ext
  have hb:(NN l.tail).length<2^n:=by rw[iB,List.length_tail];ext
  unfold RO;rw[BT.get_node,iT n _ ha,iT n _ hb,iA,iA];by_cases h0:i=0
  .subst h0;simp
  .rw[if_neg h0];by_cases p:i%2=1
   .rw[if_pos p,show 2*(i / 2)=i-1 by ext,Pj];simp[h0]
   .rw[if_neg p,List.getElem?_tail,show 2*(i / 2-1)+1=i-1 by ext,Pj];simp[h0]
theorem jd (h:l.length<2^n):absHeap (RO n l) l.length life=⟨l.toArray,life⟩:=by
 have:((RO n l).list l.length)=l:=by
  apply Fn;intro i;unfold BT.list;rw[AJ];by_cases hi:i<l.length
  .rw[EC hi,Jh,iT n l h,Af hi];rfl
  .rw[Bv (by rw[BX];ext),Bv (by ext)];rfl
 unfold absHeap;rw[this]
noncomputable def JT (tb:String->Option D7)(p:Bp)(w:BK)(n₀:Nat)(ann:Option Ah):Nat->U9->Thread->Option U9
 |0,_,_=>none
 |n+1,s,t=>match through t with
  |true=>some s
  |false=>match stepOk n₀ ann t with
   |false=>none
   |true=>match stepT (denote tb) p w s t with
    |some (s',t')=>JT tb p w n₀ ann n s' t'
    |none=>none
theorem uG :∀{n:Nat}{s s':U9}{t:Thread},JT tb p w n₀ ann n s t=some s'->topRun tb p w n₀ ann n s.abs t=some s'.abs
 |0,_,_,_,h=>by cases h
 |n+1,s,s',t,h=>by
  unfold JT at h;unfold topRun;cases he:through t with
  |true=>rw[he]at h;cases h;rfl
  |false=>
   rw[he]at h;cases hk:stepOk n₀ ann t with
   |false=>rw[hk]at h;cases h
   |true=>
    rw[hk]at h;cases hs:stepT (denote tb) p w s t with
    |none=>rw[hs]at h;cases h
    |some r=>obtain⟨s₂,t₂⟩:=r;rw[hs]at h;rw[stepT_spec hs];exact uG h
noncomputable def Ub (H₀:CH)(os:Va):U9:=⟨RO 14 H₀.objs.toList,H₀.objs.toList.length,H₀.life,#[],Na,O4,os⟩
theorem rh (H₀:CH)(os:Va)(h:Nat.blt H₀.objs.toList.length (2^14)=true):(Ub H₀ os).abs=⟨H₀,#[],Na,O4,os⟩:=by
 unfold Ub SharedT.abs;dsimp only;rw[jd (NZ h)]
noncomputable def XB (p q:Bp)(loose:List Str)(Xt:Aq->Bool)(Yf:Aq->α)(H₀:CH)(s:Aq):=
 (staticsOk (L5 p.main.body) H₀ s.heap && namesBound p s.heap && gensDone s && laidKept H₀ s.heap,openSeen q loose (L5 p.main.body) Xt true s,Yf s)
noncomputable def whole (H₀:CH)(p q:Bp)(loose:List Str)(Xt:Aq->Bool)(Yf:Aq->α)(n₀:Nat)(ann:Option Ah)(M:Nat)(w:BK)(os:Va):=
 (JT VZ p w n₀ ann M (Ub H₀ os) (topStub p)).map λs=>XB p q loose Xt Yf H₀ s.abs
theorem left_of
  (e:opening p=plainProg p.main.scope.names) (hN:Nat.ble 600 N=true) (f:∀s,fenceModules? p s=some s) (hb:∀P,Nat.blt (Ei P).objs.toList.length (2^14)=true)
  (size:∀w:BK,((Ei w.params).isNs BS && (#[]:Array cF).size == 0,(Ei w.params).objs.size,(Ei w.params).nsMap BS "__annotations__")=(true,n₀,ann)) (le:Nat.ble M N=true)
  (run:∀w os,whole (Ei w.params) p q loose Xt Yf n₀ ann M w os=some (true,openGood q loose,Ya w)):LeftO p q loose Xt Yf Ya N:=λw=>by
 obtain⟨⟨h,gs,d,k,os⟩,e,e'⟩:=EV.mp (boot_open e hN f w);obtain⟨rfl,rfl,rfl,rfl⟩:h=Ei w.params/\gs=#[]/\d=Na/\k=O4:=by simpa using e'
 obtain⟨z1,z2,z3⟩:_/\_/\_:=by simpa only[QN]using size w
 obtain⟨s,hs,l⟩:=EV.mp (run w os);have r:=uG hs;rw[rh _ _ (hb _)]at r;have l1:(_ && _)=true:=congrArg Prod.fst l;have l2:=congrArg (λx=>x.2.1) l;have l3:=congrArg (λx=>x.2.2) l;have r:=topRun_mono (N-M) _ _ _ _ r;rw[show M+(N-M)=N by have:=NZ le;ext]at r
 have t:topFrom VZ p w N ⟨Ei w.params,#[],Na,O4,os⟩=some s.abs:=by
  unfold topFrom;dsimp only;rw[z1,z2,z3,r];show(match staticsOk (L5 p.main.body) (Ei w.params) s.abs.heap && namesBound p s.abs.heap && gensDone s.abs && laidKept (Ei w.params) s.abs.heap with | true=>_ | false=>_)=_;rw[l1]
 unfold openEnds;rw[e];show(topFrom VZ p w N _).map _=_;rw[t];exact congrArg some (Sj l2 l3)
end SH
namespace L3
open PySem PySem.Spec PyProof.Rows L2
section
unseal BP
theorem wJ:∀{vs:List Ah}{ys:List Str},BF (ys.map V.str) vs->KL vs ys
 |[],[],_=>.nil
 |v::vs,y::ys,.cons h t=>by
  obtain⟨u,rfl⟩:=h;exact .cons y u (wJ t)
end
end L3
namespace L2
open PySem PySem.Spec PyProof.Rows
theorem Yz (h:-(2^62)<=a)(h':a<2^62):II a=true:=by
 unfold II;simp only[decide_eq_true_eq,Bo];ext
end L2
namespace L3
open PySem PySem.Spec PyProof.Rows L2
unseal BU Hv Jf Gj JW GL Dw Cf FR BP Fz Gc Ku Hq EF
theorem ats_strs :∀ss:List Str,Dm Z (ss.map V.str) (ss.map D.str)
 |[]=>.nil
 |_::r=>.cons rfl (ats_strs r)
def ND (o:Option MO)(k:List D->Prop):Prop:=match o with
 |some (.lst xs)=>k xs
 |_=>False
theorem gJ (h:ND o k):∃xs,o=some (.lst xs)/\k xs:=by
 cases o with
 |none=>exact h.elim
 |some u=>cases u with
  |lst xs=>exact⟨xs,rfl,h⟩
  |_=>exact h.elim
theorem jy :ND (some (.lst xs)) k=k xs:=rfl
end L3
namespace L2
open PySem PySem.Spec PyProof.Rows
section
variable {prog:Bp}{w:BK}{A:Cu}{E:Ah->Aq->Prop}{s:Aq}{r:Av}{a b:Int}{t u v:Tok}{Q:Ah->Aq->Prop}
end
end L2
namespace L3
open PySem PySem.Spec PyProof.Rows L2
unseal BU Hv Jf Gj JW GL Dw Cf FR BP Fz Gc Ku Hq EF
end L3
namespace L3
open PySem PySem.Spec PyProof.Rows L2
section
end
section
unseal EF BU Gj
end
unseal Cf
end L3
namespace L2
open PySem PySem.Spec PyProof.Rows
section
variable  {st:B8}  {lo:Option B8}
end
end L2
namespace L3
open PySem PySem.Spec PyProof.Rows L2
unseal BU Hv Jf Gj JW GL Dw Cf FR BP Fz Gc Ku Hq EF
section
variable  {st:B8}  {lo:Option B8}
noncomputable def S0:D->Bool
 |.non=>true
 |_=>false
theorem ki (ax:At Z x dx):decide (x=V.non)=S0 dx:=by
 cases dx with
 |tup xs=>obtain⟨p,rfl,_⟩:=ax;rfl
 |lst xs=>obtain⟨p,rfl,_⟩:=ax;rfl
 |dic xs=>obtain⟨p,rfl,_⟩:=ax;rfl
 |dct xs=>obtain⟨p,rfl,_⟩:=ax;rfl
 |_=>cases ax;rfl
theorem gi:Cf X (Bb .IsNot) (λx y M Q=>y=.non/\Q (.bl (!S0 x)) M):=FS.mono ny (by
 intro x y H Q;ext1⟨Z,dx,dy,M,Q2,hr,ax,ay,h,k⟩;obtain ⟨rfl,q⟩:=h;cases (show y=V.non from ay);refine ⟨rfl,?_⟩;rw [ki ax];exact k Z (.bl _) (.bl _) H M (Le.refl _) hr rfl q)
end
end L3
namespace PySem
open Sem (wp)
def NP (h:CH)(d:Av)(es:Array GQ)(ep:Nat):Prop:=∃o,h.get? d=some o/\o.ExactDict/\o.data=.dict es ep
theorem NP.typeIs {s:Aq}{d es ep}(x:NP s.heap d es ep):s.TypeIs (.ref d) "dict":=let ⟨o,ho,hc,_⟩:=x;⟨o,ho,hc.1⟩
theorem NP.at' {d es ep}(x:NP h d es ep)(e:∀o,h.get? d=some o->h'.get? d=some o):NP h' d es ep:=let ⟨o,ho,r⟩:=x;⟨o,e _ ho,r⟩
theorem NP.lt {d es ep}(x:NP h d es ep):d<h.objs.size:=let ⟨_,ho,_⟩:=x;Ap ho
section
variable {prog:Bp}{w:BK}{A:Cu}{E:Ah->Aq->Prop}{s:Aq}{d it:Av}{es:Array GQ}{i ep:Nat}
end
end PySem
namespace L3
open PySem PySem.Spec PyProof.Rows L2
unseal BU Hv Jf Gj JW GL Dw Cf FR BP Fz Gc Ku Hq EF
noncomputable def Gp (ks:List Co):D:=.tup (ks.map kD)
section
variable {K:Ac}{H:Hp}{M:Mp}{Z:Zt}
end
section
variable {X:Cx}{pos pos':Pos}{o i value:B8}{td ty tv:DQ}
end
structure Mf (K:Ac)(C:Av)(m qual:Str)(st:DE)(ps:List Str)(f:Av)(fd:DG):Prop where
 F:Cz K m qual st f fd
 b:HF K fd ps []
 m:Sc K C m f
def NC (C:Av)(o:Option MO)(k:List (Str×D)->Prop):Prop:=∃fs,o=some (.obj C fs)/\k fs
theorem Ho :NC C (some (.obj C fs)) k=k fs:=propext ⟨λ⟨fs',e,h⟩=>by cases e;exact h,λh=>⟨fs,rfl,h⟩⟩
noncomputable def putO (f:Str)(v:D):List (Str×D)->List (Str×D)
 |[]=>[(f,v)]
 |p::r=>if p.1=f then(p.1,v)::r else p::putO f v r
section
variable {K:Ac}   {Z:Zt}{f:Str}{vs:List (Str×V)}{ds:List (Str×D)}
theorem CV.putO (a:At Z v d)(h:CV Z vs ds):CV Z (Hk f v vs) (L3.putO f d ds):=by
 induction h with
 |nil=>exact .cons ⟨rfl,a⟩ .nil
 | @cons p q vs ds r t ih=>
  unfold Hk L3.putO;have e:=r.1;by_cases c:p.1=f
  .rw[if_pos c,if_pos (by rw[<- e];exact c)];exact .cons ⟨e,a⟩ t
  .rw[if_neg c,if_neg (by rw[<- e];exact c)];exact .cons r ih
theorem CV.look (h:CV Z vs ds):(ds.lookup f=none/\vs.lookup f=none)\/∃d v,ds.lookup f=some d/\vs.lookup f=some v/\At Z v d:=by
 induction h with
 |nil=>exact .inl ⟨rfl,rfl⟩
 | @cons p q vs ds r t ih=>
  have e:=r.1;rw[BH,BH,e];cases c:f == q.1 with
  |true=>exact .inr ⟨_,_,rfl,rfl,r.2⟩
  |false=>exact ih
theorem HR.newO (h:HR K H M Z)(e1:H x=none)(e2:H dx=none)(ne:dx≠x):HR K (Cv (Cv H dx (.own x)) x (.ins C dx [])) (put M x (.obj C [])) Z:=by
 obtain⟨h1,h2⟩:=h.lay e2 (.own x);exact HR.newM ⟨h1,h2⟩ (by rw[HL (Bj ne)];exact e1) ⟨dx,[],L1,.nil⟩
end
section
variable      {m x:Str}
def WL (C:Av)(f:Str)(ta:DQ):DQ:=λτ M Q=>ta τ M λx M1=>JF x λp=>NC C (M1 p) λfs=>Cw (fs.lookup f) λd=>Q d M1
theorem G3 (c:Ov X.K C)(n:DY X.K C f)(he:BU X e ta)(hb:CD e f X.env (eval e X.env)=eval e X.env:=by rfl):BU X (.Attribute e f pos) (WL C f ta):=PE.mono (de he hb) (by
 intro U H Q;ext1⟨Z,τ,M,Q2,st,hr,h,k⟩;refine lE.bind st hr h λZ1 x dx H1 M1 l1 h1 a1 q1=>?_;obtain⟨p,rfl,fs,hm,q2⟩:=Ia q1;obtain⟨d,hd,q⟩:=Cj q2;obtain⟨ix,vs,hv,ka⟩:=h1.rdMO hm;rcases ka.look with⟨e1,_⟩|⟨d',v,e1,e2,a⟩
 .rw[hd]at e1;cases e1
 .rw [hd] at e1;cases e1;exact ⟨p,C,ix,vs,v,a1,hv,c,n,e2,k Z1 v d H1 M1 l1 h1 a q⟩)
def Ss (C:Av)(f:Str)(ta tv:DQ):HM:=λE τ M=>tv τ M λy M1=>ta τ M1 λx M2=>JF x λp=>NC C (M2 p) λfs=>fs.length<1000/\E.nx τ (put M2 p (.obj C (putO f y fs)))
theorem gW (c:Ov X.K C)(n:DY X.K C f)(ha:BU X o ta)(hv:BU X value tv)(hs:De value (some (.Attribute o f pos')) pos.line X.env=pure false:=by rfl):GL X (.Assign [.Attribute o f pos'] value pos) (Ss C f ta tv):=PS.mono (e8 ha hv hs) (by
 intro D U H;ext1⟨Z,τ,M,D2,st,hr,h,er⟩;refine lE.bind st hr h λZ1 y dy H1 M1 l1 h1 a1 q1=>lE.bind (st.mono l1) h1 q1 λZ2 x dx H2 M2 l2 h2 a2 q2=>?_;obtain ⟨p,rfl,fs,hm,hl,q⟩:=Ia q2;obtain ⟨ix,vs,hv,ka⟩:=h2.rdMO hm;refine ⟨p,C,ix,vs,a2,hv,c,n,by rw [DW ka];exact hl,?_⟩;exact er.nx Z2 U τ _ _ (l1.trans l2) (st.mono (l1.trans l2)) (h2.chg (u':=.obj C (putO f dy fs)) hm ⟨ix,_,L1,ka.putO (a1.mono l2)⟩) q)
def Oh (C:Av)(m:Str)(sp:Du)(ta:DQ)(t:JV):DQ:=λτ M Q=>ta τ M λx M1=>JF x λp=>NC C (M1 p) λfs=>fs.lookup m=none/\t τ M1 λxs M2=>sp (.ref p::xs) M2 Q
theorem XD {K:Ac} :∀U H Q,lE K (Oh C m sp ta t) U H Q->PX C m (lSp K sp) [] E0 (lE K ta) (lA K t) U H Q:=by
 intro U H Q;ext1⟨Z,τ,M,Q2,st,hr,h,k⟩;refine lE.bind st hr h λZ1 x dx H1 M1 l1 h1 a1 q1=>?_;obtain⟨p,rfl,fs,hm,hn,q⟩:=Ia q1;obtain⟨ix,vs,hv,ka⟩:=h1.rdMO hm;have a1:=a1;subst a1;refine⟨p,ix,vs,rfl,hv,?_,Z1,τ,M1,_,st.mono l1,h1,q,λZ2 ws ds H2 M2 l2 h2 a2 q2=>?_⟩
 .rcases ka.look with⟨_,e2⟩|⟨d',v,e1,_,_⟩
  .exact e2
  .rw[hn]at e1;cases e1
 .show lSp K sp (V.ref p::(ws++[])) H2 Q E0;rw[CT];exact⟨Z2,.ref p::ds,M2,Q2,h2,.cons rfl a2,q2,k.le (l1.trans l2)⟩
theorem Fe {st:DE}(c:Ov X.K C)(d:Mf X.K C m qual st ps g fd)(G:FnOk X.prog X.w X.K X.mg X.base CX0 k g fd ps (lSp X.K sp))(hr:Dv k X.A)(ho:BU X o ta)(ha:Gj X (e::es) t)
  (hst:Au (e::es) X.env=(false,eval e X.env)::Au es X.env:=by rfl) (hpl:(Cb pos (Au es X.env)).any (·.1)=false:=by rfl)
  (ht:eval (.Call (.Attribute o m apos) (e::es) [] pos) X.env=(do
   let ov <- eval o X.env
   Mu apos.atName
   let (f,first) <- GD [ov] (Jv ov m pl)
   Rn pos f first (Cb pos (Au (e::es) X.env)) (Fo pos (DC [] X.env))):=by rfl) :
  BU X (.Call (.Attribute o m apos) (e::es) [] pos) (Oh C m sp ta t):=PE.mono (lg ho c d.m G hr d.b .nil Ol ha hst hpl ht) XD
theorem Kb {st:DE}(c:Ov X.K C)(d:Mf X.K C m qual st ps g fd)(G:FnOk X.prog X.w X.K X.mg X.base CX0 k g fd ps (lSp X.K sp))(hr:Dv k X.A)(ho:BU X o ta)
  (ht:eval (.Call (.Attribute o m apos) [] [] pos) X.env=(do
   let ov <- eval o X.env
   Mu apos.atName
   let (f,first) <- GD [ov] (Jv ov m pl)
   Rn pos f first (Cb pos (Au [] X.env)) (Fo pos (DC [] X.env))):=by rfl) :
  BU X (.Call (.Attribute o m apos) [] [] pos) (Oh C m sp ta TF):=PE.mono (qp ho c d.m G hr d.b .nil Ol ht) (by
 intro U H Q;ext1⟨Z,τ,M,Q2,st,hr,h,k⟩;refine lE.bind st hr h λZ1 x dx H1 M1 l1 h1 a1 q1=>?_;obtain⟨p,rfl,fs,hm,hn,q⟩:=Ia q1;obtain⟨ix,vs,hv,ka⟩:=h1.rdMO hm;have a1:=a1;subst a1;refine⟨p,ix,vs,rfl,hv,?_,⟨Z1,[.ref p],M1,Q2,h1,.cons rfl .nil,q,k.le l1⟩⟩;rcases ka.look with⟨_,e2⟩|⟨d',v,e1,_,_⟩
 .exact e2
 .rw [hn] at e1;cases e1)
def Sw (C:Av)(sp:Du)(t:JV):DQ:=λτ M Q=>t τ M λxs M1=>∀p,M1 p=none->sp (.ref p::xs) (put M1 p (.obj C [])) λv M2=>v=.non/\Q (.ref p) M2
theorem na {K:Ac}{M1:Mp}(l1:Le Z Z1)(h1:HR K H1 M1 Z1)(a1:Dm Z1 vs ds)(k:Hu K Z Q2 Q)(q1:∀p,M1 p=none->sp (.ref p::ds) (put M1 p (.obj C [])) λv M2=>v=.non/\Q2 (.ref p) M2) :
  ∀x dx,H1 x=none->H1 dx=none->dx≠x->lSp K sp (.ref x::(vs++[])) (Cv (Cv H1 dx (.own x)) x (.ins C dx [])) (λv H2=>v=.non/\Q (.ref x) H2) E0:=λx dx e1 e2 ne=>by
 rw[CT];refine⟨Z1,.ref x::ds,_,_,h1.newO e1 e2 ne,.cons rfl a1,q1 x (h1.fresh e1),λZ2 v d H2 M2 l2 h2 a2 q2=>?_⟩;obtain⟨rfl,q⟩:=q2;exact⟨a2,k Z2 (.ref x) (.ref x) H2 M2 (l1.trans l2) h2 rfl q⟩
theorem Xp {st:DE}(mk:Mk X.K C g)(d:Mf X.K C "__init__" qual st ps g fd)(G:FnOk X.prog X.w X.K X.mg X.base CX0 k g fd ps (lSp X.K sp))(hr:Dv (k+1) X.A)(hm:X.mg x=some (.ref C))(ha:Gj X (e::es) t)(hg:Gl X x:=by rfl)(hdb:(x == ("__debug__":Str))=false:=by decide)
  (he:Au (e::es) X.env=(false,eval e X.env)::Au es X.env:=by rfl) (hpl:(Cb pos (Au es X.env)).any (·.1)=false:=by rfl) :
  BU X (.Call (.Name x p) (e::es) [] pos) (Sw C sp t):=PE.mono (k9 mk G hr hg hm d.b .nil Ol ha hdb he hpl) (by
 intro U H Q;ext1⟨Z,τ,M,Q2,st,hr,h,k⟩;exact ⟨Z,τ,M,_,st,hr,h,λZ1 vs ds H1 M1 l1 h1 a1 q1=>na l1 h1 a1 k q1⟩)
theorem yQ :WL C f ta τ M Q=ta τ M λx M1=>JF x λp=>NC C (M1 p) λfs=>Cw (fs.lookup f) λd=>Q d M1:=rfl
theorem j5 :Ss C f ta tv E τ M=tv τ M λy M1=>ta τ M1 λx M2=>JF x λp=>NC C (M2 p) λfs=>fs.length<1000/\E.nx τ (put M2 p (.obj C (putO f y fs))):=rfl
theorem jv :Oh C m sp ta t τ M Q=ta τ M λx M1=>JF x λp=>NC C (M1 p) λfs=>fs.lookup m=none/\t τ M1 λxs M2=>sp (.ref p::xs) M2 Q:=rfl
theorem ju :Sw C sp t τ M Q=t τ M λxs M1=>∀p,M1 p=none->sp (.ref p::xs) (put M1 p (.obj C [])) λv M2=>v=.non/\Q (.ref p) M2:=rfl
end
end L3
namespace PySem
open Sem (wp)
section
end
end PySem
namespace L2
open PySem PySem.Spec PyProof.Rows L3
section
end
end L2
namespace L3
open PySem PySem.Spec PyProof.Rows L2
unseal BU Hv Jf Gj JW GL Dw Cf FR BP Fz Gc Ku Hq EF
section
end
end L3
namespace L2
open PySem PySem.Spec PyProof.Rows L3
section
end
end L2
namespace L3
open PySem PySem.Spec PyProof.Rows L2
unseal BU Hv Jf Gj JW GL Dw Cf FR BP Fz Gc Ku Hq EF
section
end
end L3
namespace L2
open PySem PySem.Spec PyProof.Rows L3
section
noncomputable def IX (c:Nat)(n:Int):Str:=⟨(Ay n.toNat c).toArray⟩
theorem wo:FS X (Bu .Mult) (λx y H Q=>∃c n,x=.str ⟨#[c]⟩/\y=.int n/\(0<=n/\n<=100)/\Q (.str (IX c n)) H):=by
 intro Ae s U H x y v u Q I rx ry;ext1⟨c,n,e1',e2',⟨h0,h1⟩,q⟩;obtain⟨t,rfl⟩:=(show∃t,v=DD ⟨#[c]⟩ t from rx);obtain⟨t',rfl⟩:=(show∃t,u=D0 n t from ry);have hz:(⟨#[c]⟩:Str).length=1:=rfl;have fin:∀r tk tk',r=IX c n->EP X Ae U Q (.str r tk) {s with toks:=tk' }:=λr tk tk' hr=>⟨.str r,H,I.tok _,⟨tk,rfl⟩,by rw[hr];exact q⟩;refine P.mul_str ?_ ?_ ?_ ?_
 .rw[decide_eq_false (by ext),decide_eq_false (by ext)];rfl
 .intro h3 _ h4
  have:(1000:Int)<(2^63-1) / n:=by
   have:(92233720368547758:Int)<=(2^63-1) / n:=Int.le_ediv_of_mul_le (by ext) (by ext);ext
  rw[hz]at h4;ext
 .intro h3 _;unfold cG;exact decide_eq_false (by rw[Hs,hz];ext)
 .split
  .next h3=>
   refine⟨by show KR _<=_;decide,fin _ _ _ ?_⟩;have e:n.toNat=0:=by ext
   unfold IX;rw[e];rfl
  .split
   .next h3 h4=>
    refine fin _ _ s.toks ?_;rcases(by simpa using h4:n=1\/(⟨#[c]⟩:Str).length=0)with h|h
    .rw[h];rfl
    .rw[hz]at h;ext
   .have hl:∀k a,(Ay k (#[c]:Array Nat)).foldl (·++·) a=a++(Ay k c).toArray:=by
     intro k;induction k with
     |zero=>intro a;simp
     |succ k ih=>intro a;rw[CY,DI,ih,CY];apply Array.toList_inj.mp;simp
    have e:(Ay n.toNat (#[c]:Array Nat)).foldl (·++·) #[]=(Ay n.toNat c).toArray:=by rw[hl];simp
    refine⟨?_,fin _ _ _ ?_⟩
    .rw[e];show(Ay n.toNat c).toArray.size<=_;rw[AU,Bn,Hs];ext
    .unfold IX;rw[e]
end
end L2
namespace L3
open PySem PySem.Spec PyProof.Rows L2
unseal BU Hv Jf Gj JW GL Dw Cf FR BP Fz Gc Ku Hq EF
section
def SM:K2:=λx y M Q=>EQ y λn=>∃c,x=.str ⟨#[c]⟩/\(0<=n/\n<=100)/\Q (.str (IX c n)) M
theorem aE:Cf X (Bu .Mult) SM:=FS.mono wo (by
 intro x y H Q;ext1⟨Z,dx,dy,M,Q2,hr,ax,ay,h,k⟩;obtain ⟨n,rfl,c,rfl,hz,q⟩:=CU h;exact ⟨c,n,ax,ay,hz,k.s hr q⟩)
theorem ZQ (h:0<=n/\n<=100)(q:Q (.str (IX c n)) M):SM (.str ⟨#[c]⟩) (.int n) M Q:=⟨c,rfl,h,q⟩
end
end L3
namespace L2
open PySem PySem.Spec PyProof.Rows
section
end
noncomputable def cH:List Ah:=[.type "ValueError",.type "Exception",.type "BaseException",.type "object"]
def kU (K:Ac)(C:Av):Prop:=PySem.W.excIn K C cH "ValueError.__new__" = true
section
end
section
end
section
variable {X:Cx}{Ae:List (Av×Obj)}{U:St}{H:Hp}{s:Aq}  {a:Av}  {oe:Obj}
end
section
end
section
variable     {st:DE}
end
end L2
namespace L2
open PySem PySem.Spec PyProof.Rows
open PySem.W in
noncomputable def kW (K:Tw)(C:Av):Bool:=
 bZ K (.ref C) "__getattribute__" == some (some (.builtin "BaseException.__getattribute__")) && bZ K (.ref C) "__getattr__" == some none && bZ K (.ref C) "__class__" == some (some (.builtin "object.__class__")) &&
 (mroIn K C (.type "object") == some true && mroIn K C (.type "BaseException") == some true && (clsIn K C).isSome)
section
open PySem.W PySem.Builtin PySem.Builtin.ObjectAttr PySem.Builtin.Getset_descriptor PySem.Calls
variable {prog:Bp}{w:BK}{A:Cu}{E:Ah->Aq->Prop}{s:Aq}{K:Tw}{x C:Av}
end
section
end
end L2
namespace L2
open PySem PySem.Spec PyProof.Rows
section
end
end L2
namespace L3
open PySem PySem.Spec PyProof.Rows L2
abbrev kO:=Str->Mp->Prop
section
variable (K:Ac)(mg:Str->Option Ah)
end
section
variable {K:Ac}{H H':Hp}{M M':Mp}{Z Z':Zt}
end
end L3
namespace L3
open PySem PySem.Spec PyProof.Rows L2
unseal BU Hv Jf Gj JW GL Dw
section
end
section
variable   {K:Ac}
end
section
end
section
end
section
variable   {K:Ac}
end
abbrev kQ:=Gy->Mp->Ef->kO->Prop
abbrev kP:=JG->kO->Gy->Mp->Prop
section
end
noncomputable def XH (x c:Str):Bool:=x == c || c == ("BeatError":Str) || c == ("ValueError":Str)
def YM (mg:Str->Option Ah)(cn:Str)(c:Ah):Prop:=mg cn=some c\/(mg cn=none/\EJ cn=some c/\cn≠"__name__")
def kT (K:Ac)(mg:Str->Option Ah)(x:Str)(C:Av)(CS:List Str):Prop:=kW K C=true/\∀cn∈CS,∃c,YM mg cn c/\PySem.W.kitOne K (.ref C) c=some (XH x cn)
structure ZsT (K:Ac)(mg:Str->Option Ah)(B:Str)(XS CS:List Str):Prop where
 ex:∃cB,YM mg B cB/\∀x∈XS,∃C,mg x=some (.ref C)/\PySem.W.exmOne K (.ref C) cB=some true/\kU K C/\kT K mg x C CS
section
variable   {K:Ac}
end
section
end
section
variable {τ:Gy}{M:Mp}   {D:JG}{E:kO}     {tx:kQ}{tb:kP}{th:HM}   {x:Str}{xs:List Str}
end
section
end
end L3
namespace L2
open PySem PySem.Spec PyProof.Rows
section
variable {X:Cx}{e:B8}
end
end L2
namespace L3
open PySem PySem.Spec PyProof.Rows L2
unseal BU
section
end
end L3
namespace L3
open PySem PySem.Spec PyProof.Rows L2
section
unseal Dw
theorem Eg.filt {ks:List α}(hz:ks.length<=Am)(hS:S M)(ht:∀k∈ks,∀R:Bool->Mp->Prop,R (pr k) M->tt (LB τ caps (some (g k))) M R)(h:∀k∈ks,∀R,R (f k) M->te (LB τ caps (some (g k))) M R)(q:Q ((ks.filter pr).map f) M):Eg (ks.map g) S caps tt te τ M Q:=by
 refine⟨by rw[Ab];exact hz,λi ys M'=>M'=M/\ys=((ks.take i).filter pr).map f,⟨rfl,rfl⟩,?_,?_,?_⟩
 .rintro i ys M' ⟨rfl,rfl⟩;exact⟨hS,by rw[Ab];exact A7 (CP _ _) (by rw[A6];ext)⟩
 .rintro i x ys M' hx ⟨rfl,rfl⟩;rw[AJ]at hx;cases e:ks[i]? with
  |none=>rw[e]at hx;cases hx
  |some k=>
   rw[e]at hx;cases hx;refine ht k (AE e) _ ?_;dsimp only;cases c:pr k with
   |true=>rw[if_pos rfl];exact h k (AE e) _ ⟨rfl,by rw[BE,e,EY,AM];simp[c]⟩
   |false=>rw[if_neg (by decide)];exact⟨rfl,by rw[BE,e,EY,AM];simp[c]⟩
 .rintro ys M' ⟨rfl,rfl⟩;rw[Ab,BD];exact q
end
section
end
end L3
namespace L3
open PySem PySem.Spec PyProof.Rows L2
unseal Cf
section
unseal Dw
unseal BU
unseal Hq
unseal GL
end
end L3
namespace L2
open PySem PySem.Spec PyProof.Rows
section
end
section
end
end L2
namespace L3
open PySem PySem.Spec PyProof.Rows L2
section
unseal BU
unseal Hq
unseal GL
end
section
unseal BP
end
end L3
namespace L2
open PySem PySem.Spec PyProof.Rows
section
def WV (j:Nat)(t:TI->TE):TE:=λU H Q=>∃a ks,U[j]? = some (some (.ref a))/\Rd H a (.dK ks)/\∀ob,t (λ_ H R=>R (UM ks) H) U (Cv H a (.frz ob (.dK ks))) Q
theorem nW (B:Dx X scope x caps):Dx (X.fr f) scope x caps:={B with}
theorem sL (B:Dx X scope x caps)(hc:X.calm=true)(hl:∀f,PE (X.fr f) (.Name y py) (OM j))
  (he:∀f cl C fp pn s H,PE (FZ (X.fr f) scope cl C (x::caps.map (·.1)) fp pn s H) elt te) (hif:∀f cl C fp pn s H,GN (FZ (X.fr f) scope cl C (x::caps.map (·.1)) fp pn s H) ifs tt)
  (hs:∀x,Ba (.Name y py) X.env x=pure x):PE X (.ListComp elt [⟨.Name x px,.Name y py,ifs,0⟩] scope pos) (WV j λwi=>Ih wi caps tt te):=by
 intro Ae s U H Q I ⟨a,ks,e,rd,h⟩;obtain⟨ob,I1⟩:=I.freeze rd;have z:=ZS (X:=X.fr (a,ob,.dK ks)) (pos:=pos) (px:=px) (wi:=λU H R=>OM j U H λv H1=>v=.ref a/\R (UM ks) H1) (nW B) hc (oW (hl _) (AG)) (he _) (hif _) hs Ae s U _ Q I1 ⟨_,e,rfl,h ob⟩;refine BG z (λu s' q=>?_) λ_ _ q=>q;obtain⟨v,H1,J,r,q⟩:=q;exact⟨v,H1,J.unfr,r,q⟩
def WP (j:Nat)(t:TI->TS):TS:=λD U H=>∃a ks,U[j]? = some (some (.ref a))/\Rd H a (.dK ks)/\∀ob,t (λ_ H R=>R (UM ks) H) D U (Cv H a (.frz ob (.dK ks)))
theorem qt (hN:X.N.Nodup)(hi0:X.N[i]? = some z)(hy:X.env.scope.names.lookup z=some .local)(B:Dx X scope x caps)(hc:X.calm=true)(hl:∀f,PE (X.fr f) (.Name y py) (OM j))
  (he:∀f cl C fp pn s H,PE (FZ (X.fr f) scope cl C (x::caps.map (·.1)) fp pn s H) elt te) (hif:∀f cl C fp pn s H,GN (FZ (X.fr f) scope cl C (x::caps.map (·.1)) fp pn s H) ifs tt)
  (hsw:De (.ListComp elt [⟨.Name x px,.Name y py,ifs,0⟩] scope pos) (some (.Name z pz)) spos.line X.env=pure true)
  (hs:∀x,Ba (.Name y py) X.env x=pure x):PS X (.Assign [.Name z pz] (.ListComp elt [⟨.Name x px,.Name y py,ifs,0⟩] scope pos) spos) (WP j λwi=>Ma (Ih wi caps tt te) (I8 i)):=by
 intro Ae s U H D I ⟨a,ks,e,rd,h⟩;obtain⟨ob,I1⟩:=I.freeze rd;have w:=ZU (X:=X.fr (a,ob,.dK ks)) (pos:=pos) (px:=px) (py:=pz) (spos:=spos) (wi:=λU H R=>OM j U H λv H1=>v=.ref a/\R (UM ks) H1) hN hi0 hy (nW B) hc (oW (hl _) (AG)) (he _) (hif _) hsw hs Ae s U _ D I1 ⟨_,e,rfl,h ob⟩;refine BG w (λf s' q=>?_) λ_ _ q=>q;cases f with
 |next=>obtain⟨U',H',J,q⟩:=q;exact⟨U',H',J.unfr,q⟩
 |brk=>obtain⟨U',H',J,q⟩:=q;exact⟨U',H',J.unfr,q⟩
 |cont=>obtain⟨U',H',J,q⟩:=q;exact⟨U',H',J.unfr,q⟩
 |ret u=>obtain⟨v,U',H',J,q⟩:=q;exact⟨v,U',H',J.unfr,q⟩
end
end L2
namespace L3
open PySem PySem.Spec PyProof.Rows L2
unseal BU Hv Jf Gj JW GL Dw Cf FR BP Fz Gc Ku Hq EF
section
theorem t0 {K:Ac}(st:Gx Z U τ)(h1:HR K H M Z)(jk:YJ K J xs S Z)(h:Eg xs S caps tt te τ M QL)
  (ht:∀U H Q,lT K tt U H Q->tt1 U H Q)
  (k:∀Z1 H1 M1 vs ds,Le Z Z1->HR K H1 M1 Z1->Dm Z1 vs ds->QL ds M1->∀p,H1 p=none->Q (.ref p) (Cv H1 p (.lst vs))):Ih (λ_ H R=>R J H) caps tt1 (lE K te) U H Q:=by
 obtain⟨hz,W,w0,stay,turn,done⟩:=h;refine⟨xs.length,λi vs H=>i<=xs.length/\∃Z2 M2 ds,Le Z Z2/\HR K H M2 Z2/\Dm Z2 vs ds/\W i ds M2,⟨DO _,Z,M,[],Le.refl _,h1,.nil,w0⟩,?_⟩;intro i vs H2;ext1⟨hi,Z2,M2,ds,l2,h2,a2,w2⟩;obtain⟨s2,hl⟩:=stay i ds M2 w2;obtain⟨go,stop⟩:=jk i H2 M2 Z2 l2 h2 s2;have la:=a2.length;by_cases hlt:i<xs.length
 .obtain⟨g1,g2⟩:=go _ (Af hlt);refine .inr ⟨g1,hlt,by ext,λx H' y=>?_⟩;obtain⟨Z5,l5,h5,a⟩:=g2 x H' y;have tk:=turn i _ ds M2 (Af hlt) w2;have l2:=l2.trans l5;have a2:=a2.mono l5;refine ht _ _ _ (lT.bind ((st.mono l2).cap caps a) h5 tk λZ3 b H3 M3 l3 h3 q3=>?_);cases b with
  |false=>rw[if_neg Aj]at q3 ⊢;exact⟨hlt,Z3,M3,ds,l2.trans l3,h3,a2.mono l3,q3⟩
  |true=>rw[if_pos rfl]at q3 ⊢;refine lE.bind (((st.mono l2).cap caps a).mono l3) h3 q3 λZ4 z dz H4 M4 l4 h4 a4 q4=>?_;exact⟨hlt,Z4,M4,ds++[dz],l2.trans (l3.trans l4),h4,(a2.mono (l3.trans l4)).append (.cons a4 .nil),q4⟩
 .have e:i=xs.length:=by ext
  subst e;exact .inl ⟨stop (AH _),by ext,k Z2 H2 M2 vs ds l2 h2 a2 (done ds M2 w2)⟩
theorem NJ {K:Ac}(ht:∀U H Q,lT K tt U H Q->tt1 U H Q):∀U H Q,lE K (FN (OL (FM j)) caps tt te) U H Q->WV j (λwi=>Ih wi caps tt1 (lE K te)) U H Q:=by
 intro U H Q;ext1⟨Z,τ,M,Q2,st,hr,h,k⟩;obtain⟨d,e,q⟩:=Cj h;obtain⟨kvs,e2,q⟩:=Cj q;obtain⟨v,e1,a⟩:=st.get (EL.mp e);cases d with
 |dic ds=>
  cases e2;obtain⟨p,rfl,z⟩:=a;rcases hr.z p _ z with⟨ks,rd,ka⟩|k
  .refine⟨p,ks,e1,rd,λob=>?_⟩;exact t0 st (hr.frzH z rd) (sk ka) q ht λZ1 H1 M1 vs ds l1 h1 a1 q p hp=>(k.le l1).f h1 hp a1 q
  .exact k.elim
 |_=>cases e2
theorem RI (B:Dx X scope x caps)(hc:X.calm=true)(hN:X.N[j]? = some y)(hv:UD X.env.scope y)(hd:(y == ("__debug__":Str))=false)(hcd:(y == ("__classdict__":Str))=false)(he:∀f cl C fp pn s H,BU (FZ (X.fr f) scope cl C (x::caps.map (·.1)) fp pn s H) elt te)
  (hs:∀x,Ba (.Name y py) X.env x=pure x:=by intro _;rfl):BU X (.ListComp elt [⟨.Name x px,.Name y py,[],0⟩] scope pos) (FN (OL (FM j)) caps Ha te):=PE.mono (sL (te:=lE X.K te) B hc (λf=>ZP (X:=X.fr f) hN hv hd hcd) he (λ_ _ _ _ _ _ _=>GN.nil) hs) (NJ Ld)
theorem P9 (B:Dx X scope x caps)(hc:X.calm=true)(hN:X.N[j]? = some y)(hv:UD X.env.scope y)(hd:(y == ("__debug__":Str))=false)(hcd:(y == ("__classdict__":Str))=false)(he:∀f cl C fp pn s H,BU (FZ (X.fr f) scope cl C (x::caps.map (·.1)) fp pn s H) elt te)(hif:∀f cl C fp pn s H,Hv (FZ (X.fr f) scope cl C (x::caps.map (·.1)) fp pn s H) c tt)
  (hs:∀x,Ba (.Name y py) X.env x=pure x:=by intro _;rfl):BU X (.ListComp elt [⟨.Name x px,.Name y py,[c],0⟩] scope pos) (FN (OL (FM j)) caps tt te):=PE.mono (sL (te:=lE X.K te) (tt:=lT X.K tt) B hc (λf=>ZP (X:=X.fr f) hN hv hd hcd) he (λf cl C fp pn s H=>GN.one (hif f cl C fp pn s H)) hs) (NJ λ_ _ _ h=>h)
theorem XC {K:Ac}(ht:∀U H Q,lT K tt U H Q->tt1 U H Q):∀D U H,lS K (Fd i (FN (OL (FM j)) caps tt te)) D U H->WP j (λwi=>Ma (Ih wi caps tt1 (lE K te)) (I8 i)) D U H:=by
 intro D U H;ext1⟨Z,τ,M,D2,st,hr,h,er⟩;exact NJ ht _ _ _ (lE.bind st hr h λZ1 x dx H1 M1 l1 h1 a1 q1=>lS.nx (er.le l1) ((st.mono l1).set a1 i) h1 q1)
end
end L3
namespace PySem
open Sem (wp)
section
theorem wj {items}(hit:s.heap.IsTupleIter it t i)(hl:s.heap.IsTuple t items)(hx:items[i]? = some x)
  (hQ:∀h',h'.IsTupleIter it t (i+1)->Bx it s.heap h'->Q x {s with heap:=h' }):Ar (Az prog w) A (Ce (.ref it)) Q E s:=by
 obtain⟨o,ho,hc,hd⟩:=id hit;obtain⟨ol,hol,_,nl,hdl⟩:=hl;unfold Ce;refine Aa (DR hit.typeIs F.slot_tuple_iterator_next (BL F.slot_tuple_iterator_next hit.typeIs F.entry_tuple_iterator_next ?_ (F.args_tuple_iterator_next_1 _)));show Ar _ _ (field (.ref it) 0 >>= _) _ _ s;refine Aa (F1 ho hd rfl ?_);show Ar _ _ (if (AC t == Ed)=true then _ else _) _ _ s;rw[if_neg (show¬((AC t == Ed)=true)from Aj)];show Ar _ _ (field (.ref it) 1 >>= _) _ _ s;refine Aa (F1 ho hd rfl ?_);show Ar _ _ (seqItems? (.ref t) >>= _) _ _ s;refine Aa (GW hol hdl ?_);simp only[Br,hx];refine Aa (CF ho hd (by simp) (Ad ⟨x,rfl,Ad (hQ _ ?_ (AZ ..))⟩));exact⟨_,Db _ ho (NY (Gn hd _)),(QP ..).trans hc,by rw[Gn hd];simp[JX]⟩
theorem ZfD {items}(hh:A.handled=none)(hit:s.heap.IsTupleIter it t i)(hl:s.heap.IsTuple t items)(hx:items[i]? = none)
  (hE:∀h' e,Wp it s.heap h'->(∃o,h'.get? e=some o/\o.cls=.type "StopIteration")->E (.ref e) {s with heap:=h' }):Ar (Az prog w) A (Ce (.ref it)) Q E s:=by
 obtain⟨o,ho,hc,hd⟩:=id hit;obtain⟨ol,hol,_,nl,hdl⟩:=hl;unfold Ce;refine Aa (DR hit.typeIs F.slot_tuple_iterator_next (BL F.slot_tuple_iterator_next hit.typeIs F.entry_tuple_iterator_next ?_ (F.args_tuple_iterator_next_1 _)));show Ar _ _ (field (.ref it) 0 >>= _) _ _ s;refine Aa (F1 ho hd rfl ?_);show Ar _ _ (if (AC t == Ed)=true then _ else _) _ _ s;rw[if_neg (show¬((AC t == Ed)=true)from Aj)];show Ar _ _ (field (.ref it) 1 >>= _) _ _ s;refine Aa (F1 ho hd rfl ?_);show Ar _ _ (seqItems? (.ref t) >>= _) _ _ s;refine Aa (GW hol hdl ?_);simp only[Br,hx];refine Aa (FD (Aa (CF ho hd (by simp) ?_)));show Ar _ _ (bV (.type "StopIteration") [] >>= _) _ _ _;refine Aa ?_;simp only[bV,newTuple];refine Aa (BC ?_ (by size_fits));refine Aa (BY (by first | rfl | (simp only[bY];rfl)) ?_);refine BC ?_ (by size_fits);simp only[bU];refine Aa (wpAny_handled ?_)
 first | rw[show A.in1.handled=none from hh] | rw[hh]
 refine Aa (Ad (wpAny_throw ?_));exact hE _ _ (((AZ ..).extBut.push _).push _) ⟨_,Ax _ rfl,rfl⟩
structure YC (prog:Bp)(w:BK)(A:Cu)(it l:Av)(xs:Array Ah)(St:Nat->CH->Prop):Prop where
 keep:∀k h h',St k h->(∀b,b=it\/b=l->∀o,h.get? b=some o->h'.get? b=some o)->St k h'
 lt:∀k h,St k h->it<h.objs.size
 item:∀k x (s:Aq) (E:Ah->Aq->Prop) (Q:Ah->Aq->Prop),St k s.heap->xs[k]? = some x->(∀h',St (k+1) h'->Bx it s.heap h'->Q x {s with heap:=h' })->Ar (Az prog w) A (Ce (.ref it)) Q E s
 done:∀k (s:Aq) (E:Ah->Aq->Prop) (Q:Ah->Aq->Prop),St k s.heap->xs[k]? = none->(∀h' e,Wp it s.heap h'->(∃o,h'.get? e=some o/\o.cls=.type "StopIteration")->E (.ref e) {s with heap:=h' })->Ar (Az prog w) A (Ce (.ref it)) Q E s
theorem YC.tup (hh:A.handled=none)(hne:l≠it)(xs:Array Ah):YC prog w A it l xs (λk h=>h.IsTupleIter it l k/\h.IsTuple l xs) where
 keep:=λk h h' st e=>⟨let ⟨o,ho,r⟩:=st.1;⟨o,e it (.inl rfl) _ ho,r⟩,let ⟨o,ho,r⟩:=st.2;⟨o,e l (.inr rfl) _ ho,r⟩⟩
 lt:=λk h st=>let ⟨_,ho,_⟩:=st.1;Ap ho
 item:=λk x s E Q st e hQ=>wj st.1 st.2 e λh' i' sb=>hQ h' ⟨i',st.2.extBut sb.extBut hne⟩ sb
 done:=λk s E Q st e hE=>ZfD hh st.1 st.2 e hE
end
end PySem
namespace L2
open PySem PySem.Spec PyProof.Rows L3
end L2
namespace L3
open PySem PySem.Spec PyProof.Rows L2
unseal BU Hv Jf Gj JW GL Dw Cf FR BP Fz Gc Ku Hq EF
section
end
end L3
namespace L2
open PySem PySem.Spec PyProof.Rows L3
noncomputable def YK (K:Ac)(a:Av):It:=
  ⟨λi H=>∃ xs x,F0 K H a xs/\xs[i]? = some x,
   λi H v H'=>∃p x,v=.ref p/\H p=none/\H'=Cv H p (.tup [.int i,x])/\∀xs,F0 K H a xs->xs[i]? = some x,
   λi H=>∃ xs,F0 K H a xs/\xs.length<=i⟩
structure kX (e it a:Av)(i:Nat)(h:CH):Prop where
 n1:e≠it
 n2:a≠e/\a≠it
 he:∃old,IsEnum h e it i old
 hi:h.IsListIter it a i
theorem qa {K:Ac}(e it a):LF P w K F (.Tuple es k pos) (YK K a) [e,it] e (kX e it a) where
 mem:=by simp
 obj:=λi h st c hc=>by
  obtain⟨old,he⟩:=st.he;obtain⟨o,ho,-,d⟩:=st.hi;simp only[BA,AR,or_false]at hc;rcases hc with rfl|rfl
  .exact⟨_,he,λv q=>by cases q⟩
  .exact⟨_,ho,λv q=>by rw[d]at q;cases q⟩
 keep:=λi h h' st k=>by
  obtain⟨old,he⟩:=st.he;obtain⟨o,ho,r⟩:=st.hi;exact{st with he:=⟨old,k e (by simp) _ he⟩,hi:=⟨o,k it (by simp) _ ho,r⟩}
 item:=by
  intro X hP hw hK hF hc i Ae s U H E I hf st hg;subst hP hw hK;obtain⟨xs,x,hx,ex⟩:=hg;obtain⟨Bh,rv,pl,hzz⟩:=I.list hx;obtain⟨u,hu,ru⟩:=rv.get ex;obtain⟨old,he⟩:=st.he;refine wpAny_pyNext_enum_item he st.hi pl.isList (by simpa using hu) st.n1 λh' e1 i1 t1 z1 old1=>?_;refine⟨_,rfl,wpAny_letOwnedTupleGo_enum e1 λh2 e2 sb=>?_⟩
  have ne:∀q∈[e,it],q≠s.heap.objs.size:=λq hq eq=>by
   have hob:∃o,s.heap.get? q=some o:=by
    obtain⟨o,ho,-⟩:=st.hi;simp only[BA,AR,or_false]at hq;rcases hq with rfl|rfl
    .exact⟨_,he⟩
    .exact⟨_,ho⟩
   obtain⟨o,e'⟩:=hob;rw[eq]at e';exact absurd (Ap e') (EI _)
  have I1:A4 X Ae U H {s with heap:=h2,toks:=s.toks+1}:=I.turnedN hf λq o hq e'=>by
   simp only[BA,AR,or_false,not_or]at hq;exact(sb.2 q hq.1).trans (old1 q o hq.1 hq.2 e')
  have freshT:=I.fresh;have tp2:=(sb.2 _ (λe'=>ne e (by simp) e'.symm)).trans t1;have I2:A4 X Ae U (Cv H s.heap.objs.size (.tup [.int i,x])) {s with heap:=h2,toks:=s.toks+1}:=I1.track (I.fpOk (AH _) freshT) ⟨Fl (B5 (by simp)),[.int i s.toks,u],.cons ⟨_,rfl⟩ (.cons ru .nil),_,tp2,rfl,_,rfl,rfl⟩;refine⟨.ref s.heap.objs.size,_,I2,rfl,⟨_,x,rfl,freshT,rfl,λzs hz=>by rw[I.list_inj hz hx];exact ex⟩,?_,λq hq=>?_⟩
  .obtain⟨o,ho,r⟩:=i1;exact{st with he:=⟨u,e2⟩,hi:=⟨o,(sb.2 it (Bj st.n1)).trans ho,r⟩}
  .rw[HL (ne q hq)];exact(hf q hq).1
 done:=by
  intro X hP hw hK hF hc i Ae s U H E I hf st hg;subst hP hw hK;obtain⟨xs,hx,hl⟩:=hg;obtain⟨Bh,rv,pl,_⟩:=I.list hx;obtain⟨old,he⟩:=st.he;have e1:=rv.length;refine wpAny_pyNext_enum_end (I.ok.hd hc) he st.hi pl.isList (by simp;ext) λh' eb=>⟨rfl,I.turnedN hf λq o hq e'=>?_⟩;simp only[BA,AR,or_false,not_or]at hq;exact eb q o hq.2 e'
 self:=λ_ _ _ _ _ st h=>by
  obtain⟨old,he⟩:=st.he;exact UQ he h
theorem yC {X:Cx}{es:List B8}{k:Nat}{tp:Pos}{a:B8}{ta:TA}{p pos:Pos}(hg:Gl X "enumerate")(hm:X.mg "enumerate" = none)(ha:PA X [a] ta)(hs:Au [a] X.env=[(false,eval a X.env)]:=by rfl) :
  PI X (.Tuple es k tp) (.Call (.Name "enumerate" p) [a] [] pos) (λU H R=>ta U H λvs H1=>∃a xs,vs=[.ref a]/\F0 X.K H1 a xs/\R (YK X.K a) H1):=by
 intro Ae s U H R I h;refine Call_ (Qt I hg hm boot_enumerate (Bz (Dl (ha pos Ae s U H _ I h) λus s1 e=>e.el λvs H1 I1 r1 q1=>?_) (by rw[hs];rfl) (by first | rfl | simp[Au])));obtain⟨a,xs,e,hx,q⟩:=q1;subst e;cases r1 with
 |cons r rr=>
  cases rr;cases(show _=AC a from r);obtain⟨Bh,rv,pl,_⟩:=I1.list hx;refine call_enumerate_list pl.isList λh' e1 i1 z1 old=>?_;have I2:A4 X Ae U H1 {s1 with heap:=h' }:=I1.kept λb o e=>old b o e;have la:a<s1.heap.objs.size:=by obtain⟨o,ho,-⟩:=pl.isList;exact Ap ho
  refine UQ e1 ?_;refine⟨_,[s1.heap.objs.size+1,s1.heap.objs.size],_,_,H1,rfl,I2,qa _ _ a,⟨Rr _,⟨A5 (Eh la),A5 la⟩,⟨_,e1⟩,i1⟩,λc hc=>?_,q⟩
  have hge:s1.heap.objs.size<=c:=by
   simp only[BA,AR,or_false]at hc;rcases hc with rfl|rfl
   .exact GC _ _
   .exact AH _
  exact I1.fpOk hge (I1.hok.fresh hge)
end L2
namespace L3
open PySem PySem.Spec PyProof.Rows L2
unseal BU Hv Jf Gj JW GL Dw Cf FR BP Fz Gc Ku Hq EF
section
noncomputable def T8 (n:Nat):List D->List D
 |[]=>[]
 |x::r=>.tup [.int n,x]::T8 (n+1) r
theorem iG:∀{n i:Nat}{xs:List D}{d:D},(T8 n xs)[i]? = some d->∃x,xs[i]? = some x/\d=.tup [.int (n+i:Nat),x]
 |_,_,[],_,h=>nomatch h
 |n,0,x::r,d,h=>by cases h;exact⟨x,rfl,rfl⟩
 |n,i+1,x::r,d,h=>by
  obtain⟨y,h1,h2⟩:=iG (xs:=r) h;exact⟨y,h1,by rw[h2,show n+1+i=n+(i+1) by ext]⟩
theorem iH:∀{n:Nat}{xs:List D},(T8 n xs).length=xs.length
 |_,[]=>rfl
 |n,x::r=>by rw[T8,AK,iH,AK]
def lF (t:JV):MN:=λτ M R=>t τ M λds M1=>Ga ds λx=>Cw (Bi M1 x) λxs=>R (T8 0 xs) (λM=>Bi M x=some xs) M1
theorem yG (hm:X.mg "enumerate" = none)(ha:Gj X [a] ta)(hg:Gl X "enumerate":=by rfl)(hs:Au [a] X.env=[(false,eval a X.env)]:=by rfl) :
  Hq X (.Tuple es n tp) (.Call (.Name "enumerate" p) [a] [] pos) (lF ta):=PI.mono (yC hg hm ha hs) (by
 intro U H R;ext1⟨Z,τ,M,R2,st,hr,h,k⟩;refine ⟨Z,τ,M,_,st,hr,h,λZ1 vs ds H1 M1 l1 h1 a1 q1=>?_⟩;obtain ⟨x,rfl,q0⟩:=G4 q1;obtain ⟨xs,ex,q⟩:=Cj q0;obtain ⟨v,rfl,a2⟩:=Ic a1;obtain ⟨p,ws,rfl,hs,b2⟩:=h1.rdL ex a2;refine ⟨p,ws,rfl,hs,k Z1 _ (T8 0 xs) _ H1 M1 l1 h1 (λi H M Z' l hr s=>?_) q⟩;obtain ⟨q,us,e2,hu,c2⟩:=hr.rdL s (a2.mono l);cases e2;have lu:=c2.length;refine ⟨λd hd=>?_,λhi=>⟨us,hu,by rw [iH] at hi;ext⟩⟩;obtain ⟨d1,g1,rfl⟩:=iG hd;obtain ⟨v1,hv1,av1⟩:=c2.get g1;refine ⟨⟨us,v1,hu,hv1⟩,λz H' yl=>?_⟩;obtain ⟨r,x',rfl,hn,rfl,f1⟩:=yl;have z1:=f1 us hu;rw [hv1] at z1;cases z1;exact ⟨_,Le.ext,hr.newT hn (.cons (show At Z' (V.int (i:Int)) (D.int ((0+i:Nat):Int)) by rw [Ey];exact rfl) (.cons av1 .nil)),⟨r,rfl,.inr ⟨rfl,rfl⟩⟩⟩)
theorem zV :lF t τ M R=t τ M λds M1=>Ga ds λx=>Cw (Bi M1 x) λxs=>R (T8 0 xs) (λM=>Bi M x=some xs) M1:=rfl
theorem wt (hN:X.N.Nodup)(hi0:X.N[i]? = some z)(hy:X.env.scope.names.lookup z=some .local)(B:Dx X scope x caps)(hc:X.calm=true)(hN2:X.N[j]? = some y)(hv:UD X.env.scope y)(hd:(y == ("__debug__":Str))=false)(hcd:(y == ("__classdict__":Str))=false)(he:∀f cl C fp pn s H,BU (FZ (X.fr f) scope cl C (x::caps.map (·.1)) fp pn s H) elt te)(hif:∀f cl C fp pn s H,Hv (FZ (X.fr f) scope cl C (x::caps.map (·.1)) fp pn s H) c tt)
  (hsw:De (.ListComp elt [⟨.Name x px,.Name y py,[c],0⟩] scope pos) (some (.Name z pz)) spos.line X.env=pure true:=by rfl) (hs:∀x,Ba (.Name y py) X.env x=pure x:=by intro _;rfl) :
  GL X (.Assign [.Name z pz] (.ListComp elt [⟨.Name x px,.Name y py,[c],0⟩] scope pos) spos) (Fd i (FN (OL (FM j)) caps tt te)):=PS.mono (qt (te:=lE X.K te) (tt:=lT X.K tt) hN hi0 hy B hc (λf=>ZP (X:=X.fr f) hN2 hv hd hcd) he (λf cl C fp pn s H=>GN.one (hif f cl C fp pn s H)) hsw hs) (XC λ_ _ _ h=>h)
theorem sW :∀{vs:List V}{ds:List D}(i:Nat),Dm Z vs ds->Dm Z (vs.eraseIdx i) (ds.eraseIdx i)
 |[],[],_,.nil=>.nil
 |_::_,_::_,0,.cons _ t=>t
 |_::_,_::_,i+1,.cons a t=>.cons a (sW i t)
def P2:D->List D->Mp->Ef->Prop:=λx xs M Q=>JF x λp=>Ga xs λy=>EQ y λi=>ND (M p) λys=>∃(j:Nat) (d:D),i=j/\j<1000000/\ys[j]? = some d/\Q d (put M p (.lst (ys.eraseIdx j)))
theorem f8:EF X "list.pop" P2:=MP.mono sv (by
 intro x xs H Q;ext1⟨Z,d,ds,M,Q2,hr,a,as,h,k⟩;obtain ⟨p,rfl,h1⟩:=Ia h;obtain ⟨y,rfl,h2⟩:=G4 h1;obtain ⟨i,rfl,h3⟩:=CU h2;obtain⟨ys,e,j,dj,e1',hj,hd,q⟩:_:=gJ h3;cases (show x=V.ref p from a);obtain ⟨v,rfl,av⟩:=Ic as;cases (show v=V.int (j:Int) from av);obtain ⟨vs,r,a2⟩:=hr.rdM e;obtain ⟨u,hu,au⟩:=a2.get hd;have hl:=(Ai.mp hu).1;exact ⟨p,vs,j,j,u,rfl,rfl,r,by ext,by ext,(pY (by unfold Q8;rw [if_pos (by ext),if_pos (by ext),Br])).1,hu,k Z u dj _ _ (Le.refl _) (hr.chgL e (sW j a2)) au q⟩)
theorem j1 :P2 (.ref p) [.int i] M Q=ND (M p) λys=>∃(j:Nat) (d:D),i=j/\j<1000000/\ys[j]? = some d/\Q d (put M p (.lst (ys.eraseIdx j))):=by
 unfold P2;rw[Qr,ZE,gL]
end
end L3
namespace L2
open PySem PySem.Spec PyProof.Rows
noncomputable def UL (lo:Int)(n:Nat):It:=⟨λi _=>i<n,λi H x H'=>H'=H/\x=.int (lo+(i:Nat)*(-1:Int)),λi _=>n<=i⟩
theorem yw {K:Ac}(it:Av)(lo:Int)(n:Nat):LF P w K F tg (UL lo n) [it] it (λi h=>LV h it (lo+(i:Nat)*(-1:Int)) ((n:Int)-(i:Nat)) (-1)) where
 mem:=by simp
 obj:=λi h st b hb=>by
  have e:b=it:=by simpa using hb
  subst e
  exact ⟨_,st,λv z=>by
   have z':=z;cases z'⟩
 keep:=λi h h' st k=>k it (by simp) _ st
 item:=by
  intro X hP hw hK hF hc i Ae s U H E I hf st hg;subst hP hw hK;obtain⟨f0,f1,f2,f3,f4,f5⟩:=hf it (by simp);have W:=UY (prog:=X.prog) (w:=X.w) (I.ok.hd hc) it lo (-1) n;refine W.item i s _ _ hg st λv h' tk hv st' kk=>?_;obtain⟨t,rfl⟩:=hv;have I1:A4 X Ae U H {s with heap:=h',toks:=tk}:=I.turned (λb o hb e=>kk b o (by simpa using hb) e) f0 f1 f3 f4 f5;exact⟨_,rfl,Vw (s:={s with heap:=h',toks:=tk}) (n:="range_iterator") st' rfl rfl (by decide) ⟨.int (lo+(i:Nat)*(-1:Int)),H,I1,⟨t,rfl⟩,⟨rfl,rfl⟩,st',λb hb=>(hf b hb).1⟩⟩
 done:=by
  intro X hP hw hK hF hc i Ae s U H E I hf st hg;subst hP hw hK;obtain⟨f0,f1,f2,f3,f4,f5⟩:=hf it (by simp);exact Pu (I.ok.hd hc) st (by have:n<=i:=hg;ext) λh' eb=>⟨rfl,I.turned (t':=s.toks) (λb o hb e=>eb b o hb e) f0 f1 f3 f4 f5⟩
 self:=λ_ _ _ _ _ st h=>Px st h
noncomputable def Pn (lo hi:Int):Nat:=(if hi<lo then lo-hi else 0).toNat
theorem ir (lo hi:Int):((Pn lo hi:Nat):Int)<=(if hi<lo then lo-hi else 0):=by
 unfold Pn;split<;>ext
theorem sT {lo hi:Int}:((Pn lo hi:Nat):Int)=Ek lo hi (-1):=by
 unfold Pn Ek;rw[if_neg (by decide:¬(-1:Int) > 0),show -(-1:Int)=1 from rfl,Wo];by_cases h:hi<lo
 .rw[if_pos h,if_pos h];ext
 .rw[if_neg h,if_neg h];rfl
def XI (ta:TA):TI:=λU H R=>ta U H λvs H1=>∃i j,vs=[.int i,.int j,.int (-1)]/\(-(2^61)<=i/\i<2^61/\-(2^61)<=j/\j<2^61)/\R (UL i (Pn i j)) H1
theorem u6 (hg:Gl X "range")(hm:X.mg "range" = none)(ha:PA X [a,b,d] ta)(hs:Au [a,b,d] X.env=[(false,eval a X.env),(false,eval b X.env),(false,eval d X.env)]:=by rfl)(hs2:Au [b,d] X.env=[(false,eval b X.env),(false,eval d X.env)]:=by rfl) :
  PI X tg (.Call (.Name "range" p) [a,b,d] [] pos) (XI ta):=by
 intro Ae s U H R I h;refine Call_ (Qt I hg hm boot_range (Bz (Dl (ha pos Ae s U H _ I h) λus s1 e=>e.el λvs H1 I1 r1 q1=>?_) (by rw[hs,hs2]) (by rw[hs2];rfl)));refine An λG' kk'=>?_;obtain⟨i,j,e,⟨q1,q2,q3,q4⟩,q⟩:=q1;refine kk' ?_;clear kk';subst e;cases r1 with
 |cons r rr=>
  cases rr with
  |cons r' rr=>
   cases rr with
   |cons r'' rr=>
    cases rr;obtain⟨t,rfl⟩:=r;obtain⟨t',rfl⟩:=r';obtain⟨t'',rfl⟩:=r'';refine call_range_3 (by ext) ?_ (.inl ?_)
    .have hsm:Kl i j (-1)=true:=by
      unfold Kl;rw[<- sT,if_neg (by decide)];simp only[Bo,GY];have:=ir i j;exact⟨⟨⟨⟨Yz (by ext) (by ext),Yz (by ext) (by ext)⟩,Yz (by ext) (by ext)⟩,Yz (by ext) (by ext)⟩,.inr (Yz (by ext) (by ext))⟩
     refine Tg (Sl ..) hsm ?_;have I2:A4 X Ae U H1 {s1 with heap:=s1.heap.push {cls:=.type "range",data:=.fields #[.int i t,.int j t',.int (-1) t'']} }:=I1.kept λb o e=>Ag _ e
     refine ⟨(s1.heap.push { cls:=.type "range",data:=.fields #[.int i t,.int j t',.int (-1) t''] }).objs.size,[(s1.heap.push { cls:=.type "range",data:=.fields #[.int i t,.int j t',.int (-1) t''] }).objs.size],_,_,H1,rfl,
      I2.kept λb o e=>Ag _ e,yw _ i (Pn i j),?_,λb hb=>?_,q⟩
     .have e1:i+((0:Nat):Int)*(-1:Int)=i:=by simp
      have e2:((Pn i j:Nat):Int)-((0:Nat):Int)=Ek i j (-1):=by rw[sT];ext
      show LV _ _ (i+((0:Nat):Int)*(-1:Int)) (((Pn i j:Nat):Int)-((0:Nat):Int)) (-1);rw[e1,e2];exact Ax _ rfl
     .have e:b=(s1.heap.push {cls:=.type "range",data:=.fields #[.int i t,.int j t',.int (-1) t'']}).objs.size:=by simpa using hb
      subst e;exact I2.fpOk (AH _) (I2.hok.fresh (AH _))
    .exact PyProof.noPylong_of_log2 (by decide)
end L2
namespace L3
open PySem PySem.Spec PyProof.Rows L2
unseal BU Hv Jf Gj JW GL Dw Cf FR BP Fz Gc Ku Hq EF
noncomputable def Me (lo:Int)(n:Nat):List D:=(Bk n).map λk=>.int (lo+(k:Nat)*(-1:Int))
theorem qy {lo:Int}(h:(Me lo n)[i]? = some d):i<n/\d=.int (lo+(i:Nat)*(-1:Int)):=by
 unfold Me at h;rw[AJ]at h;by_cases hi:i<n
 .rw[EC hi]at h;exact⟨hi,(A8 h).symm⟩
 .rw[Bv (by simp;ext)]at h;cases h
theorem sw (lo)(n):(Me lo n).length=n:=by unfold Me;rw[Ab,BX]
theorem xv {K:Ac}(lo:Int)(n:Nat):YJ K (UL lo n) (Me lo n) (λ_=>True) Z:=λi H M Z' l hr s=>by
 refine⟨λd hd=>?_,λhi=>by rw[sw]at hi;exact hi⟩;obtain⟨hi,rfl⟩:=qy hd;refine⟨hi,λx H' y=>?_⟩;obtain⟨rfl,rfl⟩:=y;exact⟨Z',Le.refl _,hr,rfl⟩
def So (t:JV):MN:=λτ M R=>t τ M λxs M1=>Jd xs λx y z=>EQ x λi=>EQ y λj=>z=.int (-1)/\(-(2^61)<=i/\i<2^61/\-(2^61)<=j/\j<2^61)/\R (Me i (Pn i j)) (λ_=>True) M1
theorem u9 (hm:X.mg "range" = none)(ha:Gj X [a,b,d] ta)(hg:Gl X "range":=by rfl)(hs:Au [a,b,d] X.env=[(false,eval a X.env),(false,eval b X.env),(false,eval d X.env)]:=by rfl)(hs2:Au [b,d] X.env=[(false,eval b X.env),(false,eval d X.env)]:=by rfl) :
  Hq X tg (.Call (.Name "range" p) [a,b,d] [] pos) (So ta):=PI.mono (u6 hg hm ha hs hs2) (by
 intro U H R;ext1⟨Z,τ,M,R2,st,hr,h,k⟩;refine ⟨Z,τ,M,_,st,hr,h,λZ1 vs ds H1 M1 l1 h1 a1 q1=>?_⟩;obtain ⟨x,y,z,rfl,q⟩:=RN q1;obtain ⟨i,rfl,q2⟩:=CU q;obtain ⟨j,rfl,rfl,b,q4⟩:=CU q2;obtain⟨v,w,u,e1',a2,a3,a4⟩:_:=gB a1;cases (show v=V.int i from a2);cases (show w=V.int j from a3);cases (show u=V.int (-1) from a4);exact ⟨i,j,rfl,b,k Z1 _ _ _ H1 M1 l1 h1 (xv _ _) q4⟩)
theorem o6 :So tA τ M R=tA τ M λxs M1=>Jd xs λx y z=>EQ x λi=>EQ y λj=>z=.int (-1)/\(-(2^61)<=i/\i<2^61/\-(2^61)<=j/\j<2^61)/\R (Me i (Pn i j)) (λ_=>True) M1:=rfl
end L3
namespace PySem
namespace SetTable
noncomputable def fQ (m i:Nat):Nat:=(i*5+1)%m
noncomputable def Lx (m:Nat):Nat->Nat->Nat
 |0,i=>i
 |k+1,i=>Lx m k (fQ m i)
theorem aK :∀a b i,Lx m (a+b) i=Lx m b (Lx m a i)
 |0,b,i=>by rw[Ey];rfl
 |a+1,b,i=>by rw[PL];exact aK a b (fQ m i)
def Mk (m:Nat):Prop:=m=8\/m=32\/m=128\/m=512
def Mw (m:Nat):Prop:=Mk m\/m=16
noncomputable def fJ (m:Nat):Nat->Nat->List Nat
 |0,_=>[]
 |k+1,i=>i::fJ m k (fQ m i)
theorem iU :∀{k i j:Nat},j∈fJ m k i->∃r,r<k/\Lx m r i=j
 |k+1,i,j,h=>by
  rcases Bc.mp h with rfl|h
  .exact⟨0,MS _,rfl⟩
  .obtain⟨r,h1,h2⟩:=iU h;exact⟨r+1,Hf h1,h2⟩
theorem nz (h:Mw m):((Bk m).all λj=>(fJ m m 0).contains j)=true/\Lx m m 0=0:=by
 rcases h with(rfl|rfl|rfl|rfl)|rfl<;>nofun
theorem my (h:Mw m)(hi:i<m)(hj:j<m):∃r,r<m/\Lx m r i=j:=by
 obtain⟨h1,h2⟩:=nz h;rw[Ck]at h1;obtain⟨a,a1,a2⟩:=iU (Nj.mp (h1 i (Ca.mpr hi)));obtain⟨b,b1,b2⟩:=iU (Nj.mp (h1 j (Ca.mpr hj)));rcases Nat.le_total a b with c|c
 .refine⟨b-a,by ext,?_⟩;rw[<- a2,<- aK,show a+(b-a)=b by ext,b2]
 .refine⟨(m-a+b)%m,PF _ (by ext),?_⟩;by_cases e:a=b
  .subst e;rw[show m-a+a=m by ext,Nat.mod_self,<- a2,b2];rfl
  .rw[Nat.mod_eq_of_lt (by ext),aK];have:Lx m (m-a) i=0:=by rw[<- a2,<- aK,show a+(m-a)=m by ext,h2]
   rw[this,b2]
noncomputable def FQ (mask:Nat):Nat->Nat×Nat->Nat×Nat
 |0,p=>p
 |k+1,p=>FQ mask k (leap mask p.1 p.2)
theorem tR {mask:Nat}:∀a b p,FQ mask (a+b) p=FQ mask b (FQ mask a p)
 |0,b,p=>by rw[Ey];rfl
 |a+1,b,p=>by rw[PL];exact tR a b _
theorem vA {mask:Nat}:∀k p,(FQ mask k p).2=p.2 / 32^k
 |0,p=>by rw[Nat.pow_zero,Zc];rfl
 |k+1,p=>by
  show(FQ mask k (leap mask p.1 p.2)).2=_;rw[vA k,Nat.pow_succ',<- Nat.div_div_eq_div_mul];rfl
theorem tS (hm:0<m):∀k i,(FQ (m-1) k (i,0))=(Lx m k i,0)
 |0,i=>rfl
 |k+1,i=>by
  show FQ (m-1) k ((i*5+1+0 / 32)%(m-1+1),0 / 32)=_;rw[show m-1+1=m by ext,Nat.zero_div,tS hm k];rfl
theorem sC {mask:Nat}:∀k p,p.1<=mask->(FQ mask k p).1<=mask
 |0,p,h=>h
 |k+1,p,h=>sC k _ (Nat.le_of_lt_succ (PF _ (MS _)))
theorem uy {m:Nat}(h:Mw m){i pert j:Nat}(hp:pert<2^64)(hi:i<m)(hj:j<m):∃k,k<m+13/\(FQ (m-1) k (i,pert)).1=j:=by
 have e:(FQ (m-1) 13 (i,pert)).2=0:=by
  rw[vA];exact Nat.div_eq_of_lt (Bm hp (by decide))
 have l:=sC (mask:=m-1) 13 (i,pert) (by show i<=_;ext);obtain⟨r,r1,r2⟩:=my h (i:=(FQ (m-1) 13 (i,pert)).1) (by ext) hj;refine⟨13+r,by ext,?_⟩;rw[tR,show FQ (m-1) 13 (i,pert)=((FQ (m-1) 13 (i,pert)).1,0)from Sj rfl e,tS (by ext),r2]
structure Mr (t:C6)(n:Nat):Prop where
 m:Mk (t.mask+1)
 p:t.place.size=n
 d:t.dummies=#[]
 r:n<=t.mask
theorem Mr.fits (h:Mr t n):t.fits n=true:=by
 unfold DL fill;rw[h.p,h.d];simpa using h.r
theorem Mr.nd (h:Mr t n)(j:Nat):t.slot j≠.dummy:=by
 unfold slot;dsimp only;split
 .exact λe=>nomatch e
 .rw[h.d,if_neg (by unfold has;simp)];exact λe=>nomatch e
theorem Mr.live (h:Mr t n)(e:t.slot j=.live i):i<n:=by
 unfold slot at e;dsimp only at e;split at e
 .next c=>
  cases e;have:=eq_of_beq c;rw[<- h.p];exact(Ee.mp this).1
 .split at e<;>cases e
theorem sJ:∀(a b:List Nat),a.Nodup->(∀x∈a,x∈b)->a.length<=b.length
 |[],b,_,_=>DO _
 |x::a,b,hn,hs=>by
  have hx:=hs x AG;obtain⟨n1,n2⟩:=EM.mp hn;have:=sJ a (b.erase x) n2 λy hy=>(N7 (λe=>n1 (by rw[<- e];exact hy))).mpr (hs y (AF _ hy));rw[LS hx]at this;have:=MA hx;rw[AK];ext
theorem Mr.room (h:Mr t n):∃j,j<=t.mask/\t.slot j=.empty:=by
 refine FJ λno=>?_
 have all:∀j∈Bk (t.mask+1),j∈t.place.toList:=λj hj=>by
  have hj:=Ca.mp hj;cases q:t.slot j with
  |empty=>exact absurd ⟨j,by ext,q⟩ no
  |dummy=>exact absurd q (h.nd j)
  |live i=>
   unfold slot at q;dsimp only at q;split at q
   .next c=>exact Fu.mpr (Array.mem_of_getElem? (eq_of_beq c))
   .split at q<;>cases q
 have:=sJ _ _ List.nodup_range all;rw[BX,Bt,h.p]at this;have:=h.r;ext
theorem sS :∀{l:List (Option α)}{j:Nat},l[j]? = some none->((l.set j (some k)).filterMap id).length=(l.filterMap id).length+1
 |x::l,0,h=>by
  cases h;rfl
 |x::l,j+1,h=>by
  rw[BR,C0,C0];have ih:=sS (k:=k) (l:=l) (j:=j) h;cases x with
  |none=>exact ih
  |some y=>exact congrArg (·+1) ih
theorem sR :∀{l:List (Option α)}{j:Nat},l[j]? = some none->((l.set j (some k)).filterMap id).Perm (k::l.filterMap id)
 |x::l,0,h=>by
  cases h;exact C1 _
 |x::l,j+1,h=>by
  rw[BR,C0,C0];have ih:=sR (k:=k) (l:=l) (j:=j) h;cases x with
  |none=>exact ih
  |some y=>exact(ih.cons y).trans (OJ k y _)
theorem tZ :∀{l:List (Option α)},(l.filterMap id).length<l.length->∃j:Nat,l[j]? = some none
 |[],h=>absurd h (Sk _)
 |none::l,_=>⟨0,rfl⟩
 |some x::l,h=>by
  obtain⟨j,hj⟩:=tZ (Dk h);exact⟨j+1,hj⟩
theorem tL {mask:Nat}(h0:(owner.getD j0 (some 0)).isNone=true):∀fuel r i pert,r<fuel->(FQ mask r (i,pert)).1=j0->∃j,layClean.free mask owner fuel i pert=some j/\(owner.getD j (some 0)).isNone=true
 |0,r,_,_,h,_=>absurd h (Sk _)
 |fuel+1,r,i,pert,h,e=>by
  unfold layClean.free;split
  .next k hk=>exact⟨i+k,rfl,by have:=List.find?_some hk;exact this⟩
  .next hn=>
   cases r with
   |zero=>exfalso;have:=e;subst this;have:=Gf.mp hn 0 (Ca.mpr (by unfold runEnd;split<;>ext));exact this h0
   |succ r=>exact tL h0 fuel r _ _ (Dk h) e
structure Sb (mask:Nat)(owner:Array (Option Nat))(k:Nat):Prop where
 s:owner.size=mask+1
 n:(owner.toList.filterMap id).length=k
 v:∀v,some v∈owner.toList->v<k
 p:(owner.toList.filterMap id).Perm (Bk k)
theorem getD_none {owner:Array (Option Nat)}(h:(owner.getD j (some 0)).isNone=true):owner.toList[j]? = some none:=by
 rw[C3];rw[FK]at h;cases q:owner[j]? with
 |none=>rw[q]at h;cases h
 |some x=>
  rw[q]at h;cases x with
  |none=>rfl
  |some y=>cases h
theorem sB {mask:Nat}(hm:Mw (mask+1)):∀(hs:List Int) (owner:Array (Option Nat)) (k:Nat),Sb mask owner k->k+hs.length<=mask->∃owner',(hs.foldl (λacc h=>acc >>= λx:Array (Option Nat)×Nat=>layClean.free mask x.1 (turns mask) (bits h%(mask+1)) (bits h) >>= λj=>pure (x.1.setIfInBounds j (some x.2),x.2+1)) (some (owner,k)))=some (owner',k+hs.length)/\Sb mask owner' (k+hs.length)
 |[],owner,k,ok,_=>⟨owner,rfl,ok⟩
 |h::hs,owner,k,ok,hl=>by
  rw[AK]at hl;obtain⟨j0,hj0⟩:=tZ (by rw[ok.n,Bt,ok.s];ext);have jl:=(Ai.mp hj0).1;rw[Bt,ok.s]at jl;have hb:bits h<2^64:=by unfold bits;ext
  obtain⟨r,r1,r2⟩:=uy hm hb (PF _ (MS _)) jl
  have g0:(owner.getD j0 (some 0)).isNone=true:=by
   rw[C3]at hj0;rw[FK,hj0];rfl
  obtain⟨j,e1,e2⟩:=tL (mask:=mask) g0 (turns mask) r _ _ (by unfold turns;ext) r2;have ej:=getD_none e2
  have ok':Sb mask (owner.setIfInBounds j (some k)) (k+1):=by
   refine⟨by rw[Array.size_setIfInBounds];exact ok.s,?_,λv hv=>?_,?_⟩
   .rw[F9,sS ej,ok.n]
   .rw[F9]at hv;rcases List.mem_or_eq_of_mem_set hv with hv|hv
    .exact Eh (ok.v v hv)
    .cases hv;exact GB _
   .rw[F9,Ru];exact(sR ej).trans ((ok.p.cons k).trans (List.perm_append_singleton _ _).symm)
  obtain⟨ow,f1,f2⟩:=sB hm hs _ (k+1) ok' (by ext);refine⟨ow,?_,by rw[AK,show k+(hs.length+1)=k+1+hs.length by ext];exact f2⟩;rw[DI,AK,show k+(hs.length+1)=k+1+hs.length by ext,<- f1];congr 1
  show(layClean.free mask owner (turns mask) (bits h%(mask+1)) (bits h) >>= λj=>pure (owner.setIfInBounds j (some k),k+1))=_;rw[e1];rfl
theorem laid_ok2 {mask finger moves:Nat}{led plain:Bool}(hm:Mw (mask+1))(hl:hs.size<=mask):∃(t:C6) (order:Array Nat),laid mask finger moves led plain hs=some (t,order)/\t.mask=mask/\t.place.size=hs.size/\t.dummies=#[]/\t.led=led/\t.plain=plain/\order.toList.Perm (Bk hs.size):=by
 have o0:Sb mask (Array.replicate (mask+1) none) 0:=by
  refine⟨Array.size_replicate,?_,λv hv=>?_,?_⟩
  .rw[Hi];simp
  .rw[Hi]at hv;cases(EH hv)
  .rw[Hi];simp
 obtain⟨ow,f1,f2⟩:=sB hm hs.toList _ 0 o0 (by rw[Ey,Bt];exact hl);rw[Ey,Bt]at f1 f2
 have lc:layClean mask hs=some ow:=by
  unfold layClean;rw[<- Array.foldl_toList];refine(congrArg (G7 Prod.fst) f1).trans rfl
 unfold laid;rw[lc]
 have e1:((Bk (mask+1)).filterMap λj=>(ow.getD j none).map λx=>(j,x)).map (·.2)=ow.toList.filterMap id:=by
  rw[Pg]
  have:ow.toList=(Bk (mask+1)).map λj=>ow.getD j none:=by
   apply Fn;intro j;rw[C3,AJ];rcases GZ j (mask+1)with h|h
   .rw[EC h,AW (by rw[f2.s];exact h)];show _=some (ow.getD j none);rw[FK,AW (by rw[f2.s];exact h)];rfl
   .rw[Bv (by rw[BX];exact h),DN (by rw[f2.s];exact h)];rfl
  rw[this,Jc];congr 1
  funext j;show G7 _ (G7 _ (ow.getD j none))=ow.getD j none;cases ow.getD j none<;>rfl
 have e2:((Bk (mask+1)).filterMap λj=>(ow.getD j none).map λx=>(j,x)).length=hs.size:=by
  have:=congrArg Ej e1;rw[Ab,f2.n]at this;exact this
 refine⟨_,_,rfl,rfl,?_,rfl,rfl,rfl,?_⟩
 .show((((Bk (mask+1)).filterMap λj=>(ow.getD j none).map λx=>(j,x)).map (·.1)).toArray).size=_;rw[AU,Ab,e2]
 .show(((Bk (mask+1)).filterMap λj=>(ow.getD j none).map λx=>(j,x)).map (·.2)).Perm _;rw[e1];exact f2.p
end SetTable
end PySem
namespace L2
open PySem PySem.Spec PyProof.Rows L3
theorem ZfL:KI US "set.__and__" = some D7.«frozenset.__and__»:=Jl (id':="frozenset.__and__") (by kernel_rfl) rfl (by nofun) (by kernel_rfl)
theorem ZfK:KI US "set.__xor__" = some D7.«frozenset.__xor__»:=Jl (id':="frozenset.__xor__") (by kernel_rfl) rfl (by nofun) (by kernel_rfl)
theorem uU (xs:Array α)(i:Nat)(h:i<xs.size):(Dt xs i).size=xs.size-1:=by
 unfold Dt;rw[LJ,Il,Il];ext
theorem uT (xs:Array α)(i:Nat):(Dt xs i).toList=xs.toList.eraseIdx i:=by
 unfold Dt;rw[Ob,Np,Np,List.eraseIdx_eq_take_drop_succ];simp;exact BW (by simp)
theorem yi (xs:Array α)(p:Nat)(x:α):(IG xs p x).size=xs.size+1:=by
 unfold IG;rw[LJ,Array.size_push,Il,Il];ext
section
variable {prog:Bp}{w:BK}{A:Cu}{E:Ah->Aq->Prop}{s:Aq}{a:Av}
theorem rX (ho:s.heap.get? a=some o)(hd:o.data=Ig es ep t)(hes:IC w es.toList)(hsz:es.size<Be)(hfit:t.fits es.size=true)
  (h:Q (es.toList.findIdx? λe=>(By prog w).is x e.2) s):Ar (Az prog w) A (PB a (.str x tk) (Fm w x)) Q E s:=by
 unfold PB;generalize hN:(99999:Nat)=N;rw[show(100000:Nat)=99999+1 from rfl,hN];unfold setFindIn;refine Aa (A3 ho hd hfit ?_);dsimp only;rw[if_pos (byScan_of (knd:=By prog w) (x:=.str x tk) rfl hsz hes.elems)];refine Aa (FD ?_);refine Aa (VU (knd:=By prog w) (k:=x) (by simp[By,DZ]) ho hd hfit hes.elems ?_);cases hr:es.toList.findIdx? λe=>(By prog w).is x e.2 with
 |none=>rw[hr]at h;exact Ad h
 |some j=>rw[hr]at h;refine Ad ?_;rw[Ey];exact h
theorem yy (hS:CO w s.heap a ks led)(h:∀r,r.isSome=decide (x∈ks)->Q r s):Ar (Az prog w) A (PB a (.str x tk) (Fm w x)) Q E s:=by
 obtain⟨o,es,ep,tb,ho,hex,hd,hes,hp,hsz,hfit,hled,hpl⟩:_:=hS;refine rX ho hd hes hsz hfit (h _ ?_);by_cases hx:x∈ks
 .obtain⟨j,hj⟩:=jM hes (hp.mem_iff.mpr hx);rw[hj,decide_eq_true hx];rfl
 .rw[jL hes (λh=>hx (hp.mem_iff.mp h)),decide_eq_false hx];rfl
theorem yx (hS:CO w s.heap a ks led)
  (hQ:∀h',Bx a s.heap h'->CO w h' a (ks.erase x) led->Q (decide (x∈ks)) {s with heap:=h' }):Ar (Az prog w) A (Lk a (.str x tk) (Fm w x)) Q E s:=by
 obtain⟨o,es,ep,tb,ho,hex,hd,hes,hp,hsz,hfit,hled,hpl⟩:_:=id hS;unfold Lk;refine Aa (rX ho hd hes hsz hfit ?_);by_cases hx:x∈ks
 .obtain⟨j,hj⟩:=jM hes (hp.mem_iff.mpr hx);rw[hj];dsimp only;refine Aa (A3 ho hd hfit ?_);dsimp only;obtain⟨hl,hm,-⟩:=List.findIdx?_eq_some_iff_getElem.mp hj;have hl':j<es.size:=by simpa using hl
  have hxj:strOf (es.toList[j]).2=x:=by
   obtain⟨y,t,e⟩:=hes _ (F5 hl);rw[e]at hm ⊢;have:y=x:=by simpa[By,DZ]using hm
   exact this
  have hpe:(x::GI (Dt es j).toList).Perm ks:=by
   have z:=((Kd es.toList j hl).map λe:Int×Ah=>strOf e.2).trans hp;rw[AT,hxj]at z;rw[uT];exact z
  have hok:IC w (Dt es j).toList:=λe he=>by
   rw[uT]at he;exact hes e (List.mem_of_mem_eraseIdx he)
  have hf:tb.place.size=es.size/\tb.fill<=tb.mask:=by
   unfold DL at hfit;simpa using hfit
  have hpj:tb.place[j]? = some (tb.place[j]'(by ext)):=AW _
  have hdr:tb.drop j={tb with place:=Dt tb.place j,dummies:=IG tb.dummies (C2 tb.dummies (tb.place[j]'(by ext))) (tb.place[j]'(by ext))}:=by
   unfold SetTable.drop;rw[hpj]
  have hsz2:=uU es j hl';obtain⟨o1,ho1,hex1,hd1⟩:=stored ho hex hd;have hline:Be<=Am:=by decide
  refine Aa (Dz ho hd ?_ (by ext));refine Aa (wpAny_point (Ad ?_));have z:=hQ _ (AZ _ _ _) ⟨o1,_,_,_,ho1,hex1,hd1,hok,(List.cons_perm_iff_perm_erase.mp hpe).2,by ext,?_,?_,λ_=>?_⟩
  .rw[decide_eq_true hx]at z;exact z
  .rw[hdr];unfold DL HW;dsimp only;rw[uU _ _ (by ext),yi,hsz2];have:=hf.2;unfold HW at this;simp only[Bo,beq_iff_eq,decide_eq_true_eq];ext
  .rw[hdr];exact hled
  .rw[hdr];exact hpl (by ext)
 .rw[jL hes (λh=>hx (hp.mem_iff.mp h))];refine Ad ?_;have z:=hQ s.heap (CI _ _) (by rw[Ni hx];exact hS);rw[decide_eq_false hx]at z;exact z
theorem CO.typeIs (hS:CO w s.heap a ks led):s.TypeIs (.ref a) "set":=by
 obtain⟨o,es,ep,t,ho,hex,-⟩:_:=hS;exact⟨o,ho,hex.1⟩
theorem CO.keep (hS:CO w h a ks led)(hk:∀o,h.get? a=some o->h'.get? a=some o):CO w h' a ks led:=by
 obtain⟨o,es,ep,t,ho,C8⟩:=hS;exact⟨o,es,ep,t,hk _ ho,C8⟩
theorem Qm {M:Model}{α:Type}{f:α->PUnit->Sem (ForInStep PUnit)}{I:List α->Aq->Prop}(D:List α)(hf:∀d x l s (Q':ForInStep PUnit->Aq->Prop),D=d++x::l->I d s->(∀s',I (d++[x]) s'->Q' (.yield ⟨⟩) s')->Ar M A (f x ⟨⟩) Q' E s) :
  ∀l d s Q,D=d++l->I d s->(∀s',I D s'->Q ⟨⟩ s')->Ar M A (forIn l F8 f) Q E s
 |[],d,s,Q,e,h,hQ=>by
  rw[O3];rw[CT]at e;subst e;exact Ad (hQ s h)
 |x::l,d,s,Q,e,h,hQ=>by
  rw[G0];refine Aa (hf d x l s _ e h λs' h'=>?_);exact Qm D hf l (d++[x]) s' Q (by rw[e,Bq];rfl) h' hQ
theorem TU {es:List (Int×Ah)}(hes:IC w es){Q:Option Bool×Unit->Aq->Prop}(h:Q (none,()) s){f:Int×Ah->Option Bool×Unit->Sem (ForInStep (Option Bool×Unit))}(hf:∀k x t r,f (k,.str x t) r=pure (.yield (none,()))):Ar (Az prog w) A (forIn es (none,()) f) Q E s:=by
 induction es with
 |nil=>rw[O3];exact Ad h
 |cons e es ih=>obtain⟨x,t,rfl⟩:=hes e (AG ..);rw[G0,hf];exact Aa (Ad (ih λe he=>hes e (AF _ he)))
theorem ZfS {Q:Bool->Aq->Prop}(sets)(hq:∀b∈sets,∃ks led,CO w s.heap b ks led)(h:Q true s):Ar (Az prog w) A (setsQuiet sets) Q E s:=by
 unfold setsQuiet;refine Aa ?_
 have key:∀sets:List Av,(∀b∈sets,∃ks led,CO w s.heap b ks led)->∀(Q:Option Bool×Unit->Aq->Prop) (f:Av->Option Bool×Unit->Sem (ForInStep (Option Bool×Unit))),(∀b r Q',(∃ks led,CO w s.heap b ks led)->Q' (.yield (none,())) s->Ar (Az prog w) A (f b r) Q' E s)->Q (none,()) s->Ar (Az prog w) A (forIn sets (none,()) f) Q E s:=by
  intro sets;induction sets with
  |nil=>intro _ Q f _ h;rw[O3];exact Ad h
  |cons b sets ih=>intro hq Q f hf h;rw[G0];exact Aa (hf b _ _ (hq b (AG ..)) (ih (λc hc=>hq c (AF _ hc)) Q f hf h))
 refine key sets hq _ _ (λb r Q' ⟨ks,led,hS⟩ h'=>?_) (Ad h);obtain⟨o,es,ep,t,ho,hex,hd,hes,hp,hsz,hfit,hled,hpl⟩:_:=hS;refine Aa (wpAny_setEntries_of ho hd hfit ?_);refine Aa ?_;rw[<- KH];exact TU hes (Ad h') λ_ _ _ _=>rfl
theorem kF (h:Q (w.params.followText "set-order") s):Ar (Az prog w) A Im Q E s:=by
 unfold Im;exact Aa (Dd (Ad h))
theorem vU (hS:CO w s.heap a ks (!(w.params.followText "set-order")))(hf:CO w s.heap f kf (!(w.params.followText "set-order")))
  (hq:∀b∈others,∃ks led,CO w s.heap b ks led)
  (hQ:∀(es:Array (Int×Ah)) (h':CH),IC w es.toList->(GI es.toList).Perm ks->Bx f s.heap h'->CO w h' f kf (!(w.params.followText "set-order"))->Q es {s with heap:=h' }) :
  Ar (Az prog w) A (Ox a others (some f)) Q E s:=by
 obtain⟨o,es,ep,t,ho,hex,hd,hes,hp,hsz,hfit,hled,hpl⟩:_:=id hS;unfold Ox;refine Aa (A3 ho hd hfit ?_);dsimp only;refine Aa (kF ?_);have plain_ok:=hQ es s.heap hes hp (CI _ _) hf;split
 .next c=>
  unfold setWalk;refine Aa (A3 ho hd hfit ?_);dsimp only;refine Aa (kF ?_);split
  .refine Aa (Dd (Ad ?_));have pp:=wT (w.params.setOrder a ep) es;exact hQ _ s.heap (λe he=>hes e (pp.mem_iff.mp he)) ((pp.map _).trans hp) (CI _ _) hf
  .next ft=>
   have ft:w.params.followText "set-order" = false:=by simpa using ft
   rw[ft]at c hled;have hl:=hled
   have h1:es.size<=1:=by
    rcases GZ 1 es.size with h|h
    .have hq:=hpl (by ext);rw[hq]at c;simp at c;exact c
    .exact h
   split
   .next hc=>
    have h':(!t.plain && decide (es.size > 1))=true:=hc;simp at h';ext
   .refine Aa ?_;show Ar _ A (if (!t.led && decide (es.size > 1))=true then unsupported "set:maker-not-led" else pure ()) _ E s;rw[if_neg (by rw[hl];simp)];exact Ad (Ad plain_ok)
 .refine Aa (ZfS (a::others) (λb hb=>?_) ?_)
  .rcases Bc.mp hb with rfl|hb
   .exact⟨_,_,hS⟩
   .exact hq b hb
  .rw[if_neg (by simp)];refine Aa (FD ?_);obtain⟨o2,es2,ep2,t2,ho2,hex2,hd2,hes2,hp2,hsz2,hfit2,hled2,hpl2⟩:_:=id hf;refine Aa (A3 ho2 hd2 hfit2 ?_);dsimp only;split
   .have hline:Be<=Am:=by decide
    obtain⟨o1,ho1,hex1,hd1⟩:=stored ho2 hex2 hd2;refine Aa (Dz ho2 hd2 (Ad (hQ es _ hes hp (AZ _ _ _) ⟨o1,_,_,_,ho1,hex1,hd1,hes2,hp2,hsz2,?_,?_,λh=>?_⟩)) (by ext))
    .exact hfit2
    .show(t2.led && t.led)=_;rw[hled2,hled,IS]
    .show(t2.plain && t.plain)=false;rw[hpl2 h,Gh]
   .exact Ad plain_ok
theorem Uy (hT:s.TypeIs (.ref b) "set")(h:Q true s):Ar (Az prog w) A (HZ (.ref b)) Q E s:=by
 unfold HZ orM;exact Aa (HP hT Kx (Ad h))
theorem wL (hT:s.TypeIs (.ref b) "set")(h:Q (.type "set") s):Ar (Az prog w) A (Is b) Q E s:=by
 unfold Is;exact Aa (HP hT Kx (Ad h))
noncomputable def Ff (w:BK):Obj:={cls:=.type "set",dict:=none,data:=.set #[] 0 (.fresh 0 0 (!(w.params.followText "set-order")))}
theorem wF (h:Q (.ref s.heap.objs.size) {s with heap:=s.heap.push (Ff w)}):Ar (Az prog w) A (newSet (.type "set")) Q E s:=by
 unfold newSet;refine Aa (kF ?_);dsimp only;simp only[newObj];exact Aa (wpAny_alloc (Ad h))
theorem ZZ:∀(l ks:List Str),ks.Nodup->(l.foldl (λks x=>if x∈ks then ks else ks++[x]) ks).Nodup/\∀x,x∈l.foldl (λks x=>if x∈ks then ks else ks++[x]) ks↔x∈ks\/x∈l
 |[],ks,h=>⟨h,λx=>⟨.inl,λz=>z.elim id λz=>absurd z (AR)⟩⟩
 |y::l,ks,h=>by
  rw[DI];split
  .next c=>
   obtain⟨i1,i2⟩:=ZZ l ks h;refine⟨i1,λx=>(i2 x).trans ?_⟩;rw[BA];exact⟨λz=>z.elim .inl λz=>.inr (.inr z),λz=>z.elim .inl λz=>z.elim (λe=>.inl (e ▸ c)) .inr⟩
  .next c=>
   obtain⟨i1,i2⟩:=ZZ l (ks++[y]) (B7.mpr ⟨h,by simp,λa ha b hb=>by rw[AO.mp hb];exact λe=>c (e ▸ ha)⟩);refine⟨i1,λx=>(i2 x).trans ?_⟩;rw[Dj,EX,BA,or_assoc]
theorem Ul (l:List Str)(x:Str):x∈fm l↔x∈l:=by
 have:=(ZZ l [] HU).2 x;unfold fm;rw[this];exact⟨λz=>z.elim (λz=>absurd z AR) id,.inr⟩
theorem XX (l:List Str):(fm l).Nodup:=(ZZ l [] HU).1
theorem wK {id:String}(ho:s.heap.get? a=some o)(hd:o.data=.set es ep t)(hf:t.fits es.size=true)(h:Q () s):Ar (Az prog w) A (BN id a ep) Q E s:=by
 unfold BN;refine Aa (VP ho hd hf ?_);rw[if_neg (by simp)];exact Ad h
theorem vk {id:String}(har:a≠r)(hgr:g≠r)(ho:s.heap.get? a=some o)(hd:o.data=.set es0 ep t)(hfit:t.fits es0.size=true)(hes:IC w es)(hl:es.length+1<Be)(hg:CO w s.heap g kg (!(w.params.followText "set-order")))(hr:CO w s.heap r [] (!(w.params.followText "set-order")))
  (hQ:∀h',Bx r s.heap h'->CO w h' r (fm ((GI es).filter (·∈kg))) (!(w.params.followText "set-order"))->Q ⟨⟩ {s with heap:=h' }) :
  Ar (Az prog w) A (forIn es F8 λx __s=>match x with
   |(h,x)=>do
    GD [x] do
     let __do_lift <- PB g x h
     if __do_lift.isSome=true then do
      let _ <- Io r x h
      pure ()
     else pure ()
    BN id a ep
    pure (C9 F8)) Q E s:=by
 refine Qm (I:=λd s'=>∃h',Bx r s.heap h'/\CO w h' r (fm ((GI d).filter (·∈kg))) (!(w.params.followText "set-order"))/\s'={s with heap:=h' }) es ?_ es [] s Q rfl ⟨s.heap,CI _ _,hr,rfl⟩ ?_
 .rintro d ⟨k,v⟩ l s1 Q' hx ⟨h1,sb,hS,rfl⟩ hQ';obtain⟨x,tk,e⟩:=hes _ (by rw[hx];exact AS _ (AG ..));cases e;have hdl:d.length<es.length:=by rw[hx,As,AK];ext
  have ek:GI (d++[(Fm w x,DD x tk)])=GI d++[x]:=by unfold GI;rw[AM];rfl
  have ua:∀{h2:CH} {Q'':Unit->Aq->Prop},Bx r s.heap h2->Q'' () {s with heap:=h2}->Ar (Az prog w) A (BN id a ep) Q'' E {s with heap:=h2}:=λ{h2} _ sb2 q=>wK ((sb2.2 a har).trans ho) hd hfit q;refine Aa (BQ (Aa (yy (hg.keep λo e=>(sb.2 g hgr).trans e) λb hb=>?_)));split
  .next c=>
   have hxg:=of_decide_eq_true (hb.symm.trans c);refine Aa (jR hS ?_ λ_ h2 sb2 hS2=>Ad ?_)
   .have z1:=Um ((GI d).filter (·∈kg));have z2:=CP (λx=>decide (x∈kg)) (GI d);have z3:(GI d).length=d.length:=by unfold GI;rw[Ab]
    ext
   .refine Aa (ua (sb.trans sb2) (Ad (hQ' _ ⟨h2,sb.trans sb2,?_,rfl⟩)));rw[ek,EY,List.filter_cons_of_pos (by simpa using hxg),MX,pU];exact hS2
  .next c=>
   have hxg:¬x∈kg:=λh=>c (hb.trans (decide_eq_true h));refine Ad (Aa (ua sb (Ad (hQ' _ ⟨h1,sb,?_,rfl⟩))));rw[ek,EY,List.filter_cons_of_neg (by simpa using hxg),MX,CT];exact hS
 .rintro s1 ⟨h1,sb,hS,rfl⟩;exact hQ h1 sb hS
theorem rb {b:Av}{ks ls:List Str}{Q:Ah->Aq->Prop}(hab:b≠a)(ha:CO w s.heap a ks (!(w.params.followText "set-order")))(hb:CO w s.heap b ls (!(w.params.followText "set-order")))(hz:ks.length+1<Be)(hy:ls.length+1<Be)
  (hQ:∀h' ms,(∀c o,s.heap.get? c=some o->h'.get? c=some o)->CO w h' s.heap.objs.size ms (!(w.params.followText "set-order"))->ms.Nodup->(∀x,x∈ms↔x∈ks/\x∈ls)->ms.length<=ks.length+ls.length->Q (.ref s.heap.objs.size) {s with heap:=h' }) :
  Ar (Az prog w) A (Bu .BitAnd (.ref a) (.ref b)) Q E s:=by
 refine Se ha.typeIs hb.typeIs F.fills_set_and F.slot_set_and (BL F.slot_set_and ha.typeIs ZfL ?_ (F.args_set_and_2 _ _));refine Aa (BY rfl ?_);dsimp only;rw[if_neg (by decide)];dsimp only;unfold andM;refine Aa (Aa (Uy ha.typeIs ?_));refine Uy hb.typeIs ?_;rw[if_neg (by decide)];refine Aa (BY rfl ?_);refine Aa ?_;unfold RA;rw[if_neg (by simpa using hab)];refine Aa (wL ha.typeIs (Aa (wF ?_)));refine Aa (BY rfl ?_);have hk0:∀c o,s.heap.get? c=some o->(s.heap.push (Ff w)).get? c=some o:=λc o e=>Ag _ e;have ha1:=ha.keep λo e=>hk0 a o e;have hb1:=hb.keep λo e=>hk0 b o e;have hr1:CO w (s.heap.push (Ff w)) s.heap.objs.size [] (!(w.params.followText "set-order")):=jT (Ax _ rfl) rfl;have lta:a<s.heap.objs.size:=by obtain⟨o,es,ep,t,ho,-⟩:=ha;exact Ap ho
 have ltb:b<s.heap.objs.size:=by obtain⟨o,es,ep,t,ho,-⟩:=hb;exact Ap ho
 refine Aa (BQ ?_);refine Aa (Uy hb1.typeIs ?_);rw[if_pos rfl];refine Aa (BY rfl ?_)
 have go:∀{c d:Av} {kc kd:List Str},c<s.heap.objs.size->d<s.heap.objs.size->kc.length+1<Be->CO w (s.heap.push (Ff w)) c kc (!(w.params.followText "set-order"))->CO w (s.heap.push (Ff w)) d kd (!(w.params.followText "set-order"))->(∀x,x∈kc/\x∈kd↔x∈ks/\x∈ls)->kc.length<=ks.length+ls.length->∀Q2:Unit->Aq->Prop,(∀h' ms,(∀c o,s.heap.get? c=some o->h'.get? c=some o)->CO w h' s.heap.objs.size ms (!(w.params.followText "set-order"))->ms.Nodup->(∀x,x∈ms↔x∈ks/\x∈ls)->ms.length<=ks.length+ls.length->Q2 () {s with heap:=h' }) ->
   Ar (Az prog w) A.in1 (do
    let was <- bR c
    let __do_lift <- Ox c [d,s.heap.objs.size] (some s.heap.objs.size)
    forIn __do_lift F8 λx __s=>match x with
     |(h,x)=>do
      GD [x] do
       let __do_lift <- PB d x h
       if __do_lift.isSome=true then do
        let _ <- Io s.heap.objs.size x h
        pure ()
       else pure ()
      BN (toString "frozenset."++toString "__and__") c was
      pure (C9 F8)
    pure ()) Q2 E { s with heap:=s.heap.push (Ff w) }:=by
  intro c d kc kd ltc ltd hcl hc hd hm hle Q2 q2;obtain⟨o,es,ep,t,ho,hex,hdd,hes,hp,hsz,hfit,hled,hpl⟩:_:=id hc;refine Aa (VP ho hdd hfit ?_);refine Aa (vU hc hr1 (λb hb=>?_) λes' h' hes' hp' sb hr2=>?_)
  .simp only[BA,AR,or_false]at hb;rcases hb with rfl|rfl
   .exact⟨_,_,hd⟩
   .exact⟨_,_,hr1⟩
  .have sb:=sb;rw[<- KH]
   have hel:es'.toList.length=kc.length:=by
    have:=hp'.length_eq;unfold GI at this;rwa[Ab]at this
   refine Aa (vk (A5 ltc) (A5 ltd) ((sb.2 c (A5 ltc)).trans ho) hdd hfit hes' (by ext) (hd.keep λo e=>(sb.2 d (A5 ltd)).trans e) hr2 λh2 sb2 hS2=>Ad ?_);refine q2 h2 _ (λe o he=>?_) hS2 (XX _) (λx=>?_) ?_
   .have ne:=A5 (Ap he);exact(sb2.2 e ne).trans ((sb.2 e ne).trans (hk0 e o he))
   .rw[Ul,FF,hp'.mem_iff];simp only[decide_eq_true_eq];exact hm x
   .have z1:=Um ((GI es'.toList).filter (·∈kd));have z2:=CP (λx=>decide (x∈kd)) (GI es'.toList);have z3:=hp'.length_eq;ext
 obtain⟨o1,es1,ep1,t1,ho1,hex1,hd1,hes1,hp1,hsz1,hfit1,-⟩:_:=id ha1;obtain⟨o2,es2,ep2,t2,ho2,hex2,hd2,hes2,hp2,hsz2,hfit2,-⟩:_:=id hb1;refine Aa (kN ho2 hd2 hfit2 ?_);refine Aa (kN ho1 hd1 hfit1 ?_);by_cases c:es2.size > es1.size
 .rw[if_pos c];refine go lta ltb hz ha1 hb1 (λx=>Iff.rfl) (by ext) _ λh' ms k1 k2 k3 k4 k5=>?_;exact Ad (Ad ⟨_,rfl,λe=>(by cases e),hQ h' ms k1 k2 k3 k4 k5⟩)
 .rw[if_neg c];refine go ltb lta hy hb1 ha1 (λx=>and_comm) (by ext) _ λh' ms k1 k2 k3 k4 k5=>?_;exact Ad (Ad ⟨_,rfl,λe=>(by cases e),hQ h' ms k1 k2 k3 k4 k5⟩)
theorem tX {F:Option (C6×Array Nat)->Sem (Array (Int×Ah)×C6)}{es:Array (Int×Ah)}{mask finger moves:Nat}{led plain:Bool}{Q:Array (Int×Ah)×C6->Aq->Prop}(hF:∀t order,(order.filterMap (es[·]?)).size=es.size->F (some (t,order))=pure (order.filterMap (es[·]?),t))(hm:C6.Mw (mask+1))(hl:es.size<=mask)
  (h:∀(es':Array (Int×Ah)) (t:C6),es'.toList.Perm es.toList->es'.size=es.size->t.mask=mask->t.place.size=es.size->t.dummies=#[]->t.led=led->t.plain=plain->Q (es',t) s) :
  Ar (Az prog w) A (F (Kk mask finger moves led plain (es.map (·.1)))) Q E s:=by
 obtain⟨t,order,h1,h2,h3,h4,h5,h6,h7⟩:=C6.laid_ok2 (hs:=es.map (·.1)) hm (by rw[RC];exact hl);rw[RC]at h3 h7
 have pp:(order.filterMap (es[·]?)).toList.Perm es.toList:=by
  rw[Array.toList_filterMap];have z:=h7.filterMap (λj=>es.toList[j]?);rw[show es.size=es.toList.length by simp,tW]at z;refine(of_eq ?_).trans z;congr 1
  funext j;rw[C3]
 have sz:(order.filterMap (es[·]?)).size=es.size:=by
  have:=pp.length_eq;rwa[Bt,Bt]at this
 rw[h1,hF t order sz];exact Ad (h _ t pp sz h2 h3 h4 h5 h6)
theorem qz {n:Nat}(h1:21<=n*5)(h2:n<=12):C6.Mw (Ew (n*2)-1+1)/\n<=Ew (n*2)-1/\Ew (n*2)<=32:=by
 have:n=5\/n=6\/n=7\/n=8\/n=9\/n=10\/n=11\/n=12:=by ext
 rcases this with rfl|rfl|rfl|rfl|rfl|rfl|rfl|rfl<;>exact⟨by first|exact .inr (by decide)|exact .inl (.inr (.inl (by decide))),by decide,by decide⟩
theorem yb {r:Av}{ls:List Str}{Qm:Sem Unit}{Q:Unit->Aq->Prop}(hne:r≠a)(hb:CO w s.heap a ls (!(w.params.followText "set-order")))(hr:s.heap.get? r=some (Ff w))(h12:ls.length<=12)
    (hQ:∀h',Bx r s.heap h'->CO w h' r ls (!(w.params.followText "set-order"))->Q () {s with heap:=h' }):Ar (Az prog w) A (setMerge r a Qm) Q E s:=by
  obtain⟨o,es,ep,t,ho,hex,hd,hes,hp,hsz,hfit,hled,hpl⟩:_:=id hb
  have hlen:es.size=ls.length:=by
    have:=hp.length_eq;unfold GI at this;rw[Ab]at this;simpa using this
  have hf:t.place.size=es.size/\t.fill<=t.mask:=by
    unfold DL at hfit;simpa using hfit
  unfold setMerge;rw[if_neg (by simpa using hne)];refine Aa (A3 ho hd hfit ?_);dsimp only;split
  · next c=>
    have e0:es=#[]:=by simpa using c
    have l0:=AD (by rw[<- hlen,e0];rfl);refine Ad (hQ s.heap (CI _ _) ?_);rw[l0];exact jT hr rfl
  · next c=>
    have ne0:es.size≠0:=λz=>c (by simpa using z);have pl:=hpl ne0;have hline:Be<=Am:=by decide
    refine Aa (BG (Q:=λ_ s'=>∃(h1:CH) (o1:Obj) (ep1:Nat) (ts:C6),s'={s with heap:=h1}/\Bx r s.heap h1/\h1.get? r=some o1/\o1.ExactSet/\o1.data=Ig #[] ep1 ts/\ts.place.size=0/\ts.dummies=#[]/\ts.led=(!(w.params.followText "set-order"))/\C6.Mw (ts.mask+1)/\es.size<=ts.mask) ?_ ?_ λ_ _ h=>h)
    · unfold setRoomFor
      refine Aa (A3 hr rfl rfl ?_);dsimp only;by_cases c5:21<=es.size*5
      · rw [show (O9 0 0 (!(w.params.followText "set-order"))).roomFor es.size=some (es.size*2) from by
          unfold NU;rw [if_pos (by show (0+es.size)*5 >= 7*3;ext)];show some ((0+es.size)*2)=_;rw [Ey]]
        dsimp only;obtain⟨g1,g2,g3⟩:=qz c5 (by ext);unfold setRelay;refine Aa (A3 hr rfl rfl ?_);dsimp only
        rw [if_neg (by have:(32:Nat)<=Am:=by decide
                       ext)]
        refine Aa (tX (es:=#[]) (λt order h=>?_) g1 (DO _) λes' t' pp sz m1 m2 m3 m4 m5=>?_)
        · show(if _ then _ else _)=_
          rw[h,if_neg (by simp)]
        · dsimp only
          have ee:=JM sz;subst ee;obtain⟨o2,ho2,hex2,hd2⟩:=stored (es1:=#[]) (t2:=t') hr ⟨rfl,rfl,rfl⟩ rfl;exact Dz hr rfl ⟨_,o2,_,t',rfl,AZ _ _ _,ho2,hex2,hd2,m2,m3,m4,by rw[m1];exact g1,by rw[m1];exact g2⟩ (DO _)
      · rw [show (O9 0 0 (!(w.params.followText "set-order"))).roomFor es.size=none from by
          unfold NU;rw [if_neg (by show ¬ (0+es.size)*5 >= 7*3;ext)]]
        exact Ad ⟨s.heap,_,0,_,rfl,CI _ _,hr,⟨rfl,rfl,rfl⟩,rfl,rfl,rfl,rfl,.inl (.inl rfl),by show es.size<=7;ext⟩
    · rintro - - ⟨h1,o1,ep1,ts,rfl,sb,ho1,hex1,hd1,hp0,hd0,hl1,hmw,hml⟩
      have fill0:ts.fill=0:=by unfold HW;rw[hp0,hd0];rfl
      refine Aa (A3 (s:={s with heap:=h1}) ho1 hd1 (by unfold DL;rw[fill0,hp0];simp) ?_);dsimp only
      have hroad:ts.road t=.slotForSlot\/ts.road t=.clean:=by
        unfold SetTable.road;rw[fill0];split
        · next z=>simp at z
        · split
          · exact .inl rfl
          · exact .inr rfl
      rcases hroad with e|e
      · rw[e]
        dsimp only;obtain⟨o2,ho2,hex2,hd2⟩:=stored (es1:=es) (t2:={t with finger:=ts.finger,led:=ts.led && t.led,moves:=ts.moves,plain:=ts.plain && t.plain}) ho1 hex1 hd1;refine Dz (s:={s with heap:=h1}) ho1 hd1 (hQ _ (sb.trans (AZ _ _ _)) ⟨o2,_,_,_,ho2,hex2,hd2,hes,hp,hsz,hfit,?_,λ_=>?_⟩) (by ext)
        · show(ts.led && t.led)=_
          rw[hl1,hled,IS]
        · show(ts.plain && t.plain)=false
          rw[pl,E3]
      · rw[e]
        dsimp only;refine Aa (tX (s:={s with heap:=h1}) (λt order h=>?_) hmw hml λes' t' pp sz m1 m2 m3 m4 m5=>?_)
        · show(if _ then _ else _)=_
          rw[h,if_neg (by simp)]
        · dsimp only
          obtain⟨o2,ho2,hex2,hd2⟩:=stored (es1:=es') (t2:=t') ho1 hex1 hd1;refine Dz (s:={s with heap:=h1}) ho1 hd1 (hQ _ (sb.trans (AZ _ _ _)) ⟨o2,_,_,_,ho2,hex2,hd2,λe he=>hes e (pp.mem_iff.mp he),(pp.map _).trans hp,by ext,?_,?_,λ_=>?_⟩) (by ext)
          · unfold DL HW
            rw[m2,m3,sz,m1];simp;exact hml
          · rw[m4,hl1,hled,IS]
          · rw[m5,pl,E3]
theorem t7 {id:String}(har:a≠r)(ho:s.heap.get? a=some o)(hd:o.data=.set es0 ep t)(hfit:t.fits es0.size=true)(hes:IC w es)(hnd:(GI es).Nodup)(hkg:kg.Nodup)(hl:kg.length+es.length+1<Be)(hr:CO w s.heap r kg (!(w.params.followText "set-order")))
  (hQ:∀h' ms,Bx r s.heap h'->CO w h' r ms (!(w.params.followText "set-order"))->ms.Nodup->(∀x,x∈ms↔(x∈kg/\x∉GI es)\/(x∈GI es/\x∉kg))->ms.length<=kg.length+es.length->Q ⟨⟩ {s with heap:=h' }) :
  Ar (Az prog w) A (forIn es F8 λx __s=>match x with
   |(h,x)=>do
    GD [x] do
     let __do_lift <- Lk r x h
     if (!__do_lift)=true then do
      let _ <- Io r x h
      pure ()
     else pure ()
    BN id a ep
    pure (C9 F8)) Q E s:=by
 refine Qm (I:=λd s'=>∃h' ms,Bx r s.heap h'/\CO w h' r ms (!(w.params.followText "set-order"))/\ms.Nodup/\(∀x,x∈ms↔(x∈kg/\x∉GI d)\/(x∈GI d/\x∉kg))/\ms.length<=kg.length+d.length/\s'={s with heap:=h' }) es ?_ es [] s Q rfl ⟨s.heap,kg,CI _ _,hr,hkg,λx=>by simp[GI],AH _,rfl⟩ ?_
 .rintro d ⟨k,v⟩ l s1 Q' hx ⟨h1,ms,sb,hS,nd,hm,hml,rfl⟩ hQ';obtain⟨x,tk,e⟩:=hes _ (by rw[hx];exact AS _ (AG ..));cases e;have hdl:d.length<es.length:=by rw[hx,As,AK];ext
  have ek:GI (d++[(Fm w x,DD x tk)])=GI d++[x]:=by unfold GI;rw[AM];rfl
  have hxd:x∉GI d:=by
   rw[hx]at hnd;unfold GI at hnd;rw[AM,AT]at hnd;exact λz=>(B7.mp hnd).2.2 x z x (AG ..) rfl
  have ua:∀{h2:CH} {Q'':Unit->Aq->Prop},Bx r s.heap h2->Q'' () {s with heap:=h2}->Ar (Az prog w) A (BN id a ep) Q'' E {s with heap:=h2}:=λ{h2} _ sb2 q=>wK (s:={s with heap:=h2}) ((sb2.2 a har).trans ho) hd hfit q;refine Aa (BQ (Aa (yx (s:={s with heap:=h1}) hS λh2 sb2 hS2=>?_)));by_cases hxm:x∈ms
  .rw[decide_eq_true hxm,if_neg (by decide)];refine Ad (Aa (ua (sb.trans sb2) (Ad (hQ' _ ⟨h2,_,sb.trans sb2,hS2,nd.erase x,λy=>?_,?_,rfl⟩))))
   .rw[nd.mem_erase_iff,hm,ek,Dj,EX];have hk:=((hm x).mp hxm).elim (λz=>z.1) λz=>absurd z.1 hxd;by_cases e:y=x
    .subst e;simp[hk,hxd]
    .simp[e]
   .have:=List.length_erase_le (a:=x) (l:=ms);rw[As];ext
  .rw[decide_eq_false hxm,if_pos (by decide)];rw[Ni hxm]at hS2;have hk:x∉kg:=λz=>hxm ((hm x).mpr (.inl ⟨z,hxd⟩));refine Aa (jR (s:={s with heap:=h2}) hS2 (by ext) λ_ h3 sb3 hS3=>Ad ?_);rw[if_neg hxm]at hS3;refine Aa (ua ((sb.trans sb2).trans sb3) (Ad (hQ' _ ⟨h3,_,(sb.trans sb2).trans sb3,hS3,?_,λy=>?_,?_,rfl⟩)))
   .exact B7.mpr ⟨nd,by simp,λa ha b hb=>by rw[AO.mp hb];exact λe=>hxm (e ▸ ha)⟩
   .rw[Dj,EX,hm,ek,Dj,EX];by_cases e:y=x
    .subst e;simp[hk,hxd]
    .simp[e]
   .rw[As,As];simp only[Dg];ext
 .intro s1;ext1⟨h1,ms,sb,hS,nd,hm,hml,e1'⟩;exact hQ h1 ms sb hS nd hm hml
theorem uj {b:Av}{ks ls:List Str}{Q:Ah->Aq->Prop}(hkn:ks.Nodup)(hln:ls.Nodup)(ha:CO w s.heap a ks (!(w.params.followText "set-order")))(hb:CO w s.heap b ls (!(w.params.followText "set-order")))(h12:ls.length<=12)(hz:ls.length+ks.length+1<Be)
  (hQ:∀h' ms,(∀c o,s.heap.get? c=some o->h'.get? c=some o)->CO w h' s.heap.objs.size ms (!(w.params.followText "set-order"))->ms.Nodup->(∀x,x∈ms↔(x∈ls/\x∉ks)\/(x∈ks/\x∉ls))->ms.length<=ls.length+ks.length->Q (.ref s.heap.objs.size) {s with heap:=h' }) :
  Ar (Az prog w) A (Bu .BitXor (.ref a) (.ref b)) Q E s:=by
 refine Se ha.typeIs hb.typeIs F.fills_set_xor F.slot_set_xor (BL F.slot_set_xor ha.typeIs ZfK ?_ (F.args_set_xor_2 _ _));refine Aa (BY rfl ?_);dsimp only;rw[if_neg (by decide)];dsimp only;unfold andM;refine Aa (Aa (Uy ha.typeIs ?_));refine Uy hb.typeIs ?_;rw[if_neg (by decide)];refine Aa (BY rfl ?_);refine Aa ?_;refine Aa (wL ha.typeIs ?_);refine Aa ?_;unfold Rx;refine Aa (wF ?_);have hk0:∀c o,s.heap.get? c=some o->(s.heap.push (Ff w)).get? c=some o:=λc o e=>Ag _ e;have lta:a<s.heap.objs.size:=by obtain⟨o,es,ep,t,ho,-⟩:=ha;exact Ap ho
 have ltb:b<s.heap.objs.size:=by obtain⟨o,es,ep,t,ho,-⟩:=hb;exact Ap ho
 have hb1:=hb.keep λo e=>hk0 b o e;refine Aa (BY rfl ?_);refine Aa (BQ ?_);unfold Hz;refine Aa (Uy hb1.typeIs ?_);rw[if_pos rfl];refine Aa (BY rfl ?_);unfold Rz;obtain⟨o2,es2,ep2,t2,ho2,hex2,hd2,hes2,hp2,hsz2,hfit2,-⟩:_:=id hb1;refine Aa (VP ho2 hd2 hfit2 ?_);refine yb (EW ltb) hb1 (Ax _ rfl) h12 λh1 sb1 hr1=>?_;have sb1:=sb1;refine Ad ?_;have hk1:∀c o,s.heap.get? c=some o->h1.get? c=some o:=λc o e=>(sb1.2 c (A5 (Ap e))).trans (hk0 c o e);have ha1:=ha.keep λo e=>hk1 a o e;refine Aa (BY rfl ?_);refine Aa (BQ ?_);unfold Rw;rw[if_neg (by simpa using A5 lta)];dsimp only;refine Aa (Fi ha1.typeIs ?_);rw[if_neg (by decide)];refine Aa (Uy ha1.typeIs ?_);rw[if_pos rfl];refine Aa (Ad ?_);refine Aa (BY rfl ?_);refine An λG' kk'=>?_;obtain⟨o,es,ep,t,ho,hex,hd,hes,hp,hsz,hfit,-⟩:=id ha1;refine kk' ?_;clear kk';refine Aa (VP ho hd hfit ?_);refine BQ ?_;refine Aa (vU ha1 hr1 (λb hb=>?_) λes' h2 hes' hp' sb2 hr2=>?_)
 .rw[AO.mp hb];exact⟨_,_,hr1⟩
 .have sb2:=sb2;rw[<- KH]
  have hel:es'.toList.length=ks.length:=by
   have:=hp'.length_eq;unfold GI at this;rwa[Ab]at this
  refine Aa (t7 (A5 lta) ((sb2.2 a (A5 lta)).trans ho) hd hfit hes' (hp'.nodup_iff.mpr hkn) hln (by ext) hr2 λh3 ms sb3 hS3 nd hm hml=>Ad (Ad (Ad ⟨_,rfl,λe=>(by cases e),hQ h3 ms (λe o he=>?_) hS3 nd (λx=>?_) (by ext)⟩)))
  .have ne:=A5 (Ap he);exact(sb3.2 e ne).trans ((sb2.2 e ne).trans (hk1 e o he))
  .rw[hm,hp'.mem_iff]
end
theorem pG (h1:zs.Perm ms)(h2:Kz zs=true)(h3:ms.Nodup)(h4:∀x,x∈ms↔x∈l):zs=Iv l:=
 rR (h1.trans ((K9 h3 (XX l)).mpr λx=>(h4 x).trans (Ul l x).symm)) h2
noncomputable def KU (xs ys:List Str):List Str:=Iv (xs.filter (·∈ys))
noncomputable def La (xs ys:List Str):List Str:=Iv (ys.filter (·∉xs)++xs.filter (·∉ys))
noncomputable def RJ (op:Ng)(xs ys:List Str):List Str:=if op=.BitAnd then KU xs ys else La xs ys
section
theorem xN (hop:op=.BitAnd\/op=.BitXor)(hab:b≠a)(ha:CO w s.heap a (fm xs) (!(w.params.followText "set-order")))(hb:CO w s.heap b (fm ys) (!(w.params.followText "set-order")))(hz:(fm xs).length<=12)(hy:(fm ys).length<=12)
  (hQ:∀h' ms,(∀c o,s.heap.get? c=some o->h'.get? c=some o)->CO w h' s.heap.objs.size ms (!(w.params.followText "set-order"))->(∀zs,zs.Perm ms->Kz zs=true->zs=RJ op xs ys)->ms.length<64->Q (.ref s.heap.objs.size) {s with heap:=h' }) :
  Ar (Az prog w) A (Bu op (.ref a) (.ref b)) Q E s:=by
 have sb:(30:Nat)<Be:=by decide
 rcases hop with rfl|rfl
 .refine rb hab ha hb (by ext) (by ext) λh' ms hk hS nd hm hl=>hQ h' ms hk hS (λzs h1 h2=>?_) (by ext);unfold RJ KU;rw[if_pos rfl];exact pG h1 h2 nd λx=>by rw[hm,Ul,Ul,FF,decide_eq_true_eq]
 .refine uj (XX _) (XX _) ha hb hy (by ext) λh' ms hk hS nd hm hl=>hQ h' ms hk hS (λzs h1 h2=>?_) (by ext);unfold RJ La;rw[if_neg (by decide)];exact pG h1 h2 nd λx=>by rw[hm,Ul,Ul,Dj,FF,FF,decide_eq_true_eq,decide_eq_true_eq]
def mJ (K:Ac)(op:Ng)(tb:VK->Hp->Prop)(Q:VK)(x:V)(H1:Hp):Prop:=
 ∃p xs,x=.ref p/\F0 K H1 p (xs.map V.str)/\xs.length+1<Be/\(fm xs).length<=12/\tb (λy H2=>∃q ys,y=.ref q/\F0 K H2 q (ys.map V.str)/\ys.length+1<Be/\(fm ys).length<=12/\∀l,H2 l=none->Q (.ref l) (Cv H2 l (.lst ((RJ op xs ys).map V.str)))) H1
def xH (K:Ac)(op:Ng)(ta tb:TE):TE:=λU H Q=>ta U H (mJ K op (λQ1 H1=>tb U H1 Q1) Q)
theorem A4.more (I:A4 X Ae U H s)(hS:s.heap.objs.size<=S)(hk:∀b u,s.heap.get? b=some u->h'.get? b=some u)(ho:h'.get? S=some o)(hn:∀v,o.data≠.cell v):A4 X ((S,o)::Ae) U H {s with heap:=h',toks:=tk}:=by
 have I2:A4 X Ae U H {s with heap:=h',toks:=tk}:=I.kept hk;refine I2.pins_of λp hp=>?_;rcases Bc.mp hp with rfl|hp
 .exact⟨ho,I.hok.fresh hS,λe=>absurd (I.lt) (by rw[<- e];exact cE.mpr hS),I.nofs hS,hn⟩
 .exact I2.pin p (AS _ hp)
theorem A4.less (I:A4 X (p::Ae) U H s):A4 X Ae U H s/\s.heap.get? p.1=some p.2:=
 ⟨I.pins_of λq hq=>I.pin q (AS _ (AF _ hq)),(I.pin p (AS _ (AG ..))).1⟩
theorem zh (hop:op=.BitAnd\/op=.BitXor)(hc:X.calm=true)(ha:PE X e1 ta)(hb:PE X e2 tb)(hm1:X.mg "sorted" = none)(hm2:X.mg "set" = none)(hg1:Gl X "sorted":=by rfl)(hg2:Gl X "set":=by rfl)
  (he1:Au [e1] X.env=(false,eval e1 X.env)::Au [] X.env:=by rfl) (he2:Au [e2] X.env=(false,eval e2 X.env)::Au [] X.env:=by rfl) :
  PE X (.Call (.Name "sorted" p1) [.BinOp (.Call (.Name "set" p2) [e1] [] pos2) op (.Call (.Name "set" p3) [e2] [] pos3) p4] [] pos) (xH X.K op ta tb):=by
 intro Ae s U H Q I h;refine Cm (Qt I hg1 hm1 (u:=.builtin "sorted") rfl ?_);refine EO ?_ rfl rfl;show Ar _ _ (UT ((false,eval (.BinOp (.Call (.Name "set" p2) [e1] [] pos2) op (.Call (.Name "set" p3) [e2] [] pos3) p4) X.env)::Cb pos (Au [] X.env))) _ _ s;refine IN ?_;refine wpAny_BinOp ?_;refine Cm (Qt I hg2 hm2 (u:=.type "set") rfl ?_);refine Bz (Dl (ZR ha ZO he1 pos2 Ae s U H (λvs H1=>match vs with | [x]=>mJ X.K op (λQ1 H1=>tb U H1 Q1) Q x H1 | _=>False) I h) λus s1 e=>e.el λvs H1 I1 r1 q1=>?_) he1 rfl
 match vs,r1,q1 with
 |[x],r1,⟨p,xs,hx,hs,hz,h12,q⟩=>
  subst hx;obtain⟨u,rfl,ru⟩:=GH r1;cases(show u=AC p from ru);obtain⟨Bh,rv,pl,hzz⟩:=I1.list hs
  have hl:xs.length=Bh.toArray.size:=by
   have:=rv.length;simpa using this
  refine jJ (I1.ok.hd hc) pl.isList hl (λi v hi hv=>?_) (by ext) λh2 tk2 hS hk2=>?_
  .obtain⟨u,hu,ru⟩:=rv.get (i:=i) (x:=V.str xs[i]) (by rw[AJ,Af hi];rfl);rw[DU]at hv;rw[hu]at hv;cases hv;exact ru
  .obtain⟨o1,es1,ep1,t1,ho1,hex1,hd1,hrest⟩:_:=id hS;have I2:=I1.more (tk:=tk2) (AH _) hk2 ho1 (λv e=>by rw[hd1]at e;cases e);refine Cm (Qt I2 hg2 hm2 (u:=.type "set") rfl ?_);refine Bz (Dl (ZR hb ZO he2 pos3 _ _ U H1 (λvs H2=>match vs with | [y]=>∃q ys,y=.ref q/\F0 X.K H2 q (ys.map V.str)/\ys.length+1<Be/\(fm ys).length<=12/\∀l,H2 l=none->Q (.ref l) (Cv H2 l (.lst ((RJ op xs ys).map V.str))) | _=>False) I2 q) λus s3 e=>e.el λvs H3 I3 r3 q3=>?_) he2 rfl
   match vs,r3,q3 with
   |[y],r3,⟨p',ys,hy,hs',hz',h12',q'⟩=>
    subst hy;obtain⟨u,rfl,ru⟩:=GH r3;cases(show u=AC p' from ru);obtain⟨its',rv',pl',hzz'⟩:=I3.list hs'
    have hl':ys.length=its'.toArray.size:=by
     have:=rv'.length;simpa using this
    obtain⟨I3',hp1⟩:=I3.less;have ltS:=Ap hp1;refine jJ (I3.ok.hd hc) pl'.isList hl' (λi v hi hv=>?_) (by ext) λh4 tk4 hS4 hk4=>?_
    .obtain⟨u,hu,ru⟩:=rv'.get (i:=i) (x:=V.str ys[i]) (by rw[AJ,Af hi];rfl);rw[DU]at hv;rw[hu]at hv;cases hv;exact ru
    .refine xN (s:={s3 with heap:=h4,toks:=tk4}) hop (EW ltS) ⟨o1,es1,ep1,t1,hk4 _ _ hp1,hex1,hd1,hrest⟩ hS4 h12 h12' λh5 ms hk5 hS5 hu5 h64=>?_;refine Jn ?_
     have lt4:s3.heap.objs.size<h4.objs.size:=by
      obtain⟨o,es,ep,t,ho,-⟩:=hS4;exact Ap ho
     refine vM (s:={s3 with heap:=h5,toks:=tk4}) (I3.ok.hd hc) hS5 h64 λh6 d tk6 L out c zs hf hSL hL hst hp hsrt hk6=>?_;have hSL:h4.objs.size<L:=hSL;refine⟨.ref L,_,((I3'.draw d).laid (h':=h6) (t':=tk6) (a:=L) (o:=.lst (zs.map V.str)) (λb u eb=>hk6 b u (hk5 b u (hk4 b u eb))) (by show s3.heap.objs.size<=L;ext) ⟨?_,out,c,bA hst,hL⟩),rfl,?_⟩
     .rw[Ab,hp.length_eq];have:(64:Nat)<=Am:=by decide
      ext
     .rw[hu5 zs hp hsrt];exact q' L (I3.hok.fresh (by ext))
unseal BU
def WD (op:Ng)(ta tb:DQ):DQ:=λτ M Q=>ta τ M λx M1=>Cw (Bi M1 x) λds=>Cw (Em ds) λxs=>xs.length+1<Be/\(fm xs).length<=12/\tb τ M1 λy M2=>Cw (Bi M2 y) λes=>Cw (Em es) λys=>ys.length+1<Be/\(fm ys).length<=12/\Q (.lst ((RJ op xs ys).map D.str)) M2
theorem Xr (hop:op=.BitAnd\/op=.BitXor)(hc:X.calm=true)(hm1:X.mg "sorted" = none)(hm2:X.mg "set" = none)(ha:BU X e1 ta)(hb:BU X e2 tb)(hg1:Gl X "sorted":=by rfl)(hg2:Gl X "set":=by rfl)
  (he1:Au [e1] X.env=(false,eval e1 X.env)::Au [] X.env:=by rfl) (he2:Au [e2] X.env=(false,eval e2 X.env)::Au [] X.env:=by rfl) :
  BU X (.Call (.Name "sorted" p1) [.BinOp (.Call (.Name "set" p2) [e1] [] pos2) op (.Call (.Name "set" p3) [e2] [] pos3) p4] [] pos) (WD op ta tb):=PE.mono (zh hop hc ha hb hm1 hm2 hg1 hg2 he1 he2) (by
 intro U H Q;ext1⟨Z,τ,M,Q2,st,hr,h,k⟩;refine ⟨Z,τ,M,_,st,hr,h,λZ1 v d H1 M1 l1 h1 a1 q1=>?_⟩;obtain ⟨ds,e1,q2⟩:=Cj q1;obtain ⟨xs,e2,hz,h64,q3⟩:=Cj q2;obtain ⟨p,vs,rfl,hs,a2⟩:=h1.rdL e1 a1;have e3:=VI e2;subst e3;have e4:=ats_strs a2;subst e4;refine ⟨p,xs,rfl,hs,hz,h64,lE.bind (st.mono l1) h1 q3 λZ2 y dy H2 M2 l2 h2 a3 q4=>?_⟩;obtain ⟨es,f1,q5⟩:=Cj q4;obtain ⟨ys,f2,hz',h64',q6⟩:=Cj q5;obtain ⟨p',vs',rfl,hs',a4⟩:=h2.rdL f1 a3;have f3:=VI f2;subst f3;have f4:=ats_strs a4;subst f4;exact ⟨p',ys,rfl,hs',hz',h64',λl hl=>(k.le (l1.trans l2)).f h2 hl (Yw _) q6⟩)
theorem bo :WD op ta tb τ M Q=(ta τ M λx M1=>Cw (Bi M1 x) λds=>Cw (Em ds) λxs=>xs.length+1<Be/\(fm xs).length<=12/\tb τ M1 λy M2=>Cw (Bi M2 y) λes=>Cw (Em es) λys=>ys.length+1<Be/\(fm ys).length<=12/\Q (.lst ((RJ op xs ys).map D.str)) M2):=rfl
unseal Gj GL
end
end L2
namespace L3
open PySem PySem.Spec PyProof.Rows L2
section
theorem wv (hkey:(BO prog w).is k key=true)(hm:s.heap.DictOf (BO prog w) d kvs)(hn:k∉kvs.map (·.1))(hsz:kvs.length<=Am)
  (hQ:∀h',h'.DictOf (BO prog w) d (kvs++[(k,x)])->Bx d s.heap h'->Q x {s with heap:=h',toks:=s.toks+1}):Ar (Az prog w) A (cA d key x) Q E s:=by
 obtain⟨o,es,ep,ho,hc,hd,hk,hp,nd⟩:_:=hm
 have hes:es.size<=Am:=by
  have e1:=hp.length;have e2:es.toList.length=es.size:=by simp
  ext
 have no:(es.findIdx? λe=>(BO prog w).is k e.key)=none:=by
  have e1:=hp.findIdx k;have e2:(es.findIdx? λe=>(BO prog w).is k e.key)=es.toList.findIdx? λe=>(BO prog w).is k e.key:=by obtain⟨l⟩:=es;simp
  rw[e2,e1,Gv];intro kv hkv;exact decide_eq_false λe=>hn (Ao.mpr ⟨kv,hkv,e⟩)
 unfold cA;refine BQ ?_;refine Aa ((BO prog w).pyHash hkey ?_);refine Aa (wpAny_dictFind_of hkey ho hd hk ?_);rw[no];dsimp only;refine Aa (FD (Aa (wpAny_updateDictKeys ho hd (Ad ?_))));refine hQ _ ⟨_,_,ep+1,Db _ ho (Obj.isFreed_of_dict (OD hd _)),hc.mapDictKeys _,OD hd _,hk.push hkey _,?_,?_⟩ (AZ ..)
 .have z:=hp.append hkey ((BO prog w).hash k) x;obtain⟨l⟩:=es;simpa using z
 .rw[AM];exact B7.mpr ⟨nd,by simp,λa ha b hb e=>hn (by rw[show a=k from e.trans (AO.mp hb)]at ha;exact ha)⟩
end
section
theorem rm (I:A4 X Ae U H s)(e:H a=some (.dK kvs))(hl:kvs.length<Am)(ry:RelV (kV k) u)(rd:RelV d r)
  (h1:∀v w' s',FL kvs k=some v->A4 X Ae U H s'->RelV v w'->Q w' s') (h2:FL kvs k=none->∀s',A4 X Ae U (Cv H a (.dK (putK kvs k d))) s'->Q r s') :
  Ar (Az X.prog X.w) A (JY (.builtin "dict.setdefault") [.ref a,u,r]) Q E s:=by
 obtain⟨z,hd,vs,rel,dd⟩:=gD I.hok e;have rv:=rel.val k;cases hv:FL kvs k with
 |some v=>
  rw[hv]at rv;cases hw:Kw vs k with
  |none=>rw[hw]at rv;exact rv.elim
  |some w'=>
   rw[hw]at rv;refine call_meetsIn Fq dd.typeIs Jy (Jm _ _ _) (meets_dict_setdefault (BO X.prog X.w) a (RY ry) hd r) ⟨_,dd.mapOf,?_,λv' hv'=>?_,λhn=>?_⟩
   .obtain⟨o',es',ep',ho',_,hd',_,hp',_⟩:_:=dd;intro o es ep ho hd2;rw[ho']at ho;cases ho;rw[hd']at hd2;cases hd2;have e1:=hp'.length;have e2:es'.toList.length=es'.size:=by simp
    have e3:=rel.length;ext
   .rw[hw]at hv';cases hv';exact h1 v w' _ hv (I.tok _) rv
   .rw[hw]at hn;cases hn
 |none=>
  have hn:k∉vs.map (·.1):=λhk=>by
   rw[<- rel.keys]at hk;obtain⟨kv,hkv,ek⟩:=Ao.mp hk;unfold FL at hv;rw[LQ,Gf]at hv;exact hv kv hkv (decide_eq_true ek)
  refine BL Fq dd.typeIs Jy ?_ (Jm _ _ _);unfold D7.«dict.setdefault»;refine Aa ?_;unfold Zk;refine Aa (QJ dd.typeIs ?_);show Ar _ _ (pure (a,u,some r)) _ _ s;refine Ad ?_;dsimp only;rw[if_neg (by rw[hd];exact Aj)];refine Aa (wv (RY ry) dd hn (by rw[<- rel.length];exact z) λh' dd' hs=>Ad ⟨r,rfl,h2 hv _ ?_⟩);have he:∃q,h'.get? a=some q:=let ⟨q,_,_,hq,_⟩:=dd';⟨q,hq⟩
  have hp:putK kvs k d=kvs++[(k,d)]:=by
   unfold putK;rw[if_neg];intro c;obtain⟨kv,hkv,ek⟩:=DH.mp c;exact hn (by rw[<- rel.keys];exact Ao.mpr ⟨kv,hkv,of_decide_eq_true ek⟩)
  rw[hp]
  have hst:Tr vs k r=vs++[(k,r)]:=by
   unfold Tr;rw[if_neg];intro c;obtain⟨kv,hkv,ek⟩:=DH.mp c;exact hn (Ao.mpr ⟨kv,hkv,of_decide_eq_true ek⟩)
  have rp:=rel.put k rd;rw[hp,hst]at rp;exact ZY I (by rw[e];exact Dr) hs he (ZM (by rw[As];exact hl) hd rp dd')
end
section
unseal EF
def RF:V->List V->Hp->VK->Prop:=λx vs H Q=>∃a kvs k v,x=.ref a/\vs=[kV k,v]/\H a=some (.dK kvs)/\kvs.length<Am/\(∀v',FL kvs k=some v'->Q v' H)/\(FL kvs k=none->Q v (Cv H a (.dK (putK kvs k v))))
theorem vo:MP X "dict.setdefault" RF:=by
 intro Ae s U H x vs v us Q I rx rv;ext1⟨a,kvs,k,d,e1',e2',e,hl,q1,q2⟩;cases rx;obtain⟨u,r,rfl,ru,rr⟩:=Oc rv;exact rm I e hl ru rr (λv w' s' hv I' r'=>⟨v,H,I',r',q1 v hv⟩) λhn s' I'=>⟨d,_,I',rr,q2 hn⟩
def Lu:D->List D->Mp->Ef->Prop:=λx xs M Q=>JF x λp=>Fw xs λy v=>Q4 y λk=>Ke (M p) λkvs=>kvs.length<Am/\(∀d,DJ kvs k=some d->Q d M)/\(DJ kvs k=none->Q v (put M p (.dic (H9 kvs k v))))
def WC (to:DQ)(t:JV):DQ:=λτ M Q=>to τ M λx M1=>JF x λp=>Ke (M1 p) λ_=>t τ M1 λxs M2=>Lu (.ref p) xs M2 Q
theorem bq :WC to t τ M Q=(to τ M λx M1=>JF x λp=>Ke (M1 p) λ_=>t τ M1 λxs M2=>Lu (.ref p) xs M2 Q):=rfl
unseal BU Gj
theorem fG (ho:BU X o to)(ha:Gj X [e1,e2] t)
  (hbase:CD o "setdefault" X.env (eval o X.env)=eval o X.env:=by rfl)
  (hfew:((Cb cpos (Au [e1,e2] X.env)).all (λx=>!x.1) && (Fo cpos (DC [] X.env)).all (λx=>x.1.isSome)
   && decide ([e1,e2].length+([]:List E2).length+(if ([]:List E2).isEmpty then 0 else 1)<30))=true:=by rfl)
  (hline:(apos.endLine == cpos.line)=true:=by rfl) (hs:Au [e1,e2] X.env=(false,eval e1 X.env)::Au [e2] X.env:=by rfl) (hplain:(Cb cpos (Au [e2] X.env)).any (·.1)=false:=by rfl) :
  BU X (.Call (.Attribute o "setdefault" apos) [e1,e2] [] cpos) (WC to t):=PE.mono (nF PySem.F.plainAttrs_dict Fq PySem.F.type_dict_setdefault vo ho ha hbase hfew hline hs hplain) (by
 intro U H Q;ext1⟨Z,τ,M,Q2,st,hr,h,k⟩;refine lE.bind st hr h λZ1 x dx H1 M1 l1 h1 a1 q1=>?_;obtain⟨p,rfl,q2⟩:=Ia q1;obtain⟨kvs0,e0,q3⟩:=gI q2;cases(show x=V.ref p from a1);obtain⟨ks0,rd0,_⟩:=h1.rdMD e0;refine⟨.inr (.inr (.inl ⟨rfl,.inl ⟨ks0,rd0⟩⟩)),Z1,τ,M1,_,st.mono l1,h1,q3,λZ2 vs ds H2 M2 l2 h2 a2 q4=>?_⟩;obtain⟨p',e,q5⟩:=Ia q4;cases e;obtain⟨y,v,rfl,q6⟩:=NE q5;obtain⟨ky,rfl,q7⟩:=Qd q6;obtain⟨kvs,e,hl,q8,q9⟩:=gI q7;obtain⟨ks,rd,a4⟩:=h2.rdMD e;obtain⟨y',v',rfl,ay,av⟩:=OU a2;cases Vx ay;refine⟨p,ks,ky,v',rfl,rfl,rd,by rw[a4.length];exact hl,λv2 hv2=>?_,λhn=>?_⟩
 .rcases a4.val with⟨_,e2⟩|⟨d,v3,e1,e2,av3⟩
  .rw[hv2]at e2;cases e2
  .rw[hv2]at e2;cases e2;exact k Z2 _ _ _ _ (l1.trans l2) h2 av3 (q8 d e1)
 .rcases a4.val with⟨e1,_⟩|⟨d,v3,e1,e2,_⟩
  .exact k Z2 _ _ _ _ (l1.trans l2) (h2.chgD e (a4.put av)) av (q9 e1)
  .rw [hn] at e2;cases e2)
theorem rL :∀{zs:List D}{vs:List V},Dm Z vs (zs++[d])->∃us v,vs=us++[v]/\Dm Z us zs/\At Z v d
 |[],_,.cons a .nil=>⟨[],_,rfl,.nil,a⟩
 |_::zs,_,.cons a t=>by
  obtain⟨us,v,rfl,h1,h2⟩:=rL t;exact⟨_::us,v,rfl,.cons a h1,h2⟩
def PZ:D->List D->Mp->Ef->Prop:=λx xs M Q=>JF x λp=>xs=[]/\ND (M p) λys=>∃zs d,ys=zs++[d]/\Q d (put M p (.lst zs))
theorem j2 :PZ (.ref p) [] M Q=ND (M p) λys=>∃zs d,ys=zs++[d]/\Q d (put M p (.lst zs)):=by
 unfold PZ;simp only[JF,true_and]
theorem ga:EF X "list.pop" PZ:=MP.mono gf (by
 intro x xs H Q;ext1⟨Z,d,ds,M,Q2,hr,a,as,h,k⟩;obtain⟨p,rfl,rfl,h2⟩:=Ia h;obtain⟨ys,e,zs,d,rfl,q⟩:=gJ h2;cases(show x=V.ref p from a);have hx:xs=[]:=by cases as;rfl
 subst hx;obtain ⟨vs,r,a2⟩:=hr.rdM e;obtain ⟨us,v,rfl,a4,a5⟩:=rL a2;refine ⟨p,us++[v],v,rfl,rfl,r,by simp,?_⟩;rw [List.dropLast_concat];exact k Z _ _ _ _ (Le.refl _) (hr.chgL e a4) a5 q)
end
section
def PV (tk1 tv1 tk2 tv2 tk3 tv3 tk4 tv4:DQ):DQ:=λτ M Q=>∀p,M p=none->tk1 τ (put M p (.dic [])) λx1 M1=>Gr x1 λz1=>tv1 τ M1 λy1 M2=>tk2 τ M2 λx2 M3=>Gr x2 λz2=>tv2 τ M3 λy2 M4=>tk3 τ M4 λx3 M5=>Gr x3 λz3=>tv3 τ M5 λy3 M6=>tk4 τ M6 λx4 M7=>Gr x4 λz4=>tv4 τ M7 λy4 M8=>M8 p=some (.dic [])/\[z1,z2,z3,z4].Nodup/\Q (.ref p) (put M8 p (.dic [(.inr z1,y1),(.inr z2,y2),(.inr z3,y3),(.inr z4,y4)]))
theorem mw :PV tk1 tv1 tk2 tv2 tk3 tv3 tk4 tv4 τ M Q=∀p,M p=none->tk1 τ (put M p (.dic [])) λx1 M1=>Gr x1 λz1=>tv1 τ M1 λy1 M2=>tk2 τ M2 λx2 M3=>Gr x2 λz2=>tv2 τ M3 λy2 M4=>tk3 τ M4 λx3 M5=>Gr x3 λz3=>tv3 τ M5 λy3 M6=>tk4 τ M6 λx4 M7=>Gr x4 λz4=>tv4 τ M7 λy4 M8=>M8 p=some (.dic [])/\[z1,z2,z3,z4].Nodup/\Q (.ref p) (put M8 p (.dic [(.inr z1,y1),(.inr z2,y2),(.inr z3,y3),(.inr z4,y4)])):=rfl
theorem T4 (h:[z1,z2,z3,z4].Nodup):L2.mergeK [] [((.inr z1:Co),y1),(.inr z2,y2),(.inr z3,y3),(.inr z4,y4)]=[(.inr z1,y1),(.inr z2,y2),(.inr z3,y3),(.inr z4,y4)]:=by
 simp only[Ez,BA,AR,or_false,not_or]at h;obtain⟨⟨a,b,c⟩,⟨d,e⟩,f,-⟩:_:=h;simp[L2.mergeK,L2.putK,a,b,c,d,e,f]
unseal BU
theorem TW (hk1:BU X ke1 tk1)(hv1:BU X ve1 tv1)(hk2:BU X ke2 tk2)(hv2:BU X ve2 tv2)(hk3:BU X ke3 tk3)(hv3:BU X ve3 tv3)(hk4:BU X ke4 tk4)(hv4:BU X ve4 tv4):BU X (.Dict [some ke1,some ke2,some ke3,some ke4] [ve1,ve2,ve3,ve4] pos) (PV tk1 tv1 tk2 tv2 tk3 tv3 tk4 tv4):=PE.mono (k8 (aO hk1 hv1 (aO hk2 hv2 (aO hk3 hv3 (aO hk4 hv4 lr)))) rfl rfl (by intro h;cases h) (by show 4<=15;decide)) (by
 rintro U H Q ⟨Z,τ,M,Q2,st,hr,h,k⟩ p hp;refine lE.bind st (hr.newD hp .nil) (h p (hr.fresh hp)) λZ1 v1 d1 H1 M1 l1 h1 a1 q=>?_;obtain ⟨z1,rfl,q⟩:=D8 q;refine lE.bind (st.mono l1) h1 q λZ2 v2 d2 H2 M2 g2 h2 a2 q=>?_;have l2:=l1.trans g2;refine lE.bind (st.mono l2) h2 q λZ3 v3 d3 H3 M3 g3 h3 a3 q=>?_;have l3:=l2.trans g3;have a2:=a2.mono g3;obtain ⟨z2,rfl,q⟩:=D8 q;refine lE.bind (st.mono l3) h3 q λZ4 v4 d4 H4 M4 g4 h4 a4 q=>?_;have l4:=l3.trans g4;have a2:=a2.mono g4;refine lE.bind (st.mono l4) h4 q λZ5 v5 d5 H5 M5 g5 h5 a5 q=>?_;have l5:=l4.trans g5;have a2:=a2.mono g5;have a4:=a4.mono g5;obtain ⟨z3,rfl,q⟩:=D8 q;refine lE.bind (st.mono l5) h5 q λZ6 v6 d6 H6 M6 g6 h6 a6 q=>?_;have l6:=l5.trans g6;have a2:=a2.mono g6;have a4:=a4.mono g6;refine lE.bind (st.mono l6) h6 q λZ7 v7 d7 H7 M7 g7 h7 a7 q=>?_;have l7:=l6.trans g7;have a2:=a2.mono g7;have a4:=a4.mono g7;have a6:=a6.mono g7;obtain ⟨z4,rfl,q⟩:=D8 q;refine lE.bind (st.mono l7) h7 q λZ8 v8 d8 H8 M8 g8 h8 a8 q=>?_;have l8:=l7.trans g8;have a2:=a2.mono g8;have a4:=a4.mono g8;have a6:=a6.mono g8;obtain ⟨e,hne,q⟩:=q;obtain ⟨vs,e2,ka⟩:=h8.rdMD e;cases ka;cases (show v1=V.str z1 from a1);cases (show v3=V.str z2 from a3);cases (show v5=V.str z3 from a5);cases (show v7=V.str z4 from a7);refine ⟨e2,[(.inr z1,v2),(.inr z2,v4),(.inr z3,v6),(.inr z4,v8)],rfl,by show 4<=15;decide,?_⟩;rw [T4 hne];exact k Z8 (.ref p) (.ref p) _ _ l8 (h8.chgD e (.cons ⟨rfl,a2⟩ (.cons ⟨rfl,a4⟩ (.cons ⟨rfl,a6⟩ (.cons ⟨rfl,a8⟩ .nil))))) rfl q)
end
section
variable {X:Cx}{Ae:List (Av×Obj)}{U:St}{H:Hp}{s:Aq}
theorem ue (ht:IsTup s.heap p #[.int i t1,.int j t2])
  (h1:i=k->Q (.int 0 s.toks) {s with toks:=s.toks+1}) (h2:i≠k->j=k/\Q (.int 1 s.toks) {s with toks:=s.toks+1}) :
  Ar (Az X.prog X.w) X.A (JY (.builtin "tuple.index") [.ref p,.int k t]) Q X.xe s:=by
 refine BL KP ht.typeIs PySem.F.entry_tuple_index ?_ (PySem.F.args_tuple_index_2 _ _);unfold D7.«tuple.index»;refine Aa ?_;show Ar _ _ (pure (AC p,[D0 k t])) _ _ s;refine Ad ?_;dsimp only;refine Aa (tupleItemsOf_ ht ?_);refine Aa (Ad (Aa (Ad (Aa ?_))));rw[Sg];simp only[Sf,AU,AK,EB,Ey,L7,KD,MT,Vb,Nat.reduceDiv,Nat.add_one_sub_one,Zc];rw[show N5 0 2=[0,1]from rfl];rw[G0];refine Aa ?_;show Ar _ _ (eqBool (.int i t1) (.int k t) >>= _) _ _ s;refine Aa (Li ?_);by_cases e:i=k
 .rw[beq_iff_eq.mpr e];show Ar _ _ (bS _ >>= _) _ _ s;refine Aa ?_;unfold bS;refine Aa (wpAny_mkInt (Ad (Ad ?_)));refine Ad (Ad ⟨_,rfl,h1 e⟩)
 .obtain⟨e2,q⟩:=h2 e;rw[show(i == k)=false from beq_eq_false_iff_ne.mpr e];show Ar _ _ (pure (C9 (none,()))) _ _ s;refine Ad ?_;show Ar _ _ (forIn [1] _ _) _ _ s;rw[G0];refine Aa ?_;show Ar _ _ (eqBool (.int j t2) (.int k t) >>= _) _ _ s;refine Aa (Li ?_);rw[beq_iff_eq.mpr e2];show Ar _ _ (bS _ >>= _) _ _ s;refine Aa ?_;unfold bS;refine Aa (wpAny_mkInt (Ad (Ad ?_)));refine Ad (Ad ⟨_,rfl,q⟩)
def RG:V->List V->Hp->VK->Prop:=λx vs H Q=>∃p i j k,x=.ref p/\vs=[.int k]/\H p=some (.tup [.int i,.int j])/\(i=k->Q (.int 0) H)/\(i≠k->j=k/\Q (.int 1) H)
theorem vn:MP X "tuple.index" RG:=by
 intro Ae s U H x vs v us Q I rx rv;ext1⟨p,i,j,k,e1',e2',e,q1,q2⟩;cases(show v=AC p from rx);obtain⟨u,rfl,ru⟩:=GH rv;obtain⟨t,rfl⟩:=ru;obtain⟨_,Bh,r,tn⟩:=(show Do X.prog X.w H s.heap p (.tup [.int i,.int j])from I.hok p _ e);obtain⟨u1,u2,e1',⟨t1,e2'⟩,⟨t2,e3'⟩⟩:_:=Oc r;exact ue tn.tup (λh=>⟨.int 0,H,I.tok _,⟨_,rfl⟩,q1 h⟩) λh=>⟨(q2 h).1,.int 1,H,I.tok _,⟨_,rfl⟩,(q2 h).2⟩
def xE (r:V->List V->Hp->VK->Prop)(to:TE)(t:TA):TE:=λU H Q=>to U H λx H1=>(∃p xs,x=.ref p/\H1 p=some (.tup xs))/\t U H1 λvs H2=>r x vs H2 Q
theorem db {id:String}(slot:cD "tuple" name id)(hty:Tj (.builtin id)=pure (.type "method_descriptor"))(hm:MP X id r)(ho:PE X o to)(ha:PA X (e::es) t)
  (hbase:CD o name X.env (eval o X.env)=eval o X.env:=by rfl)
  (hfew:((Cb cpos (Au (e::es) X.env)).all (λx=>!x.1) && (Fo cpos (DC [] X.env)).all (λx=>x.1.isSome)
   && decide ((e::es).length+([]:List E2).length+(if ([]:List E2).isEmpty then 0 else 1)<30))=true:=by rfl)
  (hline:(apos.endLine == cpos.line)=true:=by rfl) (hs:Au (e::es) X.env=(false,eval e X.env)::Au es X.env:=by rfl) (hplain:(Cb cpos (Au es X.env)).any (·.1)=false:=by rfl) :
  PE X (.Call (.Attribute o name apos) (e::es) [] cpos) (xE r to t):=by
 intro Ae s U H Q I h;refine Py hbase hfew hline rfl (Dl (ho Ae s U H _ I h) λv s1 e=>e.el λx H1 I1 r1 ⟨ty,q1⟩=>?_);obtain⟨p,xs,rfl,ex⟩:=ty;cases(show v=AC p from r1);obtain⟨_,Bh,_,ob,g1,g2,n,g3,g4⟩:=(show Do X.prog X.w H1 s1.heap p (.tup xs)from I1.hok p _ ex);refine⟨"tuple",id,PySem.F.plainAttrs_tuple,slot,hty,⟨ob,g1,g2⟩,λa ha=>⟨ob,by cases ha;exact g1,g4⟩,?_⟩;have hA:=ha cpos Ae s1 U H1 _ I1 q1;rw[hs]at hA ⊢;refine Hh (by show(false || (Cb cpos (Au es X.env)).any (·.1))=false;rw[hplain]<;>rfl) (Nm ?_);exact Dl hA λus s2 e=>e.el λvs H2 I2 r2 q2=>hm Ae s2 U H2 _ vs _ us Q I2 r1 r2 q2
def WA (to:DQ)(t:JV):DQ:=λτ M Q=>to τ M λx M1=>∃i j,x=.tup [.int i,.int j]/\t τ M1 λxs M2=>Ga xs λy=>EQ y λk=>∃v,(v=0/\i=k\/v=1/\i≠k/\j=k)/\Q (.int v) M2
theorem b7 :WA to t τ M Q=(to τ M λx M1=>∃i j,x=.tup [.int i,.int j]/\t τ M1 λxs M2=>Ga xs λy=>EQ y λk=>∃v,(v=0/\i=k\/v=1/\i≠k/\j=k)/\Q (.int v) M2):=rfl
unseal BU Gj
theorem fE {o e:B8}{to:DQ}{t:JV}{apos cpos:Pos}(ho:BU X o to)(ha:Gj X [e] t)
  (hbase:CD o "index" X.env (eval o X.env)=eval o X.env:=by rfl)
  (hfew:((Cb cpos (Au [e] X.env)).all (λx=>!x.1) && (Fo cpos (DC [] X.env)).all (λx=>x.1.isSome)
   && decide ([e].length+([]:List E2).length+(if ([]:List E2).isEmpty then 0 else 1)<30))=true:=by rfl)
  (hline:(apos.endLine == cpos.line)=true:=by rfl) (hs:Au [e] X.env=(false,eval e X.env)::Au [] X.env:=by rfl) (hplain:(Cb cpos (Au [] X.env)).any (·.1)=false:=by rfl) :
  BU X (.Call (.Attribute o "index" apos) [e] [] cpos) (WA to t):=PE.mono (db KP PySem.F.type_tuple_index vn ho ha hbase hfew hline hs hplain) (by
 intro U H Q;ext1⟨Z,τ,M,Q2,st,hr,h,k⟩;refine lE.bind st hr h λZ1 x dx H1 M1 l1 h1 a1 q1=>?_;obtain⟨i,j,rfl,q⟩:=q1;obtain⟨p,vs,rfl,e1,_⟩:=h1.rdK rfl a1;refine⟨⟨p,vs,rfl,e1⟩,Z1,τ,M1,_,st.mono l1,h1,q,λZ2 ws ds H2 M2 l2 h2 a2 q2=>?_⟩;obtain⟨y,rfl,q3⟩:=G4 q2;obtain⟨n,rfl,v,c,q4⟩:=CU q3;obtain⟨w,rfl,aw⟩:=Ic a2;cases(show w=V.int n from aw);obtain⟨p2,vs2,ep,e2,av⟩:=h2.rdK rfl (a1.mono l2);cases ep;obtain⟨v1,v2,rfl,b1,b2⟩:=OU av;cases(show v1=V.int i from b1);cases(show v2=V.int j from b2);have q5:=k Z2 (.int v) (.int v) _ _ (l1.trans l2) h2 rfl q4;rcases c with⟨rfl,c⟩|⟨rfl,c,d⟩
 .exact⟨p,i,j,n,rfl,rfl,e2,λ_=>q5,λd=>absurd c d⟩
 .exact ⟨p,i,j,n,rfl,rfl,e2,λd=>absurd d c,λ_=>⟨d,q5⟩⟩)
end
section
open MeetsSeq MeetsSeq2 MeetsSeq3 SeqRoads2
end
unseal Cf
end L3
namespace L2
open PySem PySem.Spec PyProof.Rows L3
section
end
end L2
namespace L3
open PySem PySem.Spec PyProof.Rows L2
unseal BU Hv Jf Gj JW GL Dw Cf FR BP Fz Gc Ku Hq EF
section
variable {X:Cx}
theorem Dm.rev (h:Dm Z vs ds):Dm Z vs.reverse ds.reverse:=by
 induction h with
 |nil=>exact .nil
 |cons a _ ih=>rw[Gz,Gz];exact ih.append (.cons a .nil)
def W4:D->List D->Mp->Ef->Prop:=λx xs M Q=>JF x λp=>xs=[]/\ND (M p) λys=>Q .non (put M p (.lst ys.reverse))
theorem vi:EF X "list.reverse" W4:=MP.mono we (by
 intro x xs H Q;ext1⟨Z,d,ds,M,Q2,hr,a,as,h,k⟩;obtain ⟨p,rfl,rfl,h1⟩:=Ia h;cases (show x=V.ref p from a);cases as;obtain ⟨ys,e,q⟩:=gJ h1;obtain ⟨vs,r,a2⟩:=hr.rdM e;exact ⟨p,vs,rfl,rfl,r,k Z .non .non _ _ (Le.refl _) (hr.chgL e a2.rev) rfl q⟩)
noncomputable def QZ (ss:List Str):List Str:=ss.mergeSort OR
theorem tf (h1:ys.Perm xs)(h2:Kz ys=true):ys=QZ xs:=
 G1 (λa b _ _ p q=>aL p q) (uA _ h2) (Di UB VH _) (h1.trans (DS _ _).symm)
theorem tH {K:Ac}{f:List Str->Mp->Ef->Prop}(hK:X.K=K)(hf:∀{Z:Zt}{H:Hp}{M:Mp}{Q2:Ef}{Q:VK}{ys:List Str}{a:Av},Hu K Z Q2 Q->HR K H M Z->H a=none->f ys M Q2->Q (.ref a) (Cv H a (.lst (ys.map V.str)))):BP X (.builtin "sorted") (λxs M Q=>Ga xs λx=>Cw (Bi M x) λds=>Cw (Em ds) λss=>ss.length<64/\f (QZ ss) M Q):=by
 subst hK;intro Ae s U H xs us Q I r;ext1⟨Z,ds,M,Q2,hr,a,h,k⟩;obtain⟨x,rfl,h1⟩:=G4 h;obtain⟨zs,e,h2⟩:=Cj h1;obtain⟨ss,e2,h64,q⟩:=Cj h2;obtain⟨v,rfl,av⟩:=Ic a;obtain⟨p,ws,rfl,hs,a2⟩:=hr.rdL e av;obtain⟨u,rfl,ru⟩:=GH r;cases(show u=AC p from ru);have e3:=VI e2;subst e3;have e4:=L2.ats_strs a2;subst e4;obtain⟨Bh,rv,pl,hz⟩:=I.list hs;have l1:=rv.length;rw[Ab]at l1;refine sorted_strs pl.isList (wJ rv) (by ext) λout ss' b1 b2 b3=>?_;obtain⟨c,hc⟩:=sortedAll_at s.heap Bh out;have e5:=tf b2 b3;rw[<- e5]at q;refine⟨.ref _,_,I.laid (λ_ _=>sortedAll_old) (Ju _) ?_,rfl,hf k hr (I.hok.fresh (Ju _)) q⟩;refine⟨?_,out.toList,c,bA b1,hc⟩;rw[Ab,b2.length_eq];have:(64:Nat)<=Am:=by decide
 ext
theorem tI:BP X (.builtin "sorted") (λxs M Q=>Ga xs λx=>Cw (Bi M x) λds=>Cw (Em ds) λss=>ss.length<64/\Q (.lst ((QZ ss).map D.str)) M):=tH rfl λk hr ha q=>k.f hr ha (Yw _) q
theorem uq:BP X (.builtin "sorted") (λxs M Q=>Ga xs λx=>Cw (Bi M x) λds=>Cw (Em ds) λss=>ss.length<64/\∀p,M p=none->Q (.ref p) (put M p (.lst ((QZ ss).map D.str)))):=tH rfl λk hr ha q=>k.l hr ha (Yw _) q
end
end L3
set_option maxHeartbeats 4000000
namespace My
open PySem PyProof.Rows L2 L3
local macro_rules | `(nofun)=>`(Dv.mono ‹Dv _ _› (by first | decide | omega))
local macro_rules | `(tactic| walk_at "eq")=>`(tactic| simp only[List.cons.injEq,HX,D.int.injEq,D.str.injEq,D.bl.injEq,D.tup.injEq,D.lst.injEq,D.ref.injEq,true_and,and_true,exists_and_left,exists_and_right,exists_eq',exists_eq,exists_const,eq_self])
local macro_rules | `(tactic| walk_at "cap")=>`(tactic| (simp only[yL,AT,DB,G9,G8,O2];grind))
local macro_rules | `(tactic| right)=>`(tactic| ((try simp only[Md,Mb,Mc]);grind))
local macro_rules | `(tactic| simp_arith [$xs,*])=>`(tactic| simp -failIfUnchanged only[↓yQ,↓j5,↓jv,↓ju,Ho,↓Xg,↓zV,↓j1,↓o6,↓bo,↓bq,↓b7,↓eE,↓Xf,↓eD,↓Xe,↓eC,↓eO,↓Xd,↓Xm,↓eM,↓Xc,↓Xl,↓eK,↓Xb,↓Xk,↓dR,↓eB,↓eJ,↓dQ,↓dZ,↓dP,↓dY,↓eI,↓dO,↓dX,↓eG,↓b9,↓bd,↓ca,↓be,↓cb,↓bf,↓cg,↓bg,↓cm,↓bi,↓cq,↓bj,↓lY,↓Xn,↓pE,↓mh,↓Xh,↓yH,↓eF,↓zS,↓ia,↓bc,↓Xo,↓eQ,↓nQ,↓oX,↓nV,↓jt,↓zP,↓eS,↓ib,↓qw,↓jz,↓dU,↓jw,↓nU,↓zR,↓ik,↓nS,↓yT,↓yJ,↓yR,↓dS,↓oz,↓o5,↓mi,↓ie,↓eT,↓yK,↓ii,↓ij,↓ig,↓iq,↓j8,↓io,↓yO,↓j7,↓yS,↓ip,↓gL,↓gK,↓X0,↓Qr,↓B3,↓jx,↓gX,↓yN,↓ox,↓yU,↓zM,↓ZE,↓nR,↓Xj,↓nT,↓Xi,↓nO,↓zQ,↓yP,↓zN,↓zL,↓br,↓bu,↓ic,↓yM,↓jq,↓jp,↓jo,↓oo,↓oq,↓il,↓eP,↓nP,↓bw,↓b5,↓zO,↓bz,↓oy,↓qx,↓b8,↓Vp,↓xT,↓xS,↓xR,↓b6,↓yI,↓mj,↓ot,↓ou,↓zT,↓zU,↓bb,↓reduceIte,if_true,if_false,FV,decide_eq_true_eq,LX,Bool.not_false,true_and,and_true,AK,EB,Ab,As,ED,FE,Ey,ne_eq,reduceCtorEq,not_false_eq_true,Int.reduceLT,Int.reduceLE,Int.reducePow,Int.reduceNeg,forall_const,eq_self,Nn,decide_true,decide_false,F6,List.all_nil,Fp,List.any_nil,TB,IQ,LW,Tz,GY,Bo,decide_eq_false_iff_not,Rs,L7,Vb,Nat.reduceMul,Int.reduceAdd,Int.reduceSub,Int.reduceMul,Wj,Rt,Int.reduceToNat,B3,gL,gK,X0,Qr,lW,rj,ji,jj,Jh,fZ,fY,ah,ai,aj,ak,cX,Nat.succ_ne_zero,Rt,false_and,$xs,*])
local macro_rules | `(tactic| grind)=>`(tactic| simp_arith [true_and])
noncomputable def Dh (i:Nat):DE:=Ts.main.body.getD i (.Pass ⟨0,0,0,0⟩)
noncomputable def RT (s:DE):List DE:=match s with
 |.ClassDef _ _ _ b _ _ _ _ _ _ _=>b
 |_=>[]
abbrev tm (k j:Nat):DE:=(RT (Dh k)).getD j (.Pass ⟨0,0,0,0⟩)
section
variable {P:Bp}{w:BK}{K:Ac}{mg:Str->Option Ah}{base:CH}
noncomputable def Qw:List (Str×Int):=[("num",0),("box",0),("late",0),("door",0),("not",1),("and",2),("or",2),("xor",2),("plus",2),("minus",2),("less",2),("same",2),("pick",3),("join",2),("part",1)]
theorem ZfW:Qw.lookup ("num":Str)=some 0:=by nofun
theorem ZfY:Qw.lookup ("box":Str)=some 0:=by nofun
theorem ZeS:Qw.lookup ("late":Str)=some 0:=by nofun
theorem ZeT:Qw.lookup ("door":Str)=some 0:=by nofun
theorem ZfX:Qw.lookup ("not":Str)=some 1:=by nofun
theorem ZeQ:Qw.lookup ("pick":Str)=some 3:=by nofun
theorem ZeR:Qw.lookup ("part":Str)=some 1:=by nofun
structure DF (K:Ac)(mg:Str->Option Ah)(x:Str)(st:DE)(ps:List Str) where
 f:Av
 g:DG
 d:Df K mg x st ps f g
structure DM (K:Ac)(C:Av)(m qual:Str)(st:DE)(ps:List Str) where
 f:Av
 g:DG
 d:Mf K C m qual st ps f g
set_option genInjectivity false in
set_option genSizeOf false in
structure Tx (K:Ac)(w:BK)(mg:Str->Option Ah) where
 C_Known:Av
 cl_Known:Ov K C_Known
 mgc_Known:mg "Known" = some (.ref C_Known)
 na_Known_row:DY K C_Known "row"
 na_Known_marks:DY K C_Known "marks"
 na_Known_spans:DY K C_Known "spans"
 x0:DF K mg "is_width" (Dh 13) ["number"]
 x1:DF K mg "fits" (Dh 14) ["width", "number"]
 x2:DF K mg "check_width" (Dh 15) ["number"]
 x3:DF K mg "check_word" (Dh 16) ["width", "number"]
 x4:DF K mg "cut" (Dh 17) ["width", "number"]
 x5:DF K mg "bits_of" (Dh 18) ["width", "word"]
 x6:DF K mg "held_terms" (Dh 23) ["term"]
 x7:DF K mg "size_of" (Dh 24) ["T"]
 x8:DF K mg "width_of" (Dh 25) ["T", "boxes", "doors"]
 x9:DF K mg "checked_width" (Dh 26) ["term", "boxes", "doors"]
 x10:DF K mg "checked_num" (Dh 27) ["width", "word"]
 x11:DF K mg "width_named" (Dh 28) ["widths", "name"]
 x12:DF K mg "check_own" (Dh 29) ["term", "widths"]
 x13:DF K mg "check_part" (Dh 30) ["low", "many", "width"]
 x14:DF K mg "check_join" (Dh 31) ["width"]
 x15:DF K mg "check_like" (Dh 32) ["width", "other"]
 x16:DF K mg "width_over" (Dh 33) ["term", "widths"]
 x17:DF K mg "reads" (Dh 34) ["T"]
 x18:DF K mg "leaves_of" (Dh 35) ["term"]
 x19:DF K mg "names_in" (Dh 36) ["leaves", "form"]
 x20:DF K mg "marks_of" (Dh 38) ["span"]
 x21:DF K mg "unknown_span" (Dh 39) ["width"]
 x22:DF K mg "with_mark" (Dh 40) ["span", "place", "mark"]
 x23:DF K mg "span_of" (Dh 41) ["term", "spans"]
 x24:DF K mg "span_over" (Dh 42) ["term", "held"]
 x25:DF K mg "span_of_two" (Dh 43) ["form", "one", "other"]
 x26:DF K mg "doubt" (Dh 44) ["span"]
 x27:DF K mg "doubted" (Dh 45) ["width", "word", "unknown"]
 x28:DF K mg "not_span" (Dh 46) ["span"]
 x29:DF K mg "sum_span" (Dh 47) ["one", "other", "carry"]
 x30:DF K mg "less_span" (Dh 48) ["one", "other"]
 x31:DF K mg "same_span" (Dh 49) ["one", "other"]
 x32:DF K mg "pick_span" (Dh 50) ["chosen", "one", "other"]
 x33:DF K mg "join_span" (Dh 51) ["one", "other"]
 x34:DF K mg "part_span" (Dh 52) ["span", "low", "many"]
 x35:DF K mg "made" (Dh 59) ["boxes", "doors", "rules"]
 x36:DF K mg "check_many" (Dh 60) ["things", "most", "called"]
 x37:DF K mg "is_name" (Dh 61) ["text"]
 x38:DF K mg "take_name" (Dh 62) ["name", "taken"]
 x39:DF K mg "check_once" (Dh 63) ["name", "taken"]
 x40:DF K mg "checked_boxes" (Dh 64) ["boxes", "taken"]
 x41:DF K mg "checked_doors" (Dh 65) ["doors", "taken"]
 x42:DF K mg "check_rule" (Dh 66) ["rule", "taken", "box_widths", "door_widths"]
 x43:DF K mg "rule_of" (Dh 67) ["works", "name"]
 x44:DF K mg "rule_names" (Dh 68) ["works"]
 x45:DF K mg "widths_of" (Dh 69) ["works"]
 x46:DF K mg "asked_bits" (Dh 72) ["works", "one", "other"]
 x47:DF K mg "shared" (Dh 73) ["names", "others"]
 x48:DF K mg "unshared" (Dh 74) ["names", "others"]
 x49:DF K mg "bits_named" (Dh 75) ["sort", "names", "widths"]
 x50:DM K C_Known "__init__" "Known.__init__" (tm 76 0) ["self", "row"]
 mk_Known:Mk K C_Known x50.f
 x51:DM K C_Known "learn" "Known.learn" (tm 76 1) ["self", "mark"]
 x52:DM K C_Known "forget" "Known.forget" (tm 76 2) ["self"]
 x53:DM K C_Known "know" "Known.know" (tm 76 3) ["self", "many"]
 x54:DM K C_Known "go_on" "Known.go_on" (tm 76 4) ["self", "guards"]
 x55:DM K C_Known "settled_at" "Known.settled_at" (tm 76 5) ["self", "many", "guards"]
 x56:DM K C_Known "put" "Known.put" (tm 76 6) ["self", "number", "mark"]
 x57:DM K C_Known "turn" "Known.turn" (tm 76 7) ["self"]
 x58:DM K C_Known "guard_marks" "Known.guard_marks" (tm 76 8) ["self", "guards"]
 x59:DM K C_Known "guard_mark" "Known.guard_mark" (tm 76 9) ["self", "guard", "sort"]
 x60:DM K C_Known "both_words" "Known.both_words" (tm 76 10) ["self"]
 x61:DM K C_Known "low_words" "Known.low_words" (tm 76 11) ["self", "sort"]
 x62:DF K mg "never_both" (Dh 77) ["works", "one", "other"]
 x63:DF K mg "written" (Dh 79) ["works", "name"]
 x64:DF K mg "read_early" (Dh 80) ["works", "name"]
 x65:DF K mg "read_late" (Dh 81) ["works", "name"]
 x66:DF K mg "boxes_read" (Dh 82) ["rule", "number"]
 x67:DF K mg "clash" (Dh 83) ["works", "ahead", "behind"]
 x68:DF K mg "clashes_of" (Dh 85) ["works", "order"]
 x69:DF K mg "check_order" (Dh 86) ["works", "order"]
 x70:DF K mg "clashing" (Dh 87) ["works", "ahead", "names"]
 x71:DF K mg "are_paired" (Dh 88) ["pairs", "one", "other"]
 x72:DF K mg "rivals_of" (Dh 89) ["works", "clashes", "name"]
 x73:DF K mg "ahead_of" (Dh 90) ["names", "name"]
 x74:DF K mg "needs" (Dh 92) ["works", "order"]
 x75:DF K mg "needs_with" (Dh 93) ["works", "order", "clashes"]
 x76:DF K mg "needed_by" (Dh 94) ["works", "order", "clashes", "name"]
 x77:DF K mg "come_in_turn" (Dh 95) ["needed"]
 x78:DF K mg "have_come" (Dh 96) ["names", "come"]
 x79:DF K mg "ring" (Dh 97) ["works", "order"]
 x80:DF K mg "ring_among" (Dh 98) ["needed"]
 x81:DF K mg "settled" (Dh 99) ["needed"]
 x82:DF K mg "plan" (Dh 100) ["works", "order"]
 x83:DF K mg "_law_cell_at" (Dh 102) ["script", "k"]
 x84:DF K mg "_law_whole" (Dh 103) ["found"]
 x85:DF K mg "_law_name" (Dh 104) ["number", "k"]
 x86:DF K mg "_law_leaf" (Dh 105) ["number", "want", "boxes", "doors"]
 x87:DF K mg "_law_term" (Dh 106) ["number", "want", "deep", "boxes", "doors"]
 x88:DF K mg "_law_writes" (Dh 107) ["number", "boxes", "doors"]
 x89:DF K mg "_law_things" (Dh 108) ["script", "mods", "most_doors", "most_rules"]
 x90:DF K mg "_law_order" (Dh 110) ["number", "rules"]
 x91:DF K mg "law" (Dh 111) ["script"]
 t_WIDEST:Tok
 m_WIDEST:mg "WIDEST" = some (.int 64 t_WIDEST)
 t_MOST_PARTS:Tok
 m_MOST_PARTS:mg "MOST_PARTS" = some (.int 100 t_MOST_PARTS)
 t_MOST_DEEP:Tok
 m_MOST_DEEP:mg "MOST_DEEP" = some (.int 12 t_MOST_DEEP)
 t_MOST_BOXES:Tok
 m_MOST_BOXES:mg "MOST_BOXES" = some (.int 12 t_MOST_BOXES)
 t_MOST_DOORS:Tok
 m_MOST_DOORS:mg "MOST_DOORS" = some (.int 6 t_MOST_DOORS)
 t_MOST_RULES:Tok
 m_MOST_RULES:mg "MOST_RULES" = some (.int 8 t_MOST_RULES)
 t_MOST_WRITES:Tok
 m_MOST_WRITES:mg "MOST_WRITES" = some (.int 6 t_MOST_WRITES)
 t_LONGEST_NAME:Tok
 m_LONGEST_NAME:mg "LONGEST_NAME" = some (.int 8 t_LONGEST_NAME)
 t_MOST_CUBES:Tok
 m_MOST_CUBES:mg "MOST_CUBES" = some (.int 64 t_MOST_CUBES)
 h_HELD:Av
 m_HELD:mg "HELD" = some (.ref h_HELD)
 T_HELD:TabOk K w h_HELD Qw
 B:Blt mg
abbrev Ok (P:Bp)(w:BK)(K:Ac)(mg:Str->Option Ah)(base:CH)(k:Nat)(f:Av)(fd:DG)(ps:List Str)(sp:Du):Prop:=FnOk P w K mg base CX0 k f fd ps (lSp K sp)
abbrev Tv (P:Bp)(w:BK)(K:Ac)(mg:Str->Option Ah)(base:CH):=Tx K w mg
abbrev Od (_:Tv P w K mg base){x:Str}{st:DE}{ps:List Str}(d:DF K mg x st ps)(k:Nat)(sp:Du):Prop:=Ok P w K mg base k d.f d.g ps sp
abbrev Om (_:Tv P w K mg base){C:Av}{m qual:Str}{st:DE}{ps:List Str}(d:DM K C m qual st ps)(k:Nat)(sp:Du):Prop:=Ok P w K mg base k d.f d.g ps sp
variable (T:Tv P w K mg base)
theorem xy:(("box":Str)=("num":Str))=False:=eq_false (by nofun)
theorem yo:(("late":Str)=("num":Str))=False:=eq_false (by nofun)
theorem yn:(("late":Str)=("box":Str))=False:=eq_false (by nofun)
theorem ym:(("door":Str)=("num":Str))=False:=eq_false (by nofun)
theorem yk:(("door":Str)=("box":Str))=False:=eq_false (by nofun)
theorem ι:(("door":Str)=("late":Str))=False:=eq_false (by nofun)
theorem yr:(("not":Str)=("part":Str))=False:=eq_false (by nofun)
theorem yp:(("not":Str)=("join":Str))=False:=eq_false (by nofun)
theorem yt:(("not":Str)=("pick":Str))=False:=eq_false (by nofun)
theorem yq:(("not":Str)=("less":Str))=False:=eq_false (by nofun)
theorem yu:(("not":Str)=("same":Str))=False:=eq_false (by nofun)
theorem ς:(("pick":Str)=("part":Str))=False:=eq_false (by nofun)
theorem π:(("pick":Str)=("join":Str))=False:=eq_false (by nofun)
theorem ρ:(("pick":Str)=("less":Str))=False:=eq_false (by nofun)
theorem σ:(("pick":Str)=("same":Str))=False:=eq_false (by nofun)
theorem μ:(("part":Str)=("join":Str))=False:=eq_false (by nofun)
theorem ξ:(("part":Str)=("pick":Str))=False:=eq_false (by nofun)
theorem ν:(("part":Str)=("less":Str))=False:=eq_false (by nofun)
theorem ο:(("part":Str)=("same":Str))=False:=eq_false (by nofun)
theorem jr :XO is (.tup xs) τ k=(xs.length=is.length/\k (Gq τ is xs)):=rfl
theorem j4 :Gq τ (i::is) (x::xs)=Gq (τ.set i (some x)) is xs:=by rw[Gq]
theorem j3 :Gq τ [] []=τ:=by unfold Gq;rfl
theorem cr :FM 16 (x0::x1::x2::x3::x4::x5::x6::x7::x8::x9::x10::x11::x12::x13::x14::x15::some d::τ) M Q=Q d M:=rfl
theorem bm :Fd 16 te E (x0::x1::x2::x3::x4::x5::x6::x7::x8::x9::x10::x11::x12::x13::x14::x15::o::τ) M=te (x0::x1::x2::x3::x4::x5::x6::x7::x8::x9::x10::x11::x12::x13::x14::x15::o::τ) M λd M1=>E.nx (x0::x1::x2::x3::x4::x5::x6::x7::x8::x9::x10::x11::x12::x13::x14::x15::some d::τ) M1:=rfl
local macro_rules | `(tactic| simp_all_arith [$xs,*])=>`(tactic| simp_arith [ZfW,ZfY,ZeS,ZeT,ZfX,ZeQ,ZeR,xy,yo,yn,ym,yk,ι,yr,yp,yt,yq,yu,ς,π,ρ,σ,μ,ξ,ν,ο,jr,j4,j3,cr,bm,Ci,BR,$xs,*])
local macro_rules | `(tactic| grind)=>`(tactic| simp_all_arith [true_and])
abbrev zm:Du:=λds M Q=>Ga ds λx=>EQ x λn=>Q (.bl (decide (1<=n/\n<=64))) M
theorem zf:Od T T.x0 1 zm:=by
 refine Cz.p1 T.x0.d.F ["number"] λx M Q hr nN h1=>?_;obtain⟨n,rfl,q⟩:=CU h1;refine⟨_,(qO (Cr (Nz Qe Qe Ak (qv 0) (Ii T.m_WIDEST)))),?_⟩;right;refine Cy (λc=>?_) λc=>?_
 .rw[show decide (1<=n/\n<=64)=decide (n<=64) by simp[c]]at q;exact Dn.of q
 .rw[show decide (1<=n/\n<=64)=false by simp;intro h;ext]at q;exact Dn.of q
theorem rg (w:Nat)(h0:0<=n):D6 n<=w↔n<2^w:=by
 unfold D6;by_cases hz:n=0
 .subst hz;have:(0:Int)<2^w:=PC (by decide);simp[this]
 .have hz':(n == 0)=false:=by simpa using hz
  rw[hz'];have ha:n.natAbs≠0:=by ext
  have hl:=Nat.log2_lt (n:=n.natAbs) (k:=w) ha;have e:((2^w:Nat):Int)=(2:Int)^w:=by simp
  constructor
  .intro h;have h0:n.natAbs.log2+1<=w:=by simpa using h
   have h1:=hl.mp h0;ext
  .intro h;have h1:n.natAbs<2^w:=by ext
   have h2:n.natAbs.log2+1<=w:=hl.mpr h1;simpa using h2
abbrev pj:Du:=λds M Q=>Fw ds λx y=>EQ x λw=>EQ y λn=>0<=w/\Q (.bl (decide (0<=n/\n<2^w.toNat))) M
theorem nr:Od T T.x1 1 pj:=by
 refine Cz.p2 T.x1.d.F ["width", "number"] λx y M Q hr nN h1=>?_;obtain⟨wd,rfl,h2⟩:=CU h1;obtain⟨n,rfl,hw,q⟩:=CU h2;refine⟨_,(qO (Cr (Qa (JN Xz (qv 1) Ak) (OO (JN Qe (TY PySem.F.plainAttrs_int PySem.F.slot_int_bit_length PySem.F.type_int_bit_length fw (qv 1)) (qv 0)))))),?_⟩;right;refine Cy (λc=>?_) λc=>?_
 .have c':0<=n:=by simpa using c
  have hb:=rg wd.toNat c'
  rw [show decide (0<=n/\n<2^wd.toNat)=decide ((D6 n:Int)<=wd) by
   rw[D3,decide_eq_true_iff,decide_eq_true_iff];constructor
   .intro h;have:=hb.mpr h.2;ext
   .intro h;exact ⟨c',hb.mp (by ext)⟩] at q
  exact Dn.of q
 .have c':¬ 0<=n:=by simpa using c
  rw[show decide (0<=n/\n<2^wd.toNat)=false by simp;intro h;ext]at q;exact Dn.of q
abbrev Ze7:Du:=λds M Q=>Ga ds λx=>EQ x λw=>(1<=w/\w<=64)/\Q .non M
theorem kJ:Od T T.x2 2 Ze7:=by
 refine Cz.p1 T.x2.d.F ["number"] λx M Q hr nN h1=>?_;obtain⟨wd,e1',⟨a1,a2⟩,q⟩:_:=CU h1;refine⟨_,(qO (Ep (Mh (HA (Aw T.x0.d (zf T) nofun (qA (qv 0) qN)))) (qO Oq) qE)),?_⟩;right;refine Cy (λc=>?_) λc=>Dn.of q;simp[a1,a2]at c
abbrev Zf4:Du:=λds M Q=>Fw ds λx y=>EQ x λw=>EQ y λn=>(1<=w/\0<=n/\n<2^w.toNat)/\Q .non M
theorem wA:Od T T.x3 2 Zf4:=by
 refine Cz.p2 T.x3.d.F ["width", "number"] λx y M Q hr nN h1=>?_;obtain⟨wd,rfl,h2⟩:=CU h1;obtain⟨n,e1',⟨a1,a3,a4⟩,q⟩:_:=CU h2;refine⟨_,(qO (Ep (Mh (HA (Aw T.x1.d (nr T) nofun (qA (qv 0) (qA (qv 1) qN))))) (qO Oq) qE)),?_⟩;right;refine⟨by ext,Cy (λc2=>?_) λc2=>Dn.of q⟩;simp[a3,a4]at c2
theorem lq (h:a<=b):(2:Int)^a<=2^b:=by
 have h1:=Nat.pow_le_pow_right (n:=2) (by decide) h;have e:∀k,((2^k:Nat):Int)=(2:Int)^k:=λk=>by simp
 rw[<- e,<- e];exact Wm.mpr h1
theorem VN (w):(0:Int)<2^w:=PC (by decide)
abbrev i5:Du:=λds M Q=>Fw ds λx y=>EQ x λw=>EQ y λn=>(0<=w/\w<=1000)/\Q (.int (n%2^w.toNat)) M
theorem Uj:Od T T.x4 1 i5:=by
 refine Cz.p2 T.x4.d.F ["width", "number"] λx y M Q hr nN h1=>?_;obtain⟨wd,rfl,h2⟩:=CU h1;obtain⟨n,e1',⟨h0,h64⟩,q⟩:_:=CU h2;refine⟨_,(qO (Cr (BB G6 (qv 1) (BB Vr Ak (B9 (mT rfl) T.B.max boot_max (qA (qv 0) (qA Ak qN))))))),?_⟩;right;rw[if_neg (by omega:¬ 0 > wd),UW];exact⟨⟨h0,by ext,by decide⟩,PC (by decide),Dn.of q⟩
noncomputable def HE (w:Nat)(x:Int):List Int:=(Bk w).map λk=>x / 2^k%2
noncomputable def weight:List Int->Int
 |[]=>0
 |b::r=>b+2*weight r
theorem tF (w:Nat)(x:Int):(HE w x).length=w:=by unfold HE;rw[Ab,BX]
theorem xk (w)(x):HE (w+1) x=x%2::HE w (x / 2):=by
 unfold HE;rw[Es,AT,BI];congr 1
 .simp
 .apply EA;intro k _;show x / 2^(k+1)%2=x / 2 / 2^k%2;rw[F3,Wn,Int.ediv_ediv_of_nonneg (by decide)]
theorem xj (w:Nat)(x:Int):HE (w+1) x=HE w x++[x / 2^w%2]:=by
 unfold HE;rw[Ru,AM];rfl
abbrev ww:Du:=λds M Q=>Fw ds λx y=>EQ x λw=>EQ y λn=>(0<=w/\w<=64)/\∀p,M p=none->Q (.ref p) (put M p (.lst ((HE w.toNat n).map D.int)))
theorem uL:Od T T.x5 1 ww:=by
 refine Cz.p2 T.x5.d.F ["width", "word"] λx y M Q hr nN h1=>?_;obtain⟨wd,rfl,h2⟩:=CU h1;obtain⟨n,e1',⟨h0,h64⟩,q⟩:_:=CU h2;refine⟨_,(qO (Cr (Xq (caps:=[("word",1)]) ⟨rfl,by rfl,by rfl,by rfl,rfl,by rfl,by nofun⟩ rfl (aH T.B.range (qA (qv 0) qN)) (λ_ _ _ _ _ _=>(BB S7 (BB gG (qv 1) (qv 0)) Ak))))),?_⟩;right;refine⟨by ext,by rw[VF];exact GR (by ext),λi ys M'=>M'=M/\ys=(HE i n).map D.int,⟨rfl,rfl⟩,?_,?_,?_⟩
 .rintro i ys M' ⟨rfl,rfl⟩;exact⟨trivial,by rw[Ab,tF];exact AH _⟩
 .rintro i x ys M' hx ⟨rfl,rfl⟩;obtain⟨hi,rfl⟩:=Yh hx;walk_at "cap";refine⟨by ext,?_⟩;rw[xj,AM]
  have e:AB (n / 2^((0:Int)+(i:Int)).toNat) 1=n / 2^i%2:=by
   rw[show((0:Int)+(i:Int)).toNat=i by ext];exact PySem.W.kbt_mask (n / 2^i) 1
  rw[e];rfl
 .rintro ys M' ⟨rfl,rfl⟩ p hp;rw[VF];exact Dn.of (q p hp)
inductive Gk where
 |and | or | xor | plus | minus | less | same | join
noncomputable def Gk.nm:Gk->Str
 |.and=>"and" |.or=>"or" |.xor=>"xor" |.plus=>"plus" |.minus=>"minus" |.less=>"less" |.same=>"same" |.join=>"join"
inductive Tm where
 |num (w n:Int) | box (x:Str) | late (x:Str) | door (x:Str)
 |not (t:Tm) | bin (o:Gk) (t u:Tm) | pick (c t u:Tm) | part (t:Tm) (lo many:Int)
noncomputable def Tm.D:Tm->D
 |.num w n=>.tup [.str "num",.int w,.int n]
 |.box x=>.tup [.str "box",.str x]
 |.late x=>.tup [.str "late",.str x]
 |.door x=>.tup [.str "door",.str x]
 |.not t=>.tup [.str "not",t.D]
 |.bin o t u=>.tup [.str o.nm,t.D,u.D]
 |.pick c t u=>.tup [.str "pick",c.D,t.D,u.D]
 |.part t lo many=>.tup [.str "part",t.D,.int lo,.int many]
noncomputable def Tm.kids:Tm->List Tm
 |.not t=>[t]
 |.bin _ t u=>[t,u]
 |.pick c t u=>[c,t,u]
 |.part t _ _=>[t]
 |_=>[]
noncomputable def Tm.parts:Tm->Nat
 |.not t=>t.parts+1
 |.bin _ t u=>t.parts+u.parts+1
 |.pick c t u=>c.parts+t.parts+u.parts+1
 |.part t _ _=>t.parts+1
 |_=>1
noncomputable def Tm.deep:Tm->Nat
 |.not t=>t.deep+1
 |.bin _ t u=>max t.deep u.deep+1
 |.pick c t u=>max c.deep (max t.deep u.deep)+1
 |.part t _ _=>t.deep+1
 |_=>1
theorem Gk.nm_inj {a b:Gk}(h:a.nm=b.nm):a=b:=by
 cases a<;>cases b<;>first | rfl | exact absurd h (by nofun)
theorem Gk.nm_ne {o:Gk}:o.nm≠"num"/\o.nm≠"box"/\o.nm≠"late"/\o.nm≠"door"/\o.nm≠"not"/\o.nm≠"pick"/\o.nm≠"part":=by cases o<;>nofun
theorem Tm.D_inj:∀{t u:Tm},t.D=u.D->t=u
 |.num a b,.num c d,h=>by simp[Tm.D]at h;rw[h.1,h.2]
 |.box x,.box y,h=>by simp[Tm.D]at h;rw[h]
 |.late x,.late y,h=>by simp[Tm.D]at h;rw[h]
 |.door x,.door y,h=>by simp[Tm.D]at h;rw[h]
 |.not t,.not u,h=>by simp[Tm.D]at h;rw[Tm.D_inj h]
 |.bin o t u,.bin o' t' u',h=>by simp[Tm.D]at h;rw[Gk.nm_inj h.1,Tm.D_inj h.2.1,Tm.D_inj h.2.2]
 |.pick c t u,.pick c' t' u',h=>by simp[Tm.D]at h;rw[Tm.D_inj h.1,Tm.D_inj h.2.1,Tm.D_inj h.2.2]
 |.part t a b,.part t' a' b',h=>by simp[Tm.D]at h;rw[Tm.D_inj h.1,h.2.1,h.2.2]
 |.num _ _,.box _,h | .num _ _,.late _,h | .num _ _,.door _,h | .num _ _,.not _,h | .num _ _,.pick _ _ _,h | .num _ _,.part _ _ _,h=>by simp[Tm.D]at h
 |.num _ _,.bin o _ _,h=>by simp[Tm.D]at h;exact absurd h.1.symm Gk.nm_ne.1
 |.box _,.num _ _,h | .box _,.bin _ _ _,h | .box _,.pick _ _ _,h | .box _,.part _ _ _,h=>by simp[Tm.D]at h
 |.late _,.num _ _,h | .late _,.bin _ _ _,h | .late _,.pick _ _ _,h | .late _,.part _ _ _,h=>by simp[Tm.D]at h
 |.door _,.num _ _,h | .door _,.bin _ _ _,h | .door _,.pick _ _ _,h | .door _,.part _ _ _,h=>by simp[Tm.D]at h
 |.box _,.not _,h | .late _,.not _,h | .door _,.not _,h | .box _,.late _,h | .box _,.door _,h | .late _,.box _,h | .late _,.door _,h | .door _,.box _,h | .door _,.late _,h=>by simp[Tm.D]at h;exact absurd h.1 (by nofun)
 |.not _,.num _ _,h | .not _,.bin _ _ _,h | .not _,.pick _ _ _,h | .not _,.part _ _ _,h=>by simp[Tm.D]at h
 |.not _,.box _,h | .not _,.late _,h | .not _,.door _,h=>by simp[Tm.D]at h;exact absurd h.1 (by nofun)
 |.bin o _ _,.num _ _,h=>by simp[Tm.D]at h;exact absurd h.1 Gk.nm_ne.1
 |.bin _ _ _,.box _,h | .bin _ _ _,.late _,h | .bin _ _ _,.door _,h | .bin _ _ _,.not _,h | .bin _ _ _,.pick _ _ _,h | .bin _ _ _,.part _ _ _,h=>by simp[Tm.D]at h
 |.pick _ _ _,.num _ _,h | .pick _ _ _,.box _,h | .pick _ _ _,.late _,h | .pick _ _ _,.door _,h | .pick _ _ _,.not _,h | .pick _ _ _,.bin _ _ _,h=>by simp[Tm.D]at h
 |.pick _ _ _,.part _ _ _,h=>by simp[Tm.D]at h;exact absurd h.1 (by nofun)
 |.part _ _ _,.num _ _,h | .part _ _ _,.box _,h | .part _ _ _,.late _,h | .part _ _ _,.door _,h | .part _ _ _,.not _,h | .part _ _ _,.bin _ _ _,h=>by simp[Tm.D]at h
 |.part _ _ _,.pick _ _ _,h=>by simp[Tm.D]at h;exact absurd h.1 (by nofun)
open Classical in
noncomputable def IU (x:D):Option Tm:=if h:∃t,t.D=x then some h.choose else none
theorem VD (t):IU t.D=some t:=by
 have h:∃u:Tm,u.D=t.D:=⟨t,rfl⟩;unfold IU;rw[dif_pos h,Tm.D_inj h.choose_spec]
theorem p9 (h:IU x=some t):x=t.D:=by
 unfold IU at h;split at h
 .next e=>cases h;exact e.choose_spec.symm
 .cases h
theorem OV {x:D}{k:Tm->Prop}(h:Cw (IU x) k):∃t,x=t.D/\k t:=by
 obtain⟨t,e,q⟩:=Cj h;exact⟨t,p9 e,q⟩
theorem Tm.deep_pos (t:Tm):1<=t.deep:=by cases t<;>simp[Tm.deep]
theorem Tm.deep_kid {t k:Tm}(h:k∈t.kids):k.deep+1<=t.deep:=by
 cases t<;>simp[Tm.kids]at h<;>simp only[Tm.deep]
 .subst h;ext
 .rcases h with rfl|rfl<;>ext
 .rcases h with rfl|rfl|rfl<;>ext
 .subst h;ext
noncomputable def ES:List Tm->Nat
 |[]=>0
 |t::r=>t.parts+ES r
noncomputable def Fy:List Tm->Nat
 |[]=>0
 |t::r=>max t.deep (Fy r)
theorem wD (t:Tm):∀l,ES (l++[t])=ES l+t.parts
 |[]=>by simp[ES]
 |x::r=>by rw[ED,ES,ES,wD t r];ext
theorem wG (t:Tm):∀l,Fy (l++[t])=max (Fy l) t.deep
 |[]=>by simp[Fy]
 |x::r=>by rw[ED,Fy,Fy,wG t r];ext
theorem Tm.parts_eq (t:Tm):t.parts=1+ES t.kids:=by cases t<;>simp[Tm.parts,Tm.kids,ES]<;>ext
theorem Tm.deep_eq (t:Tm):t.deep=Fy t.kids+1:=by cases t<;>simp[Tm.deep,Tm.kids,Fy]<;>ext
theorem Ux (o:Gk):Qw.lookup o.nm=some 2:=by cases o<;>nofun
abbrev Zf2:Du:=λds M Q=>Ga ds λx=>Cw (IU x) λt=>Q (.tup (t.kids.map Tm.D)) M
theorem bG:Od T T.x6 1 Zf2:=by
 refine Cz.p1 T.x6.d.F ["term"] λx M Q hr nN h1=>?_;obtain⟨t,rfl,q⟩:=OV h1;refine⟨_,(qO (Cr (Jp zX (qv 0) (Us Ak) (Us (BB Hl Ak (Bl (oF T.T_HELD) (P8 T.m_HELD) (Bl BJ (qv 0) Ak))))))),?_⟩;cases t<;>simp only[Tm.D]<;>right<;>(try simp only[Ux])<;>(try grind)<;>exact Dn.of q
abbrev aU (n:Nat)(ds:List D)(M:Mp)(Q:Ef):Prop:=Ga ds λx=>Cw (IU x) λt=>t.deep<=n/\Q (.tup [.int t.parts,.int t.deep]) M
local macro_rules | `(tactic| simp_all_arith! [$xs,*])=>`(tactic| simp_all_arith [VD,Ux,$xs,*])
local macro_rules | `(tactic| grind)=>`(tactic| simp_all_arith! [true_and])
theorem zu {n:Nat}(G_size_of:Od T T.x7 (n+3) (aU n)):Od T T.x7 (n+4) (aU (n+1)):=by
 refine Cz.p1 T.x7.d.F ["T", "parts", "deepest", "inner", "size"] λx M Q hr nN h1=>?_;obtain⟨t,rfl,hd,q⟩:=OV h1;refine⟨_,(qC (CA 1 nN Ak) (qC (CA 2 nN Ak) (Fa (MM AQ rfl (Rf (Aw T.x6.d (bG T) nofun (qA (qv 0) qN))) (Qy (i:=3) nN rfl (Cd rfl)) (qC (CA 4 nN (Aw T.x7.d G_size_of nofun (qA (qv 3) qN))) (qC (CA 1 nN (BB Hl (qv 1) (Bl BJ (qv 4) Ak))) (qO (CA 2 nN (B9 (mT rfl) T.B.max boot_max (qA (qv 2) (qA (Bl BJ (qv 4) Ak) qN)))))))) (qO (Cr (CC (qA (qv 1) (qA (BB Hl (qv 2) Ak) qN)))))))),?_⟩;right;refine⟨λτ M'=>M'=M/\∃v3 v4,τ=[some t.D,some (.int t.parts),some (.int (t.deep-1)),v3,v4],?_,?_⟩
 .grind;refine⟨λk τ M'=>M'=M/\∃v3 v4,τ=[some t.D,some (.int (1+ES (t.kids.take k):Nat)),some (.int (Fy (t.kids.take k):Nat)),v3,v4],⟨rfl,none,none,rfl⟩,λ_ _ _ _=>trivial,?_,?_⟩
  .intro k y τ M' hy;ext1⟨e1',v3,v4,e2'⟩;obtain⟨u,hu,rfl⟩:=Ps hy;have du:=Tm.deep_kid (AE hu);have e1:t.kids.take (k+1)=t.kids.take k++[u]:=by rw[BE,hu];rfl
   grind;rw[e1,wD,wG];refine⟨by ext,?_⟩;walk_at "eq";exact⟨by ext,by split<;>ext⟩
  .intro τ M';ext1⟨e1',v3,v4,e2'⟩;refine⟨rfl,v3,v4,?_⟩;rw[Ab,BD,<- Tm.parts_eq];have:=Tm.deep_eq t;congr 4
   simp only[D.int.injEq,HX];ext
 .intro τ M';ext1⟨e1',v3,v4,e2'⟩;grind;rw[show(t.deep:Int)-1+1=t.deep by ext];exact Dn.of q
theorem uN (T:Tv P w K mg base):∀n,Od T T.x7 (n+3) (aU n)
 |0=>by
  have no:∀ds M Q,¬aU 0 ds M Q:=λds M Q h=>by
   obtain⟨x,rfl,h1⟩:=G4 h;obtain⟨t,rfl,hd,q⟩:=OV h1;have:=t.deep_pos;ext
  exact Yu no
 |n+1=>zu T (uN T n)
abbrev Zf6:Du:=λds M Q=>Jd ds λx y z=>EQ x λlo=>EQ y λmany=>EQ z λw=>(0<=lo/\1<=many/\lo+many<=w)/\Q .non M
theorem Ω:Od T T.x13 1 Zf6:=by
 refine Cz.p3 T.x13.d.F ["low", "many", "width"] λx y z M Q hr nN h1=>?_;obtain⟨lo,rfl,h2⟩:=CU h1;obtain⟨many,rfl,h3⟩:=CU h2;obtain⟨wd,e1',⟨a1,a2,a3⟩,q⟩:_:=CU h3;refine⟨_,(qO (Ep ((Vs (AV KY (qv 0) Ak) (Vs (AV KY (qv 1) Ak) (X9 (AV KZ (BB Hl (qv 0) (qv 1)) (qv 2)))))).pt (qO Oq) qE)),?_⟩;right;refine Cy (λc=>?_) λc=>Cy (λc=>?_) λc=>Cy (λc=>?_) λc=>Dn.of q
 .ext
 .ext
 .ext
abbrev Zfa:Du:=λds M Q=>Ga ds λx=>EQ x λw=>w<=64/\Q .non M
theorem Ψ:Od T T.x14 1 Zfa:=by
 refine Cz.p1 T.x14.d.F ["width"] λx M Q hr nN h1=>?_;obtain⟨wd,rfl,a1,q⟩:=CU h1;refine⟨_,(qO (Ep (AV KZ (qv 0) (Ii T.m_WIDEST)) (qO Oq) qE)),?_⟩;right;refine Cy (λc=>?_) λc=>Dn.of q;ext
abbrev Zf9:Du:=λds M Q=>Fw ds λx y=>EQ x λw=>EQ y λv=>w=v/\Q .non M
theorem YB:Od T T.x15 1 Zf9:=by
 refine Cz.p2 T.x15.d.F ["width", "other"] λx y M Q hr nN h1=>?_;obtain⟨wd,rfl,h2⟩:=CU h1;obtain⟨v,rfl,e,q⟩:=CU h2;subst e;refine⟨_,(qO (Ep (AV Xy (qv 0) (qv 1)) (qO Oq) qE)),?_⟩;right;exact Dn.of q
noncomputable def l1 (f:Int->Option Int)(l:List Int):Option Int:=if l.length=1 then f (l.headD 0)else none
noncomputable def l2 (f:Int->Int->Option Int)(l:List Int):Option Int:=if l.length=2 then f (l.headD 0) (l.tail.headD 0)else none
noncomputable def l3 (f:Int->Int->Int->Option Int)(l:List Int):Option Int:=if l.length=3 then f (l.headD 0) (l.tail.headD 0) (l.tail.tail.headD 0)else none
@[simp] theorem XG :l1 f [a]=f a:=rfl
@[simp] theorem XF :l2 f [a,b]=f a b:=rfl
@[simp] theorem XE :l3 f [a,b,c]=f a b c:=rfl
noncomputable def Gk.ov (o:Gk)(a b:Int):Option Int:=if o.nm = "join" then(if a+b<=64 then some (a+b)else none)else if a=b then some (if o.nm = "less"\/o.nm = "same" then 1 else a)else none
@[simp] theorem rC :Gk.ov .join a b=if a+b<=64 then some (a+b)else none:=rfl
@[simp] theorem rD :Gk.ov .less a b=if a=b then some 1 else none:=rfl
@[simp] theorem rE :Gk.ov .same a b=if a=b then some 1 else none:=rfl
theorem xW {o:Gk}{a b:Int}(h1:o≠.join)(h2:o≠.less)(h3:o≠.same):o.ov a b=if a=b then some a else none:=by
 cases o<;>first | rfl | exact absurd rfl h1 | exact absurd rfl h2 | exact absurd rfl h3
@[simp] theorem ZsR :Gk.ov .and a b=if a=b then some a else none:=rfl
@[simp] theorem ZsS :Gk.ov .or a b=if a=b then some a else none:=rfl
@[simp] theorem ZsQ :Gk.ov .xor a b=if a=b then some a else none:=rfl
@[simp] theorem Zsx :Gk.ov .plus a b=if a=b then some a else none:=rfl
@[simp] theorem Zrs :Gk.ov .minus a b=if a=b then some a else none:=rfl
noncomputable def Tm.over:Tm->List Int->Option Int
 |.not _=>l1 some
 |.bin o _ _=>l2 o.ov
 |.pick _ _ _=>l3 λc a b=>if c=1/\a=b then some a else none
 |.part _ lo many=>l1 λa=>if 0<=lo/\1<=many/\lo+many<=a then some many else none
 |.num _ _=>λ_=>none
 |.box _=>λ_=>none
 |.late _=>λ_=>none
 |.door _=>λ_=>none
theorem jG {t u:Tm}{a b w:Int}(h:(Tm.bin .join t u).over [a,b]=some w):a+b<=64/\w=a+b:=by
 simp[Tm.over]at h;ext
theorem Yv {o:Gk}{t u:Tm}{a b w:Int}(ho:o=.less\/o=.same)(h:(Tm.bin o t u).over [a,b]=some w):a=b/\w=1:=by
 rcases ho with rfl|rfl<;>simp[Tm.over]at h<;>ext
theorem Uv {o:Gk}{t u:Tm}{a b w:Int}(h1:o≠.join)(h2:o≠.less)(h3:o≠.same)(h:(Tm.bin o t u).over [a,b]=some w):a=b/\w=a:=by
 simp[Tm.over,xW h1 h2 h3]at h;ext
theorem jH {c t u:Tm}{d a b w:Int}(h:(Tm.pick c t u).over [d,a,b]=some w):d=1/\a=b/\w=a:=by
 simp[Tm.over]at h;ext
theorem aG {t:Tm}{lo many a w:Int}(h:(Tm.part t lo many).over [a]=some w):(0<=lo/\1<=many/\lo+many<=a)/\w=many:=by
 simp[Tm.over]at h;ext
theorem ZC {p:Prop}[Decidable p]{x:Option Int}{w:Int}(h:(if p then x else none)=some w):p:=FJ λc=>by rw[if_neg c]at h;cases h
theorem Tm.over_len {t:Tm}{ws:List Int}{w:Int}(h:t.over ws=some w):ws.length=t.kids.length/\t.kids≠[]:=by
 cases t with
 |not _=>exact⟨ZC h,λz=>nomatch z⟩
 |bin _ _ _=>exact⟨ZC h,λz=>nomatch z⟩
 |pick _ _ _=>exact⟨ZC h,λz=>nomatch z⟩
 |part _ _ _=>exact⟨ZC h,λz=>nomatch z⟩
 |_=>cases h
theorem Yp (o:Gk):(o.nm = "part")=False:=eq_false Gk.nm_ne.2.2.2.2.2.2
theorem Yq (o:Gk):(o.nm = "pick")=False:=eq_false Gk.nm_ne.2.2.2.2.2.1
abbrev δ:Du:=λds M Q=>Fw ds λx y=>Cw (IU x) λt=>OP M y λws=>(t.over ws).isSome/\Q .non M
local macro_rules | `(tactic| simp_all_arith! [$xs,*])=>`(tactic| simp_all_arith [VD,Ux,Yp,Yq,$xs,*])
theorem υ:Od T T.x12 2 δ:=by
 refine Cz.p2 T.x12.d.F ["term", "widths", "form"] λx y M Q hr nN h1=>?_;obtain⟨t,rfl,h2⟩:=OV h1;obtain⟨ws,hl,hs,ho,q⟩:_:=gH h2;obtain⟨w,hw⟩:=K8.mp ho;obtain⟨hz,hne⟩:=Tm.over_len hw;refine⟨_,(qC (CA 2 nN (Bl BJ (qv 0) Ak)) (qO (Ep (AV CJ (qv 2) BV) (qO (EZ (Aw T.x13.d (Ω T) nofun (qA (Bl BJ (qv 0) Ak) (qA (Bl BJ (qv 0) Ak) (qA (Bl Hn (qv 1) Ak) qN)))))) (qO (Ep (AV CJ (qv 2) BV) (qO (EZ (Aw T.x14.d (Ψ T) nofun (qA (BB Hl (Bl Hn (qv 1) Ak) (Bl Hn (qv 1) Ak)) qN)))) (qO (Ep (AV CJ (qv 2) BV) (qC (EZ (Aw T.x15.d (YB T) nofun (qA (Bl Hn (qv 1) Ak) (qA Ak qN)))) (qO (EZ (Aw T.x15.d (YB T) nofun (qA (Bl Hn (qv 1) Ak) (qA (Bl Hn (qv 1) Ak) qN)))))) (qO (Ep (AV CJ (Bl (oF T.T_HELD) (P8 T.m_HELD) (qv 2)) Ak) (qO (EZ (Aw T.x15.d (YB T) nofun (qA (Bl Hn (qv 1) Ak) (qA (Bl Hn (qv 1) Ak) qN))))) qE))))))))),?_⟩;cases t with
 |num _ _=>exact absurd rfl hne
 |box _=>exact absurd rfl hne
 |late _=>exact absurd rfl hne
 |door _=>exact absurd rfl hne
 |not t=>simp only[Tm.D];right;exact Dn.of q
 |bin o t u=>
  obtain⟨a,b,rfl⟩:∃a b,ws=[a,b]:=by
   match ws,hz with
   |[a,b],_=>exact⟨a,b,rfl⟩
  simp only[Tm.D];right;simp only[hl,AT,DB];grind;refine Cy (λc=>?_) λc=>?_
  .cases Gk.nm_inj (b:=.join) c;exact⟨(jG hw).1,Dn.of q⟩
  .have cj:o≠.join:=λe=>c (by rw[e];rfl);refine⟨?_,Dn.of q⟩;by_cases c1:o=.less\/o=.same
   .exact(Yv c1 hw).1
   .exact(Uv cj (λe=>c1 (.inl e)) (λe=>c1 (.inr e)) hw).1
 |pick c t u=>
  obtain⟨d,a,b,rfl⟩:∃d a b,ws=[d,a,b]:=by
   match ws,hz with
   |[d,a,b],_=>exact⟨d,a,b,rfl⟩
  obtain⟨e1,e2,rfl⟩:=jH hw;simp only[Tm.D];right;simp only[hl,AT,DB];grind;exact⟨e1,e2,Dn.of q⟩
 |part t lo many=>
  obtain⟨a,rfl⟩:∃a,ws=[a]:=by
   match ws,hz with
   |[a],_=>exact⟨a,rfl⟩
  obtain⟨e1,rfl⟩:=aG hw;simp only[Tm.D];right;simp only[hl,AT,DB];grind;exact⟨e1,Dn.of q⟩
abbrev ZeW:Du:=λds M Q=>Fw ds λx y=>Cw (IU x) λt=>OP M y λws=>Cw (t.over ws) λw=>Q (.int w) M
theorem Zfq:Od T T.x16 1 ZeW:=by
 refine Cz.p2 T.x16.d.F ["term", "widths", "form"] λx y M Q hr nN h1=>?_;obtain⟨t,rfl,h2⟩:=OV h1;obtain⟨ws,hl,hs,ho⟩:=gH h2;obtain⟨w,hw,q⟩:=Cj ho;obtain⟨hz,hne⟩:=Tm.over_len hw;refine⟨_,(qC (CA 2 nN (Bl BJ (qv 0) Ak)) (qC (Ep ((Vs (AV CJ (qv 2) BV) (X9 (AV CJ (qv 2) BV)))).pt (qO (Cr Ak)) qE) (qC (Ep (AV CJ (qv 2) BV) (qO (Cr (Bl Hn (qv 1) Ak))) qE) (qC (Ep (AV CJ (qv 2) BV) (qO (Cr (BB Hl (Bl Hn (qv 1) Ak) (Bl Hn (qv 1) Ak)))) qE) (qC (Ep (AV CJ (qv 2) BV) (qO (Cr (Bl BJ (qv 0) Ak))) qE) (qO (Cr (Bl Hn (qv 1) Ak)))))))),?_⟩;cases t with
 |num _ _=>exact absurd rfl hne
 |box _=>exact absurd rfl hne
 |late _=>exact absurd rfl hne
 |door _=>exact absurd rfl hne
 |not t=>
  obtain⟨a,rfl⟩:∃a,ws=[a]:=by
   match ws,hz with
   |[a],_=>exact⟨a,rfl⟩
  have e:a=w:=by simpa[Tm.over]using hw
  subst e;simp only[Tm.D];right;simp only[hl,AT,DB];grind;exact Dn.of q
 |bin o t u=>
  obtain⟨a,b,rfl⟩:∃a b,ws=[a,b]:=by
   match ws,hz with
   |[a,b],_=>exact⟨a,b,rfl⟩
  simp only[Tm.D];right;simp only[hl,AT,DB];grind;refine Cy (λc=>?_) λc=>Cy (λc2=>?_) λc2=>Cy (λc3=>?_) λc3=>?_
  .cases Gk.nm_inj (b:=.less) c;cases(Yv (.inl rfl) hw).2;exact Dn.of q
  .cases Gk.nm_inj (b:=.same) c2;cases(Yv (.inr rfl) hw).2;exact Dn.of q
  .cases Gk.nm_inj (b:=.join) c3;cases(jG hw).2;exact Dn.of q
  .cases(Uv (λe=>c3 (by rw[e];rfl)) (λe=>c (by rw[e];rfl)) (λe=>c2 (by rw[e];rfl)) hw).2;exact Dn.of q
 |pick c t u=>
  obtain⟨d,a,b,rfl⟩:∃d a b,ws=[d,a,b]:=by
   match ws,hz with
   |[d,a,b],_=>exact⟨d,a,b,rfl⟩
  obtain⟨e1,e2,rfl⟩:=jH hw;simp only[Tm.D];right;simp only[hl,AT,DB];grind;exact Dn.of q
 |part t lo many=>
  obtain⟨a,rfl⟩:∃a,ws=[a]:=by
   match ws,hz with
   |[a],_=>exact⟨a,rfl⟩
  obtain⟨e1,rfl⟩:=aG hw;simp only[Tm.D];right;exact Dn.of q
abbrev Ze6:Du:=λds M Q=>Fw ds λx y=>EQ x λw=>EQ y λn=>(1<=w/\w<=64/\0<=n/\n<2^w.toNat)/\Q (.int w) M
theorem Zeg:Od T T.x10 3 Ze6:=by
 refine Cz.p2 T.x10.d.F ["width", "word"] λx y M Q hr nN h1=>?_;obtain⟨wd,rfl,h2⟩:=CU h1;obtain⟨n,e1',⟨a1,a2,a3,a4⟩,q⟩:_:=CU h2;refine⟨_,(qC (EZ (Aw T.x2.d (kJ T) nofun (qA (qv 0) qN))) (qC (EZ (Aw T.x3.d (wA T) nofun (qA (qv 0) (qA (qv 1) qN)))) (qO (Cr (qv 0))))),?_⟩;right;refine⟨⟨a1,a2⟩,⟨a1,a3,a4⟩,?_⟩;exact Dn.of q
noncomputable def E9 (ws:List (Str×Int)):List (Co×D):=ws.map λp=>(.inr p.1,.int p.2)
noncomputable def L8:List (Co×D)->Option (List (Str×Int))
 |[]=>some []
 |(.inr z,.int n)::r=>(L8 r).map ((z,n)::·)
 |_::_=>none
theorem hZ:∀ws,L8 (E9 ws)=some ws
 |[]=>rfl
 |(z,n)::r=>by
  show(L8 (E9 r)).map ((z,n)::·)=_;rw[hZ r];rfl
theorem iQ:∀{kvs:List (Co×D)}{ws:List (Str×Int)},L8 kvs=some ws->kvs=E9 ws
 |[],ws,h=>by cases h;rfl
 |(.inr z,.int n)::r,ws,h=>by
  change(L8 r).map ((z,n)::·)=_ at h;cases e:L8 r with
  |none=>rw[e]at h;cases h
  |some us=>rw[e]at h;cases h;rw[iQ e];rfl
 |(.inl z,_)::r,ws,h=>by cases h
 |(.inr z,.str _)::r,ws,h=>by cases h
 |(.inr z,.bl _)::r,ws,h=>by cases h
 |(.inr z,.non)::r,ws,h=>by cases h
 |(.inr z,.tup _)::r,ws,h=>by cases h
 |(.inr z,.lst _)::r,ws,h=>by cases h
 |(.inr z,.dic _)::r,ws,h=>by cases h
 |(.inr z,.ref _)::r,ws,h=>by cases h
theorem iP (z:Str):∀ws,DJ (E9 ws) (.inr z)=(ws.lookup z).map D.int
 |[]=>rfl
 |(y,n)::r=>by
  by_cases h:y=z
  .subst h;simp[DJ,E9,BH]
  .have h2:(z == y)=false:=by simpa using λe=>h e.symm
   have h3:DJ (E9 ((y,n)::r)) (.inr z)=DJ (E9 r) (.inr z):=by simp[DJ,E9,CG,h]
   rw[h3,iP z r,BH,h2]
def Jr (M:Mp)(x:D)(k:List (Str×Int)->Prop):Prop:=Cw (E6 M x) λkvs=>Cw (L8 kvs) k
theorem Uf {M:Mp}{x:D}{k:List (Str×Int)->Prop}(h:Jr M x k):∃ws,E6 M x=some (E9 ws)/\k ws:=by
 obtain⟨kvs,e,h1⟩:=Cj h;obtain⟨ws,e2,q⟩:=Cj h1;rw[iQ e2]at e;exact⟨ws,e,q⟩
theorem X1 {M:Mp}{x:D}{ws:List (Str×Int)}{k:List (Str×Int)->Prop}(e:E6 M x=some (E9 ws)):Jr M x k=k ws:=by unfold Jr;rw[e,B3,hZ,B3]
theorem ZV :Jr M (.dic (E9 ws)) k=k ws:=X1 rfl
abbrev Ze4:Du:=λds M Q=>Fw ds λx y=>Jr M x λws=>Gr y λz=>Cw (ws.lookup z) λn=>Q (.int n) M
theorem kL:Od T T.x11 1 Ze4:=by
 refine Cz.p2 T.x11.d.F ["widths", "name"] λx y M Q hr nN h1=>?_;obtain⟨ws,hx,h2⟩:=Uf h1;obtain⟨z,rfl,h3⟩:=D8 h2;obtain⟨n,hz,q⟩:=Cj h3;refine⟨_,(qC (Ep (AV (qd (Kp hr)) (qv 1) (qv 0) (by with_unfolding_all rfl)) (qO Oq) qE) (qO (Cr (FO (Kp hr) (qv 0) (qv 1) (λ_ _=>rfl))))),?_⟩;right;simp only[hx,B3,gX,iP,hz,Jh,NX,if_true,LX,FV,if_false];exact Dn.of q
inductive Wd (bs ds:List (Str×Int)):Tm->Int->Prop
 |num {w n:Int}:(1<=w/\w<=64/\0<=n/\n<2^w.toNat)->Wd bs ds (.num w n) w
 |box {x:Str} {w:Int}:bs.lookup x=some w->Wd bs ds (.box x) w
 |late {x:Str} {w:Int}:bs.lookup x=some w->Wd bs ds (.late x) w
 |door {x:Str} {w:Int}:ds.lookup x=some w->Wd bs ds (.door x) w
 |over {t:Tm} {ws:List Int} {w:Int}:(∀(i:Nat) (k:Tm) (a:Int),t.kids[i]? = some k->ws[i]? = some a->Wd bs ds k a)->t.over ws=some w->Wd bs ds t w
noncomputable def Tm.form:Tm->Str
 |.num _ _=>"num" |.box _=>"box" |.late _=>"late" |.door _=>"door" |.not _=>"not" |.bin o _ _=>o.nm | .pick _ _ _=>"pick" |.part _ _ _=>"part"
theorem VA (t:Tm){M:Mp}{Q:Ef}:Lv t.D (.int 0) M Q=Q (.str t.form) M:=by cases t<;>rfl
theorem Tm.form_ne {t:Tm}(h:t.kids≠[]):t.form≠"num"/\t.form≠"box"/\t.form≠"late"/\t.form≠"door":=by
 cases t with
 |num _ _=>exact absurd rfl h
 |box _=>exact absurd rfl h
 |late _=>exact absurd rfl h
 |door _=>exact absurd rfl h
 |bin o _ _=>exact⟨Gk.nm_ne.1,Gk.nm_ne.2.1,Gk.nm_ne.2.2.1,Gk.nm_ne.2.2.2.1⟩
 |_=>refine⟨?_,?_,?_,?_⟩<;>dsimp only[Tm.form]<;>nofun
theorem Tm.kids_le (t:Tm):t.kids.length<=3:=by cases t<;>simp[Tm.kids]
abbrev bC (n:Nat)(ds:List D)(M:Mp)(Q:Ef):Prop:=Jd ds λx y z=>Cw (IU x) λt=>Jr M y λbs=>Jr M z λds=>t.deep<=n/\∃w,Wd bs ds t w/\Q (.int w) M
local macro_rules | `(tactic| simp_all_arith! [$xs,*])=>`(tactic| simp_all_arith [VD,Ux,Yp,Yq,ZV,VA,$xs,*])
theorem Zdu {n:Nat}(G_checked_width:Od T T.x9 (n+4) (bC n)):Od T T.x9 (n+5) (bC (n+1)):=by
 refine Cz.p3 T.x9.d.F ["term", "boxes", "doors", "form", "widths"] λx y z M Q hr nN h1=>?_;obtain⟨t,rfl,h2⟩:=OV h1;obtain⟨bs,hb,h3⟩:=Uf h2;obtain⟨ds,hd,hn,wd,hw,q⟩:_:=Uf h3;have bW:∀{k:List (Str×Int)->Prop},Jr M y k=k bs:=X1 hb;have dW:∀{k:List (Str×Int)->Prop},Jr M z k=k ds:=X1 hd;refine⟨_,(qC (CA 3 nN (Bl BJ (qv 0) Ak)) (qC (Ep (AV CJ (qv 3) BV) (qO (Cr (Aw T.x10.d (Zeg T) nofun (qA (Bl BJ (qv 0) Ak) (qA (Bl BJ (qv 0) Ak) qN))))) qE) (qC (Ep ((Vs (AV CJ (qv 3) BV) (X9 (AV CJ (qv 3) BV)))).pt (qO (Cr (Aw T.x11.d (kL T) nofun (qA (qv 1) (qA (Bl BJ (qv 0) Ak) qN))))) qE) (qC (Ep (AV CJ (qv 3) BV) (qO (Cr (Aw T.x11.d (kL T) nofun (qA (qv 2) (qA (Bl BJ (qv 0) Ak) qN))))) qE) (qC (sO (caps:=[("boxes",1),("doors",2)]) (i:=4) nN rfl rfl ⟨rfl,by rfl,by rfl,by rfl,rfl,by rfl,by nofun⟩ rfl (Rf (Aw T.x6.d (bG T) nofun (qA (qv 0) qN))) (λ_ _ _ _ _ _=>(Aw T.x9.d G_checked_width nofun (qA (qv 0) (qA (qv 1) (qA (qv 2) qN)))))) (qC (EZ (Aw T.x12.d (υ T) nofun (qA (qv 0) (qA (qv 4) qN)))) (qO (Cr (Aw T.x16.d (Zfq T) nofun (qA (qv 0) (qA (qv 4) qN))))))))))),?_⟩;cases hw with
 |num a=>simp only[Tm.D];right;exact⟨a,Dn.of q⟩
 |box a=>simp only[Tm.D];right;simp only[bW,a,B3,X0];exact Dn.of q
 |late a=>simp only[Tm.D];right;simp only[bW,a,B3,X0];exact Dn.of q
 |door a=>simp only[Tm.D];right;simp only[dW,a,B3,X0];exact Dn.of q
 | @over _ ws _ kid ho=>
  obtain⟨hz,hne⟩:=Tm.over_len ho;obtain⟨n1,n2,n3,n4⟩:=Tm.form_ne hne;have n1':=eq_false n1;have n2':=eq_false n2;have n3':=eq_false n3;have n4':=eq_false n4;right;simp only[VA,n1',n2',n3',n4'];grind;refine⟨GR (by rw[Ab,<- hz];have:=Tm.kids_le t;ext),λi ys M'=>M'=M/\ys=(ws.take i).map D.int,⟨rfl,rfl⟩,?_,?_,?_⟩
  .rintro i ys M' ⟨rfl,rfl⟩;exact⟨trivial,by rw[Ab,A6];ext⟩
  .rintro i x ys M' hx ⟨rfl,rfl⟩;obtain⟨k,hk,rfl⟩:=Ps hx;have hi:i<ws.length:=by rw[hz];exact(Ai.mp hk).1
   have hwi:=Af hi;have dk:=Tm.deep_kid (AE hk);walk_at "cap";simp only[bW,dW];refine⟨by ext,ws[i],kid i k _ hk hwi,?_⟩;rw[BE,hwi,AM];rfl
  .rintro ys M' ⟨rfl,rfl⟩;rw[Ab,<- hz,BD];grind;simp only[ho];exact⟨rfl,Dn.of q⟩
theorem wO (T:Tv P w K mg base):∀n,Od T T.x9 (n+4) (bC n)
 |0=>by
  have no:∀ds M Q,¬bC 0 ds M Q:=λds M Q h=>by
   obtain⟨x,y,z,e1',h1⟩:_:=RN h;obtain⟨t,rfl,h2⟩:=OV h1;obtain⟨bs,hb,h3⟩:=Uf h2;obtain⟨ds,hd,hn,_⟩:=Uf h3;have:=t.deep_pos;ext
  exact Yu no
 |n+1=>Zdu T (wO T n)
abbrev zt:Du:=λds M Q=>Jd ds λx y z=>Cw (IU x) λt=>Jr M y λbs=>Jr M z λds=>(t.parts<=100/\t.deep<=12)/\∃w,Wd bs ds t w/\Q (.int w) M
theorem vL:Od T T.x8 17 zt:=by
 refine Cz.p3 T.x8.d.F ["T", "boxes", "doors", "size"] λx y z M Q hr nN h1=>?_;obtain⟨t,rfl,h2⟩:=OV h1;obtain⟨bs,hb,h3⟩:=Uf h2;obtain⟨ds,hd,⟨hp,hn⟩,wd,hw,q⟩:_:=Uf h3;have bW:∀{k:List (Str×Int)->Prop},Jr M y k=k bs:=X1 hb;have dW:∀{k:List (Str×Int)->Prop},Jr M z k=k ds:=X1 hd;refine⟨_,(qC (CA 3 nN (Aw T.x7.d (uN T 12) nofun (qA (qv 0) qN))) (qC (Ep (AV KZ (Bl BJ (qv 3) Ak) (Ii T.m_MOST_PARTS)) (qO Oq) qE) (qC (Ep (AV KZ (Bl BJ (qv 3) Ak) (Ii T.m_MOST_DEEP)) (qO Oq) qE) (qO (Cr (Aw T.x9.d (wO T 12) nofun (qA (qv 0) (qA (qv 1) (qA (qv 2) qN))))))))),?_⟩;right;refine⟨hn,Cy (λc=>by ext) λc=>Cy (λc=>by ext) λc2=>?_⟩;simp only[bW,dW];exact⟨hn,wd,hw,Dn.of q⟩
noncomputable def Tm.leaves:Tm->List Tm
 |.not t=>t.leaves
 |.bin _ t u=>t.leaves++u.leaves
 |.pick c t u=>c.leaves++t.leaves++u.leaves
 |.part t _ _=>t.leaves
 |t=>[t]
noncomputable def B6:List Tm->List Tm
 |[]=>[]
 |t::r=>t.leaves++B6 r
theorem kI (t:Tm):∀l:List Tm,B6 (l++[t])=B6 l++t.leaves
 |[]=>by simp[B6]
 |x::r=>by rw[ED,B6,B6,kI t r,Bq]
theorem wN:∀a b:List Tm,B6 (a++b)=B6 a++B6 b
 |[],b=>rfl
 |x::r,b=>by rw[ED,B6,B6,wN r b,Bq]
theorem Tm.parts_of_kid {t k:Tm}(h:k∈t.kids):k.parts+1<=t.parts:=by
 cases t<;>simp[Tm.kids]at h<;>simp only[Tm.parts]
 .subst h;ext
 .rcases h with rfl|rfl<;>ext
 .rcases h with rfl|rfl|rfl<;>ext
 .subst h;ext
theorem Tm.leaves_eq {t:Tm}(h:t.kids≠[]):t.leaves=B6 t.kids:=by
 cases t<;>first | exact absurd rfl h | simp[Tm.leaves,Tm.kids,B6]
theorem Tm.leaves_leaf {t:Tm}(h:t.kids=[]):t.leaves=[t]:=by
 cases t<;>first | rfl | exact absurd h (by simp[Tm.kids])
theorem Tm.leaves_len:∀t:Tm,t.leaves.length<=t.parts
 |.not t=>by have:=t.leaves_len;simp only[Tm.leaves,Tm.parts];ext
 |.bin _ t u=>by have:=t.leaves_len;have:=u.leaves_len;simp only[Tm.leaves,Tm.parts,As];ext
 |.pick c t u=>by have:=c.leaves_len;have:=t.leaves_len;have:=u.leaves_len;simp only[Tm.leaves,Tm.parts,As];ext
 |.part t _ _=>by have:=t.leaves_len;simp only[Tm.leaves,Tm.parts];ext
 |.num _ _ | .box _ | .late _ | .door _=>by simp[Tm.leaves,Tm.parts]
abbrev aZ (n:Nat)(ds:List D)(M:Mp)(Q:Ef):Prop:=Ga ds λx=>Cw (IU x) λt=>t.deep<=n/\t.parts<=1000/\∀p,M p=none->Q (.ref p) (put M p (.lst (t.leaves.map Tm.D)))
theorem Zef (G_leaves_of:Od T T.x18 (n+3) (aZ n)):Od T T.x18 (n+4) (aZ (n+1)):=by
 refine Cz.p1 T.x18.d.F ["term", "inner_terms", "leaves", "inner"] λx M Q hr nN h1=>?_;obtain⟨t,e1',hd,hp,q⟩:_:=OV h1;refine⟨_,(qC (CA 1 nN (Aw T.x6.d (bG T) nofun (qA (qv 0) qN))) (qC (Ep (AV CJ (B9 Ko T.B.len BZ (qA (qv 1) qN)) Ak) (qO (Cr (IZ (qA (qv 0) qN)))) qE) (qC (CA 2 nN (IZ qN)) (Fa (MM AQ rfl (Rf (qv 1)) (Qy (i:=3) nN rfl (Cd rfl)) (qO (EZ (Kc AN Cq Cp R8 (qv 2) (qA (KW (Aw T.x18.d G_leaves_of nofun (qA (qv 3) qN))) qN))))) (qO (Cr (qv 2))))))),?_⟩;right;by_cases hk:t.kids=[]
 .rw[hk,if_pos (by simp)];rw[Tm.leaves_leaf hk]at q;intro p hp;exact Dn.of (q p hp)
 rw[if_neg (by simpa using hk)];intro p hM;have hl:=t.leaves_len;rw[Tm.leaves_eq hk]at q hl;refine⟨λτ M'=>M'=put M p (.lst ((B6 t.kids).map Tm.D))/\∃v3,τ=[some t.D,some (.tup (t.kids.map Tm.D)),some (.ref p),v3],?_,?_⟩
 .grind;refine⟨λk τ M'=>M'=put M p (.lst ((B6 (t.kids.take k)).map Tm.D))/\∃v3,τ=[some t.D,some (.tup (t.kids.map Tm.D)),some (.ref p),v3],⟨rfl,none,rfl⟩,λ_ _ _ _=>trivial,?_,?_⟩
  .rintro k y τ M' hy ⟨rfl,v3,rfl⟩;obtain⟨u,hu,rfl⟩:=Ps hy;have du:=Tm.deep_kid (AE hu);have e1:t.kids.take (k+1)=t.kids.take k++[u]:=by rw[BE,hu];rfl
   grind;have pu:=Tm.parts_of_kid (AE hu);refine⟨by ext,by ext,λp1 hp1=>?_⟩
   have e2:B6 t.kids=B6 (t.kids.take k)++u.leaves++B6 (t.kids.drop (k+1)):=by
    rw[<- kI,<- e1,<- wN,HH]
   rw[e2]at hl;simp only[As]at hl;rw[Dq];dsimp only;rw[Yk hp1,gE];refine⟨by rw[Ab,Ab];exact GR (by ext),?_,_,rfl⟩;rw[e1,kI,AM]
  .rintro τ M' ⟨rfl,v3,rfl⟩;refine⟨?_,v3,rfl⟩;rw[Ab,BD]
 .rintro τ M' ⟨rfl,v3,rfl⟩;grind;exact Dn.of (q p hM)
theorem wI (T:Tv P w K mg base):∀n:Nat,Od T T.x18 (n+3) (aZ n)
 |0=>by
  have no:∀ds M Q,¬aZ 0 ds M Q:=λds M Q h=>by
   obtain⟨x,rfl,h1⟩:=G4 h;obtain⟨t,e1',hd,hp,q⟩:_:=OV h1;have:=t.deep_pos;ext
  exact Yu no
 |n+1=>Zef T (wI T n)
theorem Eg.fil {α:Type}{ks:List α}{g:α->D}{f:α->Option D}{S:Mp->Prop}{caps:List (Str×Nat)}{tt:Ks}{te:DQ}{τ:Gy}{M:Mp}{Q:List D->Mp->Prop}(hz:ks.length<=Am)(hS:S M)
  (h:∀k∈ks,∀R:Bool->Mp->Prop,R (f k).isSome M->tt (LB τ caps (some (g k))) M R) (h2:∀k∈ks,∀d,f k=some d->∀R:Ef,R d M->te (LB τ caps (some (g k))) M R) (q:Q (ks.filterMap f) M):Eg (ks.map g) S caps tt te τ M Q:=by
 refine⟨by rw[Ab];exact hz,λi ys M'=>M'=M/\ys=(ks.take i).filterMap f,⟨rfl,rfl⟩,?_,?_,?_⟩
 .rintro i ys M' ⟨rfl,rfl⟩;exact⟨hS,A7 (LR _ _) (by rw[A6];ext)⟩
 .rintro i x ys M' hx ⟨rfl,rfl⟩;rw[AJ]at hx;cases e:ks[i]? with
  |none=>rw[e]at hx;cases hx
  |some k=>
   rw[e]at hx;cases hx;have et:ks.take (i+1)=ks.take i++[k]:=by rw[BE,e];rfl
   refine h k (AE e) _ ?_;cases fk:f k with
   |none=>rw[if_neg (by simp)];refine⟨rfl,?_⟩;rw[et,Nh];simp[fk]
   |some d=>rw[if_pos (by rfl)];refine h2 k (AE e) d fk _ ⟨rfl,?_⟩;rw[et,Nh];simp[fk]
 .rintro ys M' ⟨rfl,rfl⟩;rw[Ab,BD];exact q
theorem vR:((Al "box":Str)=Al "late")=False:=eq_false (by nofun)
theorem jV:((Al "box":Str)=Al "door")=False:=eq_false (by nofun)
theorem uJ:((Al "box":Str)=Al "num")=False:=eq_false (by nofun)
theorem vT:((Al "late":Str)=Al "box")=False:=eq_false (by nofun)
theorem jY:((Al "late":Str)=Al "door")=False:=eq_false (by nofun)
theorem vD:((Al "late":Str)=Al "num")=False:=eq_false (by nofun)
theorem jW:((Al "door":Str)=Al "box")=False:=eq_false (by nofun)
theorem kK:((Al "door":Str)=Al "late")=False:=eq_false (by nofun)
theorem vS:((Al "door":Str)=Al "num")=False:=eq_false (by nofun)
theorem uK:((Al "num":Str)=Al "box")=False:=eq_false (by nofun)
theorem vF:((Al "num":Str)=Al "late")=False:=eq_false (by nofun)
theorem vE:((Al "num":Str)=Al "door")=False:=eq_false (by nofun)
noncomputable def Tm.nameOf (form:Str):Tm->Option Str
 |.box x=>if form = "box" then some x else none
 |.late x=>if form = "late" then some x else none
 |.door x=>if form = "door" then some x else none
 |_=>none
theorem Qx:∀ss:List Str,Em (ss.map D.str)=some ss
 |[]=>rfl
 |s::ss=>by rw[AT,Em,Qx ss];rfl
def Ms (f:Str):Prop:=f = "box"\/f = "late"\/f = "door"
abbrev zo:Du:=λds M Q=>Fw ds λx f=>∃ls:List Tm,(∀l∈ls,l.kids=[])/\x=.lst (ls.map Tm.D)/\ls.length<=1000/\Gr f λform=>Ms form/\(fm (ls.filterMap (Tm.nameOf form))).length<64/\∀p,M p=none->Q (.ref p) (put M p (.lst ((Iv (ls.filterMap (Tm.nameOf form))).map D.str)))
theorem jX:Od T T.x19 1 zo:=by
 refine Cz.p2 T.x19.d.F ["leaves", "form"] λx f M Q hr nN h=>?_;obtain⟨ls,hk,e1',hl,h2⟩:_:=h;obtain⟨form,e1',hn,h64,q⟩:_:=D8 h2;refine⟨_,(qO (Cr (mD rfl T.B.sorted T.B.set (HK (caps:=[("form",1)]) ⟨rfl,by rfl,by rfl,by rfl,rfl,by rfl,by nofun⟩ rfl (Kr (qv 0)) (λ_ _ _ _ _ _=>(Bl BJ (qv 0) Ak)) (λ_ _ _ _ _ _=>(AV CJ (Bl BJ (qv 0) Ak) (qv 1))))))),?_⟩;right;refine Eg.fil (f:=λl=>(Tm.nameOf form l).map D.str) (GR hl) trivial ?_ ?_ ?_
 .intro k hkm R hR;have hkk:=hk k hkm;cases k<;>(try (simp[Tm.kids]at hkk;done))
  all_goals
   simp only[Tm.D];walk_at "cap";rcases hn with rfl|rfl|rfl<;>simpa[Tm.nameOf,vR,jV,uJ,vT,jY,vD,jW,kK,vS,uK,vF,vE]using hR
 .intro k hkm d hd R hR;have hkk:=hk k hkm;cases k<;>(try (simp[Tm.kids]at hkk;done))
  all_goals
   simp only[Tm.D];walk_at "cap";rcases hn with rfl|rfl|rfl<;>simp[Tm.nameOf,vR,jV,uJ,vT,jY,vD,jW,kK,vS,uK,vF,vE]at hd<;>(try (subst hd))<;>(try exact hR)
 .have e1:(ls.filterMap λl=>(Tm.nameOf form l).map D.str)=(ls.filterMap (Tm.nameOf form)).map D.str:=by
   rw[Pg]
  rw[e1,Qx];have:=LR (Tm.nameOf form) ls;refine⟨by unfold Be;ext,h64,?_⟩;intro p hp;exact Dn.of (q p hp)
theorem Tm.leaves_kids:∀(t:Tm),∀l∈t.leaves,l.kids=[]
 |.not t,l,h=>t.leaves_kids l h
 |.bin _ t u,l,h=>(AY.mp h).elim (t.leaves_kids l) (u.leaves_kids l)
 |.pick c t u,l,h=>(AY.mp h).elim (λh=>(AY.mp h).elim (c.leaves_kids l) (t.leaves_kids l)) (u.leaves_kids l)
 |.part t _ _,l,h=>t.leaves_kids l h
 |.num _ _,l,h | .box _,l,h | .late _,l,h | .door _,l,h=>by cases AO.mp h;rfl
noncomputable def Tm.names (form:Str)(t:Tm):List Str:=t.leaves.filterMap (Tm.nameOf form)
noncomputable def LZ (form:Str)(t:Tm):MO:=.lst ((Iv (t.names form)).map D.str)
abbrev tz:Du:=λds M Q=>Ga ds λx=>Cw (IU x) λt=>t.deep<=12/\t.parts<=1000/\(∀f,Ms f->(fm (t.names f)).length<64) /\
 ∀p0 p1 p2,M p0=none->M p1=none->M p2=none->p1≠p0->p2≠p0->p2≠p1->Q (.tup [.ref p0,.ref p1,.ref p2]) (put (put (put M p0 (LZ "box" t)) p1 (LZ "late" t)) p2 (LZ "door" t))
theorem aN:Od T T.x17 16 tz:=by
 refine Cz.p1 T.x17.d.F ["T", "leaves"] λx M Q hr nN h1=>?_;obtain⟨t,e1',hd,hp,h64,q⟩:_:=OV h1;refine⟨_,(qC (CA 1 nN (KW (Aw T.x18.d (wI T 12) nofun (qA (qv 0) qN)))) (qO (Cr (CC (qA (Aw T.x19.d (jX T) nofun (qA (qv 1) (qA BV qN))) (qA (Aw T.x19.d (jX T) nofun (qA (qv 1) (qA BV qN))) (qA (Aw T.x19.d (jX T) nofun (qA (qv 1) (qA BV qN))) qN))))))),?_⟩;right;have hl:=A7 t.leaves_len hp;refine⟨hd,hp,λp hM=>?_⟩;rw[Dq,Yk hM];dsimp only;refine⟨t.leaves,t.leaves_kids,rfl,hl,.inl rfl,h64 _ (.inl rfl),λp0 m0=>?_⟩;refine⟨t.leaves,t.leaves_kids,rfl,hl,.inr (.inl rfl),h64 _ (.inr (.inl rfl)),λp1 m1=>?_⟩;refine⟨t.leaves,t.leaves_kids,rfl,hl,.inr (.inr rfl),h64 _ (.inr (.inr rfl)),λp2 m2=>?_⟩;have n1:p1≠p0:=λe=>by rw[e,Dq]at m1;cases m1
 have n2:p2≠p1:=λe=>by rw[e,Dq]at m2;cases m2
 have m2':=jB m2;have n3:p2≠p0:=λe=>by rw[e,Dq]at m2';cases m2'
 (try grind)
 exact Dn.of (q p0 p1 p2 m0 (jB m1) (jB m2') n1 n3 n2)
theorem aA (ha:0<=a)(hb:0<=b):AB a b=2*AB (a / 2) (b / 2)+(a%2)*(b%2):=by
 obtain⟨m,rfl⟩:∃m:Nat,a=(m:Int):=⟨a.toNat,by ext⟩;obtain⟨n,rfl⟩:∃n:Nat,b=(n:Int):=⟨b.toNat,by ext⟩;rw[HV ha hb,HV (by ext) (by ext)];have e1:((m:Int) / 2).toNat=m / 2:=by ext
 have e2:((n:Int) / 2).toNat=n / 2:=by ext
 rw[e1,e2,Br,Br];have h1:(m &&& n) / 2=m / 2 &&& n / 2:=Nat.and_div_two;have h2:(m &&& n)%2=(m%2) &&& (n%2):=by have:=Nat.and_mod_two_pow (a:=m) (b:=n) (n:=1);simpa using this
 have h3:((m%2) &&& (n%2):Nat)=(m%2)*(n%2):=by
  have a1:m%2=0\/m%2=1:=by ext
  have a2:n%2=0\/n%2=1:=by ext
  rcases a1 with a1|a1<;>rcases a2 with a2|a2<;>rw[a1,a2]<;>rfl
 have h4:(m &&& n)=2*(m / 2 &&& n / 2)+(m%2)*(n%2):=by
  have:=Nat.div_add_mod (m &&& n) 2;rw[h1,h2,h3]at this;ext
 rw[h4]
 push_cast
 rfl
theorem NH (a:Int):a%2=0\/a%2=1:=by ext
theorem xg (ha:0<=a)(hb:0<=b):AB a b%2=(a%2)*(b%2)/\AB a b / 2=AB (a / 2) (b / 2):=by
 have h:=aA ha hb;rcases NH a with e|e<;>rcases NH b with e' | e'<;>rw[e,e']at h<;>rw[e,e']<;>ext
theorem vt (ha:0<=a)(hb:0<=b):AI a b%2=max (a%2) (b%2)/\AI a b / 2=AI (a / 2) (b / 2):=by
 have h:=aA ha hb;rw[FH,FH];rcases NH a with e|e<;>rcases NH b with e' | e'<;>rw[e,e']at h<;>rw[e,e']<;>ext
theorem yd (ha:0<=a)(hb:0<=b):Bd a b%2=(a%2+b%2)%2/\Bd a b / 2=Bd (a / 2) (b / 2):=by
 have h:=aA ha hb;unfold Bd;rw[FH,FH];rcases NH a with e|e<;>rcases NH b with e' | e'<;>rw[e,e']at h<;>rw[e,e']<;>ext
theorem aY {f:Int->Int->Int}(hf0:f 0 0=0)(h:∀a b,0<=a->0<=b->f a b / 2=f (a / 2) (b / 2)):∀w a b,0<=a->a<2^w->0<=b->b<2^w->0<=f a b/\f a b<2^w
 |0,a,b,ha,ha2,hb,hb2=>by
  have e1:a=0:=by simp at ha2;ext
  have e2:b=0:=by simp at hb2;ext
  rw[e1,e2,hf0];simp
 |w+1,a,b,ha,ha2,hb,hb2=>by
  rw[F3]at ha2 hb2 ⊢;have:=aY hf0 h w (a / 2) (b / 2) (by ext) (by ext) (by ext) (by ext);rw[<- h a b ha hb]at this;ext
noncomputable def Km:List Int->Int
 |[]=>0
 |m::ms=>(if m=1 then 1 else 0)+2*Km ms
noncomputable def Lf:List Int->Int
 |[]=>0
 |m::ms=>(if m=0 then 0 else 1)+2*Lf ms
def Mk (m:Int):Prop:=m=0\/m=1\/m=2
def K4 (ms:List Int):Prop:=∀m∈ms,Mk m
theorem S6:∀ms,0<=Km ms
 |[]=>Zf _
 |m::ms=>by
  have:=S6 ms;unfold Km;split<;>ext
theorem S5:∀ms,0<=Lf ms
 |[]=>Zf _
 |m::ms=>by
  have:=S5 ms;unfold Lf;split<;>ext
theorem nH:∀ms,Km ms<2^ms.length
 |[]=>by decide
 |m::ms=>by
  have:=nH ms;rw[AK,F3];unfold Km;split<;>ext
theorem mZ:∀ms,Lf ms<2^ms.length
 |[]=>by decide
 |m::ms=>by
  have:=mZ ms;rw[AK,F3];unfold Lf;split<;>ext
theorem m9 (m:Int)(ms:List Int):Km (m::ms)=(if m=1 then 1 else 0)+2*Km ms:=rfl
theorem kl (m:Int)(ms:List Int):Lf (m::ms)=(if m=0 then 0 else 1)+2*Lf ms:=rfl
noncomputable def andM (a b:Int):Int:=if a=0\/b=0 then 0 else if a=1/\b=1 then 1 else 2
noncomputable def orM (a b:Int):Int:=if a=1\/b=1 then 1 else if a=0/\b=0 then 0 else 2
theorem qH {b x:Int}(h:b=0\/b=1):(b+2*x)%2=b:=by rcases h with rfl | rfl<;>ext
theorem qG {b x:Int}(h:b=0\/b=1):(b+2*x) / 2=x:=by rcases h with rfl | rfl<;>ext
theorem xQ {c:Prop}[Decidable c]:(if c then(1:Int)else 0)=0\/(if c then(1:Int)else 0)=1:=by split<;>simp
theorem xP {c:Prop}[Decidable c]:(if c then(0:Int)else 1)=0\/(if c then(0:Int)else 1)=1:=by split<;>simp
theorem qB {a b x y:Int}(ha:a=0\/a=1)(hb:b=0\/b=1)(hx:0<=x)(hy:0<=y):AB (a+2*x) (b+2*y)=a*b+2*AB x y:=by
 have h:=aA (a:=a+2*x) (b:=b+2*y) (by rcases ha with rfl | rfl<;>ext) (by rcases hb with rfl | rfl<;>ext);rw[qH ha,qH hb,qG ha,qG hb]at h;ext
theorem X6 (ha:a=0\/a=1)(hb:b=0\/b=1)(hx:0<=x)(hy:0<=y):AI (a+2*x) (b+2*y)=(a+b-a*b)+2*AI x y:=by
 rw[FH,FH,qB ha hb hx hy];ext
theorem RW {w u:Int}(hw:0<=w)(hu:0<=u):AB w (-u-1)=w-AB w u:=by
 unfold AB;rw[decide_eq_true hw,decide_eq_false (show¬ 0<=-u-1 by ext),decide_eq_true hu];show w-((w.toNat &&& (D5 (-u-1)).toNat:Nat):Int)=w-((w.toNat &&& u.toNat:Nat):Int);rw[show D5 (-u-1)=u by unfold D5;ext]
theorem aB {a b x y:Int}(ha:a=0\/a=1)(hb:b=0\/b=1)(hx:0<=x)(hy:0<=y):AB (a+2*x) (-(b+2*y)-1)=(a-a*b)+2*AB x (-y-1):=by
 rw[RW (by rcases ha with rfl | rfl<;>ext) (by rcases hb with rfl | rfl<;>ext),qB ha hb hx hy,RW hx hy];ext
theorem oZ (hx:0<=x)(hy:0<=y):0<=AB x y:=by
 unfold AB;rw[decide_eq_true hx,decide_eq_true hy];exact Int.ofNat_nonneg _
theorem ZW (hx:0<=x)(hy:0<=y):AB x y<=y:=by
 obtain⟨m,rfl⟩:∃m:Nat,x=(m:Int):=⟨x.toNat,by ext⟩;obtain⟨n,rfl⟩:∃n:Nat,y=(n:Int):=⟨y.toNat,by ext⟩;unfold AB;rw[decide_eq_true hx,decide_eq_true hy];show((m &&& n:Nat):Int)<=n;exact Wm.mpr Nat.and_le_right
theorem km {x:Int}{w:Nat}(h0:0<=x)(h1:x<2^w):(-x-1)%2^w=2^w-1-x:=by
 rw[<- Int.add_emod_right (-x-1) (2^w)];rw[show -x-1+2^w=2^w-1-x by ext];exact Int.emod_eq_of_lt (by ext) (by ext)
noncomputable def bl (m:Int):Int:=if m=1 then 1 else 0
noncomputable def bh (m:Int):Int:=if m=0 then 0 else 1
theorem Qn (m):bl m=0\/bl m=1:=xQ
theorem Qo (m):bh m=0\/bh m=1:=xP
theorem R7 (m:Int)(ms:List Int):Km (m::ms)=bl m+2*Km ms:=rfl
theorem R6 (m:Int)(ms:List Int):Lf (m::ms)=bh m+2*Lf ms:=rfl
noncomputable def sl (x y c:Int):Int:=(bl x+bl y+bl c)%2
noncomputable def ob (a b:Int):Int:=a+b-a*b
noncomputable def b2 (m:Int):Int:=if m=2 then 1 else 0
theorem mE:Mk 1:=.inr (.inl rfl)
theorem iY (hx:0<=x):∀n {y:Int},0<=y->y<2^n->AI (x*2^n) y=y+2^n*x
 |0,y,h0,h1=>by
  have:y=0:=by rw[Wl]at h1;ext
  subst this;rw[FH,Zb,Wl];ext
 |n+1,y,h0,h1=>by
  have e1:x*2^(n+1)=0+2*(x*2^n):=by rw[F3,<- Vd];ext
  have e2:y=y%2+2*(y / 2):=by ext
  have hp:=VN n;rw[F3]at h1;have ih:=iY hx n (y:=y / 2) (by ext) (by ext);conv=>lhs;rw[e1,e2]
  rw[X6 (.inl rfl) (NH y) (Tu hx (by ext)) (by ext),ih,F3,Wn (2^n) 2,Vd];ext
noncomputable def MH (ms:List Int):D:=.tup [.int ms.length,.int (Km ms),.int (Lf ms)]
def YE (ms:List Int):Prop:=K4 ms/\1<=ms.length/\ms.length<=64
theorem ZF :Lv (MH ms) (.int 0) M Q=Q (.int ms.length) M:=rfl
theorem ZG :Lv (MH ms) (.int 1) M Q=Q (.int (Km ms)) M:=rfl
theorem ZH :Lv (MH ms) (.int 2) M Q=Q (.int (Lf ms)) M:=rfl
theorem bn (x):D5 x=-x-1:=by unfold D5;ext
theorem fK (hx:0<=x):AI x 0=x:=by
 have:=iY hx 0 (y:=0) (by decide) (by decide);simpa using this
theorem Qp {x:Int}(hx:0<=x):AB x (-0-1)=x:=by
 rw[RW hx (by decide)];have h:=ZW hx (show(0:Int)<=0 by decide);have h2:=oZ hx (show(0:Int)<=0 by decide);ext
theorem ZD (p):(0:Int)<=2^p:=Nl (VN p)
theorem ZT (p):(2:Int)^(p+1)=0+2*2^p:=by rw[F3];ext
theorem qK:∀(ms:List Int) (p:Nat),p<ms.length->Km (ms.set p 1)=AI (Km ms) (2^p)
 |m::ms,0,_=>by
  rw[Ci,R7,R7,show(2:Int)^0=1+2*0 by decide,X6 (Qn m) (.inr rfl) (S6 ms) (by decide),fK (S6 ms)];show(1:Int)+2*Km ms=_;rcases Qn m with e|e<;>rw[e]<;>ext
 |m::ms,p+1,h=>by
  rw[BR,R7,R7,ZT,X6 (Qn m) (.inl rfl) (S6 ms) (ZD p),qK ms p (Dk h)];ext
theorem iI (hv:v≠0):∀(ms:List Int) (p:Nat),p<ms.length->Lf (ms.set p v)=AI (Lf ms) (2^p)
 |m::ms,0,_=>by
  rw[Ci,R6,R6,show(2:Int)^0=1+2*0 by decide,X6 (Qo m) (.inr rfl) (S5 ms) (by decide),fK (S5 ms),show bh v=1 from if_neg hv];rcases Qo m with e|e<;>rw[e]<;>ext
 |m::ms,p+1,h=>by
  rw[BR,R6,R6,ZT,X6 (Qo m) (.inl rfl) (S5 ms) (ZD p),iI hv ms p (Dk h)];ext
theorem iM (hv:v≠1):∀(ms:List Int) (p:Nat),p<ms.length->Km (ms.set p v)=AB (Km ms) (-(2^p)-1)
 |m::ms,0,_=>by
  rw[Ci,R7,R7,show(2:Int)^0=1+2*0 by decide,aB (Qn m) (.inr rfl) (S6 ms) (by decide),Qp (S6 ms),show bl v=0 from if_neg hv];ext
 |m::ms,p+1,h=>by
  rw[BR,R7,R7,ZT,aB (Qn m) (.inl rfl) (S6 ms) (ZD p),iM hv ms p (Dk h)];ext
theorem pW:∀(ms:List Int) (p:Nat),p<ms.length->Lf (ms.set p 0)=AB (Lf ms) (-(2^p)-1)
 |m::ms,0,_=>by
  rw[Ci,R6,R6,show(2:Int)^0=1+2*0 by decide,aB (Qo m) (.inr rfl) (S5 ms) (by decide),Qp (S5 ms)];show(0:Int)+2*Lf ms=_;ext
 |m::ms,p+1,h=>by
  rw[BR,R6,R6,ZT,aB (Qo m) (.inl rfl) (S5 ms) (ZD p),pW ms p (Dk h)];ext
theorem oN:∀n,Km (Ay n 2)=0
 |0=>rfl
 |n+1=>by rw[CY,R7,oN n];rfl
theorem oE:∀n,Lf (Ay n 2)=2^n-1
 |0=>rfl
 |n+1=>by
  rw[CY,R6,oE n,F3];show(1:Int)+_=_;ext
abbrev Sn:=Int×Int×Int
noncomputable def Hb (s:Sn):L3.D:=.tup [.int s.1,.int s.2.1,.int s.2.2]
theorem gN :Lv (Hb s) (.int 0) M Q=Q (.int s.1) M:=rfl
theorem gO :Lv (Hb s) (.int 1) M Q=Q (.int s.2.1) M:=rfl
theorem gP :Lv (Hb s) (.int 2) M Q=Q (.int s.2.2) M:=rfl
noncomputable def Oo (a:Sn):Int:=Bd a.2.1 a.2.2
noncomputable def Vo (w x u:Int):Sn:=(w,AB x (-u-1),AI x u)
noncomputable def NF (s:Sn):Sn:=(s.1,(-s.2.2-1)%2^s.1.toNat,(-s.2.1-1)%2^s.1.toNat)
noncomputable def ON (a b:Sn)(c:Int):Sn:=Vo a.1 ((a.2.1+b.2.1+c)%2^a.1.toNat) (AI (AI (Oo a) (Oo b)) (Bd (Bd (Bd (a.2.1+b.2.1+c) a.2.1) b.2.1) (Bd (Bd (a.2.2+b.2.2+c) a.2.2) b.2.2))%2^a.1.toNat)
noncomputable def Ml (a b:Sn):Sn:=(1,if a.2.2<b.2.1 then 1 else 0,if a.2.1<b.2.2 then 1 else 0)
noncomputable def IW (a b:Sn):Sn:=if AB (Bd a.2.1 b.2.1) (-(AI (Oo a) (Oo b))-1)=0 then(1,if AI (Oo a) (Oo b)=0 then 1 else 0,1)else(1,0,0)
noncomputable def I0 (c a b:Sn):Sn:=if c.2.1=1 then a else if c.2.2=0 then b else(a.1,AB a.2.1 b.2.1,AI a.2.2 b.2.2)
noncomputable def Mm (a b:Sn):Sn:=(a.1+b.1,AI (a.2.1*2^b.1.toNat) b.2.1,AI (a.2.2*2^b.1.toNat) b.2.2)
noncomputable def Mi (s:Sn)(lo m:Int):Sn:=(m,s.2.1 / 2^lo.toNat%2^m.toNat,s.2.2 / 2^lo.toNat%2^m.toNat)
def Jt (w:Int)(x:Int):Prop:=0<=x/\x<2^w.toNat
structure Rg (s:Sn):Prop where
 w:1<=s.1/\s.1<=64
 l:Jt s.1 s.2.1
 h:Jt s.1 s.2.2
theorem ZK {w x y:Int}(hx:Jt w x)(hy:Jt w y):Jt w (AB x y):=aY (by decide) (λa b ha hb=>(xg ha hb).2) w.toNat x y hx.1 hx.2 hy.1 hy.2
theorem X3 {w x y:Int}(hx:Jt w x)(hy:Jt w y):Jt w (AI x y):=aY (by decide) (λa b ha hb=>(vt ha hb).2) w.toNat x y hx.1 hx.2 hy.1 hy.2
theorem pO {w x y:Int}(hx:Jt w x)(hy:Jt w y):Jt w (Bd x y):=aY (by decide) (λa b ha hb=>(yd ha hb).2) w.toNat x y hx.1 hx.2 hy.1 hy.2
theorem Uk (w x:Int):Jt w (x%2^w.toNat):=⟨Cc _ (by have:=VN w.toNat;ext),BM _ (VN _)⟩
theorem mX {w x u:Int}(hw:1<=w/\w<=64)(hx:Jt w x)(hu:Jt w u):Rg (Vo w x u):=by
 refine⟨hw,?_,X3 hx hu⟩;have a1:=oZ hx.1 hu.1;have a2:=ZK hx hu;have e:=RW hx.1 hu.1
 have a3:AB x u<=x:=by
  have:=ZW hu.1 hx.1;rw[show AB x u=AB u x by rw[HV hx.1 hu.1,HV hu.1 hx.1,Wf]];exact this
 have:=hx.2;show Jt w (AB x (-u-1));rw[e];exact⟨by ext,by ext⟩
theorem oR (h:Rg s):Rg (NF s):=⟨h.w,Uk _ _,Uk _ _⟩
theorem mV (h:Rg s):Jt s.1 (Oo s):=pO h.l h.h
theorem pI (ha:Rg a)(c:Int):Rg (ON a b c):=mX ha.w (Uk _ _) (Uk _ _)
theorem gV (c:Prop)[Decidable c]:Jt 1 (if c then 1 else 0):=by split<;>exact⟨by decide,by decide⟩
theorem m8 (a b:Sn):Rg (Ml a b):=⟨⟨by show(1:Int)<=1;decide,by show(1:Int)<=64;decide⟩,gV _,gV _⟩
theorem o9 (a b:Sn):Rg (IW a b):=by
 unfold IW;split
 .exact⟨⟨by show(1:Int)<=1;decide,by show(1:Int)<=64;decide⟩,gV _,⟨by show(0:Int)<=1;decide,by show(1:Int)<2^(1:Int).toNat;decide⟩⟩
 .exact⟨⟨by show(1:Int)<=1;decide,by show(1:Int)<=64;decide⟩,⟨by show(0:Int)<=0;decide,by show(0:Int)<2^(1:Int).toNat;decide⟩,⟨by show(0:Int)<=0;decide,by show(0:Int)<2^(1:Int).toNat;decide⟩⟩
theorem hW (e:a.1=b.1)(ha:Rg a)(hb:Rg b){f g:Int->Int->Int}(hf:∀{w x y:Int},Jt w x->Jt w y->Jt w (f x y))(hg:∀{w x y:Int},Jt w x->Jt w y->Jt w (g x y)):Rg (a.1,f a.2.1 b.2.1,g a.2.2 b.2.2):=⟨ha.w,hf ha.l (e ▸ hb.l),hg ha.h (e ▸ hb.h)⟩
theorem lj (e:a.1=b.1)(ha:Rg a)(hb:Rg b):Rg (I0 c a b):=by
 unfold I0;split
 .exact ha
 .split
  .exact hb
  .exact hW e ha hb ZK X3
theorem pZ {v w x y:Int}(hv:1<=v)(hw:1<=w)(hx:Jt v x)(hy:Jt w y):Jt (v+w) (AI (x*2^w.toNat) y):=by
 rw[iY hx.1 _ hy.1 hy.2];have p:=VN w.toNat
 have e:(2:Int)^(v+w).toNat=2^w.toNat*2^v.toNat:=by rw[show(v+w).toNat=w.toNat+v.toNat by ext,Int.pow_add]
 have m0:=Tu (Nl p) hx.1;have m1:=Int.mul_le_mul_of_nonneg_left (show x+1<=2^v.toNat by have:=hx.2;ext) (Nl p);rw[Int.mul_add,Ze]at m1;have:=hy.1;have:=hy.2;refine⟨by ext,?_⟩;rw[e];ext
theorem ku {a b:Sn}(ha:Rg a)(hb:Rg b)(h:a.1+b.1<=64):Rg (Mm a b):=⟨⟨by show 1<=a.1+b.1;have:=ha.w;have:=hb.w;ext,h⟩,pZ ha.w.1 hb.w.1 ha.l hb.l,pZ ha.w.1 hb.w.1 ha.h hb.h⟩
theorem om {lo m:Int}(h:1<=m/\m<=64):Rg (Mi s lo m):=⟨h,Uk _ _,Uk _ _⟩
def GV (s:Sn):Prop:=s.2.1=s.2.2
theorem rV (h:0<=x):Bd x x=0:=by
 have e:AB x x=x:=by rw[HV h h,Nat.and_self];ext
 unfold Bd;rw[FH,e];ext
theorem Vv (h:Rg s)(k:GV s):Oo s=0:=by unfold Oo;rw[<- k];exact rV h.l.1
theorem mW {w x:Int}(h:0<=x):GV (Vo w x 0):=by
 show AB x (-0-1)=AI x 0;rw[Qp h,fK h]
theorem oQ (k:GV s):GV (NF s):=by unfold GV NF at *;rw[k]
theorem pH (ha:Rg a)(hb:Rg b)(hc:0<=c)(ka:GV a)(kb:GV b):GV (ON a b c):=by
 unfold ON;rw[Vv ha ka,Vv hb kb,<- ka,<- kb]
 have nn:∀{x y:Int},0<=x->0<=y->0<=Bd x y:=λ{x y} hx hy=>by
  unfold Bd;have h1:=FH x y;have h2:=ZW hx hy;have h3:=ZW hy hx;rw[show AB y x=AB x y by rw[HV hx hy,HV hy hx,Wf]]at h3;rw[h1];ext
 have n0:0<=a.2.1+b.2.1+c:=by have:=ha.l.1;have:=hb.l.1;ext
 rw[rV (nn (nn n0 ha.l.1) hb.l.1),show AI (AI 0 0) 0%2^a.1.toNat=0 by rw[show AI (AI 0 0) 0=(0:Int) by decide,Int.zero_emod]];exact mW (Uk _ _).1
theorem m7 (ka:GV a)(kb:GV b):GV (Ml a b):=by
 show(if a.2.2<b.2.1 then(1:Int)else 0)=if a.2.1<b.2.2 then 1 else 0
 rw[ka,kb]
theorem o8 (ha:Rg a)(hb:Rg b)(ka:GV a)(kb:GV b):GV (IW a b):=by
 unfold IW;rw[Vv ha ka,Vv hb kb,show AI 0 0=(0:Int) by decide];split
 .rfl
 .rfl
theorem li (hc:Rg c)(h1:c.1=1)(kc:GV c)(ka:GV a)(kb:GV b):GV (I0 c a b):=by
 unfold I0;split
 .exact ka
 .next n1=>
  rw[if_pos]
  .exact kb
  .have h:=hc.l;rw[h1]at h;have:c.2.1<2:=h.2;have:=h.1;rw[<- kc];ext
theorem kt (ka:GV a)(kb:GV b):GV (Mm a b):=by unfold GV Mm at *;dsimp only;rw[ka,kb]
theorem oh (k:GV s)(lo m:Int):GV (Mi s lo m):=by unfold GV Mi at *;dsimp only;rw[k]
noncomputable def RD (o:Gk)(a b:Sn):Sn:=match o with
 |.and=>(a.1,AB a.2.1 b.2.1,AB a.2.2 b.2.2)
 |.or=>(a.1,AI a.2.1 b.2.1,AI a.2.2 b.2.2)
 |.xor=>Vo a.1 (Bd a.2.1 b.2.1) (AI (Oo a) (Oo b))
 |.plus=>ON a b 0
 |.minus=>ON a (NF b) 1
 |.less=>Ml a b
 |.same=>IW a b
 |.join=>Mm a b
noncomputable def n0:Sn:=(1,0,0)
noncomputable def Tm.rv (t:Tm)(hs:List Sn):Sn:=match t with
 |.not _=>NF (hs.headD n0)
 |.bin o _ _=>RD o (hs.headD n0) (hs.tail.headD n0)
 |.pick _ _ _=>I0 (hs.headD n0) (hs.tail.headD n0) (hs.tail.tail.headD n0)
 |.part _ lo m=>Mi (hs.headD n0) lo m
 |_=>n0
structure YF where
 b:Str->Sn
 l:Str->Sn
 d:Str->Sn
noncomputable def Tm.rs (e:YF):Tm->Sn
 |.num w n=>(w,n,n)
 |.box x=>e.b x
 |.late x=>e.l x
 |.door x=>e.d x
 |.not t=>(Tm.not t).rv [t.rs e]
 |.bin o t u=>(Tm.bin o t u).rv [t.rs e,u.rs e]
 |.pick c t u=>(Tm.pick c t u).rv [c.rs e,t.rs e,u.rs e]
 |.part t lo m=>(Tm.part t lo m).rv [t.rs e]
theorem Tm.rs_kids {t:Tm}(h:t.kids≠[]):t.rs e=t.rv (t.kids.map (Tm.rs e)):=by cases t<;>first | exact absurd rfl h | rfl
theorem Oe (h:l.length=n+1):∃a r,l=a::r/\r.length=n:=by cases l with
 |nil=>cases h
 |cons a r=>exact⟨a,r,rfl,GP h⟩
theorem zW {t:Tm}{w:Int}(ho:t.over (hs.map (·.1))=some w)(hall:∀s∈hs,Rg s):(Rg (t.rv hs)/\(t.rv hs).1=w)/\((∀s∈hs,GV s)->GV (t.rv hs)):=by
 obtain⟨hl,-⟩:=Tm.over_len ho;rw[Ab]at hl;cases t with
 |not u=>
  obtain⟨a,r,rfl,e0⟩:=Oe hl;cases AD e0;have ha:=hall a (by simp);have e:a.1=w:=by simpa[Tm.over]using ho
  exact⟨⟨oR ha,e⟩,λk=>oQ (k a (by simp))⟩
 |part u lo m=>obtain⟨a,r,rfl,e0⟩:=Oe hl;cases AD e0;have ha:=(hall a (by simp)).w;obtain⟨⟨b1,b2,b3⟩,e⟩:=aG ho;have b3:lo+m<=a.1:=b3;exact⟨⟨om ⟨b2,by ext⟩,e.symm⟩,λk=>oh (k a (by simp)) _ _⟩
 |pick c u v=>
  obtain⟨c,r,rfl,e0⟩:=Oe hl;obtain⟨a,r,rfl,e1⟩:=Oe e0;obtain⟨b,r,rfl,e2⟩:=Oe e1;cases AD e2;obtain⟨q1,q2,q3⟩:=jH ho;have q2:a.1=b.1:=q2;have q3:w=a.1:=q3;refine⟨⟨lj q2 (hall a (by simp)) (hall b (by simp)),?_⟩,λk=>li (hall c (by simp)) q1 (k c (by simp)) (k a (by simp)) (k b (by simp))⟩;show(I0 c a b).1=w;unfold I0;split
  .exact q3.symm
  .split
   .rw[<- q2];exact q3.symm
   .exact q3.symm
 |bin o u v=>
  obtain⟨a,r,rfl,e0⟩:=Oe hl;obtain⟨b,r,rfl,e1⟩:=Oe e0;cases AD e1;have ha:=hall a (by simp);have hb:=hall b (by simp);show(Rg (RD o a b)/\(RD o a b).1=w)/\_;have kk:∀{P:Prop},(GV a->GV b->P)->(∀s∈[a,b],GV s)->P:=λf k=>f (k a (by simp)) (k b (by simp));cases o with
  |join=>obtain⟨q1,q2⟩:=jG ho;exact⟨⟨ku ha hb q1,q2.symm⟩,kk kt⟩
  |less=>obtain⟨-,q2⟩:=Yv (.inl rfl) ho;exact⟨⟨m8 a b,q2.symm⟩,kk m7⟩
  |same=>obtain⟨-,q2⟩:=Yv (.inr rfl) ho;refine⟨⟨o9 a b,?_⟩,kk (o8 ha hb)⟩;show(IW a b).1=w;unfold IW;split<;>exact q2.symm
  |and=>obtain⟨q1,q2⟩:=Uv (by simp) (by simp) (by simp) ho;exact⟨⟨hW q1 ha hb ZK ZK,q2.symm⟩,kk λk1 k2=>by show AB a.2.1 b.2.1=AB a.2.2 b.2.2;rw[k1,k2]⟩
  |or=>obtain⟨q1,q2⟩:=Uv (by simp) (by simp) (by simp) ho;exact⟨⟨hW q1 ha hb X3 X3,q2.symm⟩,kk λk1 k2=>by show AI a.2.1 b.2.1=AI a.2.2 b.2.2;rw[k1,k2]⟩
  |xor=>obtain⟨q1,q2⟩:=Uv (by simp) (by simp) (by simp) ho;have q1:a.1=b.1:=q1;have x:=pO ha.l (q1 ▸ hb.l);refine⟨⟨mX ha.w x (X3 (mV ha) (q1 ▸ mV hb)),q2.symm⟩,kk λk1 k2=>?_⟩;show GV (Vo a.1 (Bd a.2.1 b.2.1) (AI (Oo a) (Oo b)));rw[Vv ha k1,Vv hb k2,show AI 0 0=(0:Int) by decide];exact mW x.1
  |plus=>obtain⟨q1,q2⟩:=Uv (by simp) (by simp) (by simp) ho;exact⟨⟨pI ha 0,q2.symm⟩,kk λk1 k2=>pH ha hb (by decide) k1 k2⟩
  |minus=>obtain⟨q1,q2⟩:=Uv (by simp) (by simp) (by simp) ho;exact⟨⟨pI ha 1,q2.symm⟩,kk λk1 k2=>pH ha (oR hb) (by decide) k1 (oQ k2)⟩
 |_=>cases ho
noncomputable def fL (lo hi:Int):Int:=if lo%2=hi%2 then lo%2 else 2
theorem Tc (h:M p=none):JU (put M p o) p=M:=by
 funext b;unfold JU put;by_cases e:b=p
 .simp[e,h]
 .simp[e]
abbrev zn:Du:=λds M Q=>Ga ds λx=>∃s:Sn,x=Hb s/\s.1=1/\∀p,M p=none->Q (.ref p) (put M p (.lst [.int (fL s.2.1 s.2.2)]))
local macro_rules | `(tactic| simp_all_arith! [$xs,*])=>`(tactic| simp_all_arith [VD,Ux,Yp,Yq,ZV,VA,↓ZF,↓ZG,↓ZH,bn,↓gN,↓gO,↓gP,$xs,*])
theorem zg:Od T T.x20 2 zn:=by
 refine Cz.p1 T.x20.d.F ["span", "lows", "highs"] λx M Q hr nN h=>?_;obtain⟨s,rfl,hs,q⟩:=h;refine⟨_,(qC (CA 1 nN (KW (Aw T.x5.d (uL T) nofun (qA (Bl BJ (qv 0) Ak) (qA (Bl BJ (qv 0) Ak) qN))))) (qC (CA 2 nN (KW (Aw T.x5.d (uL T) nofun (qA (Bl BJ (qv 0) Ak) (qA (Bl BJ (qv 0) Ak) qN))))) (qO (Cr (TX (ns:=["high"]) (caps:=[]) ⟨⟨rfl,by rfl,by rfl,by rfl,rfl,by rfl,by nofun⟩,by rfl,by nofun⟩ rfl (fo T.B.zip (qA (qv 1) (qA (qv 2) qN))) (λ_ _ _ _ _ _=>(Jq (AV CJ (qv 0) (qv 1)) (qv 0) Ak)) (λ_ _ _ _ _ _=>(Mq (LD (show(["low", "high"]:List Str).Nodup by nofun) rfl (Cd rfl)) (Mq (LD (show(["low", "high"]:List Str).Nodup by nofun) rfl (Cd rfl)) Ur)))))))),?_⟩;right;rw[hs];refine⟨by decide,λp hp=>?_⟩;rw[Dq];dsimp only;rw[Tc hp];refine⟨by decide,λp' hp'=>?_⟩;rw[Dq];dsimp only;rw[Tc hp'];refine Lh.ints (λx y=>if x=y then x else 2) (GR (by rw[tF];decide)) trivial (λx y hxy R r=>?_) ?_
 .simp only[capT,AT,DB,ED,FE];grind;split at r
  .next h=>rw[if_pos h];exact r
  .next h=>rw[if_neg h];exact r
 .intro p2 hp2;have e2:∀x,HE (1:Int).toNat x=[x%2]:=λx=>by rw[show(1:Int).toNat=0+1 from rfl,xk];rfl
  rw[e2,e2];exact Dn.of (q p2 hp2)
abbrev Zd8:Du:=λds M Q=>Ga ds λx=>EQ x λn=>(1<=n/\n<=64)/\Q (MH (Ay n.toNat 2)) M
theorem Zdo:Od T T.x21 2 Zd8:=by
 refine Cz.p1 T.x21.d.F ["width"] λx M Q hr nN h1=>?_;obtain⟨n,e1',⟨n1,n64⟩,q⟩:_:=CU h1;refine⟨_,(qO (Cr (CC (qA (qv 0) (qA Ak (qA (Aw T.x4.d (Uj T) nofun (qA (qv 0) (qA (Q0 ZJ Ak) qN))) qN)))))),?_⟩;unfold MH at q;rw[oN,oE,Bn,show((n.toNat:Nat):Int)=n by ext]at q;right;refine⟨⟨by ext,by ext⟩,?_⟩;have e:=km (x:=0) (w:=n.toNat) (by decide) (VN _);rw[show(-1:Int)=-0-1 by decide,e,Int.sub_zero];exact Dn.of q
abbrev Τ:Du:=λds M Q=>Jd ds λx y z=>∃(ms:List Int) (p:Nat) (m:Int),x=MH ms/\y=.int p/\z=.int m/\YE ms/\p<ms.length/\Mk m/\Q (MH (ms.set p m)) M
theorem zy:Od T T.x22 1 Τ:=by
 refine Cz.p3 T.x22.d.F ["span", "place", "mark", "bit", "low", "high"] λx y z M Q hr nN h=>?_;obtain⟨ms,p,m,e1',e2',e3',hs,hp,hm,q⟩:_:=h;refine⟨_,(qC (CA 3 nN (BB Vr Ak (qv 1))) (qC (CA 4 nN (Jq (AV CJ (qv 2) Ak) (BB JO (Bl BJ (qv 0) Ak) (qv 3)) (BB S7 (Bl BJ (qv 0) Ak) (Q0 Vy (qv 3))))) (qC (CA 5 nN (Jq (AV CJ (qv 2) Ak) (BB S7 (Bl BJ (qv 0) Ak) (Q0 Vy (qv 3))) (BB JO (Bl BJ (qv 0) Ak) (qv 3)))) (qO (Cr (CC (qA (Bl BJ (qv 0) Ak) (qA (qv 4) (qA (qv 5) qN))))))))),?_⟩;unfold MH at q;rw[List.length_set]at q;have p64:p<64:=by have:=hs.2.2;ext
 have cp:OY 1 (p:Int):=⟨by ext,by ext,by decide⟩;rcases hm with rfl|rfl|rfl<;>(simp only[Md,Mb,Mc];simp -implicitDefEqProofs only[↓nU,↓Xm,↓Xn,↓lY,↓Xf,↓Xj,↓Xl,↓Xo,↓pE,↓Xe,↓nO,↓gK,Wj,decide_false,FV,↓reduceIte,↓Xg,↓ZG,↓Xh,↓Xd,↓Xi,↓nT,↓Xk,decide_true,↓ZH,↓nS,↓nV,↓oX,↓ZF,↓Xc,↓Xb,↓nQ,bn,AK,EB,Ey,L7,Rs,lW,true_and];rw[UW,Br])
 .rw[iM (by decide) ms p hp,pW ms p hp]at q;exact⟨cp,Dn.of q⟩
 .rw[qK ms p hp,iI (by decide) ms p hp]at q;exact⟨cp,Dn.of q⟩
 .rw[iM (by decide) ms p hp,iI (by decide) ms p hp]at q;exact⟨cp,Dn.of q⟩
abbrev tq:Du:=λds M Q=>Ga ds λx=>∃s,x=Hb s/\Q (.int (Oo s)) M
theorem VM:Od T T.x26 1 tq:=by
 refine Cz.p1 T.x26.d.F ["span"] λx M Q hr nN h=>?_;obtain⟨s,rfl,q⟩:=h;refine⟨_,(qO (Cr (BB S8 (Bl BJ (qv 0) Ak) (Bl BJ (qv 0) Ak)))),?_⟩;right;exact Dn.of q
abbrev Ν:Du:=λds M Q=>Fw ds λx y=>∃a b,x=Hb a/\y=Hb b/\Q (Hb (IW a b)) M
theorem Η:Od T T.x31 2 Ν:=by
 refine Cz.p2 T.x31.d.F ["one", "other", "unknown"] λx y M Q hr nN h=>?_;obtain⟨a,b,e1',e2',q⟩:_:=h;refine⟨_,(qC (CA 2 nN (BB JO (Aw T.x26.d (VM T) nofun (qA (qv 0) qN)) (Aw T.x26.d (VM T) nofun (qA (qv 1) qN)))) (qC (Ep (AV Xy (BB S7 (BB S8 (Bl BJ (qv 0) Ak) (Bl BJ (qv 1) Ak)) (Q0 Vy (qv 2))) Ak) (qO (Cr (CC (XZ (.int (.int (.int .nil))))))) qE) (qO (Cr (CC (qA Ak (qA (Jq (AV CJ (qv 2) Ak) Ak Ak) (qA Ak qN)))))))),?_⟩;right;refine⟨a,rfl,b,rfl,?_⟩
 (try grind)
 unfold IW at q;refine Cy (λc=>?_) λc=>?_
 .rw[if_neg c]at q;exact Dn.of q
 .rw[if_pos (Decidable.not_not.mp c)]at q;refine Cy (λd=>?_) λd=>?_
  .rw[if_pos d]at q;exact Dn.of q
  .rw[if_neg d]at q;exact Dn.of q
abbrev wy:Du:=λds M Q=>Jd ds λx y z=>∃i a b:Int,x=.int i/\y=.int a/\z=.int b/\Q (Hb (Vo i a b)) M
theorem uM:Od T T.x27 1 wy:=by
 refine Cz.p3 T.x27.d.F ["width", "word", "unknown"] λx y z M Q hr nN h=>?_;obtain⟨i,a,b,e1',e2',e3',q⟩:_:=h;refine⟨_,(qO (Cr (CC (qA (qv 0) (qA (BB S7 (qv 1) (Q0 Vy (qv 2))) (qA (BB JO (qv 1) (qv 2)) qN)))))),?_⟩;right;exact Dn.of q
abbrev zq:Du:=λds M Q=>Jd ds λx y z=>∃(a b:Sn) (c:Int),x=Hb a/\y=Hb b/\z=.int c/\(1<=a.1/\a.1<=64)/\Q (Hb (ON a b c)) M
theorem vI:Od T T.x29 2 zq:=by
 refine Cz.p3 T.x29.d.F ["one", "other", "carry", "low", "high", "low_carries", "high_carries", "unknown"] λx y z M Q hr nN h=>?_;obtain⟨a,b,c,e1',e2',e3',hw,q⟩:_:=h;refine⟨_,(qC (CA 3 nN (BB Hl (BB Hl (Bl BJ (qv 0) Ak) (Bl BJ (qv 1) Ak)) (qv 2))) (qC (CA 4 nN (BB Hl (BB Hl (Bl BJ (qv 0) Ak) (Bl BJ (qv 1) Ak)) (qv 2))) (qC (CA 5 nN (BB S8 (BB S8 (qv 3) (Bl BJ (qv 0) Ak)) (Bl BJ (qv 1) Ak))) (qC (CA 6 nN (BB S8 (BB S8 (qv 4) (Bl BJ (qv 0) Ak)) (Bl BJ (qv 1) Ak))) (qC (CA 7 nN (BB JO (BB JO (Aw T.x26.d (VM T) nofun (qA (qv 0) qN)) (Aw T.x26.d (VM T) nofun (qA (qv 1) qN))) (BB S8 (qv 5) (qv 6)))) (qO (Cr (Aw T.x27.d (uM T) nofun (qA (Bl BJ (qv 0) Ak) (qA (Aw T.x4.d (Uj T) nofun (qA (Bl BJ (qv 0) Ak) (qA (qv 3) qN))) (qA (Aw T.x4.d (Uj T) nofun (qA (Bl BJ (qv 0) Ak) (qA (qv 7) qN))) qN))))))))))),?_⟩;right;refine⟨a,rfl,b,rfl,?_⟩
 (try grind)
 exact⟨⟨by ext,by ext⟩,⟨by ext,by ext⟩,_,_,_,rfl,rfl,rfl,Dn.of q⟩
abbrev η:Du:=λds M Q=>Fw ds λx y=>∃a b,x=Hb a/\y=Hb b/\Q (Hb (Ml a b)) M
theorem ω:Od T T.x30 1 η:=by
 refine Cz.p2 T.x30.d.F ["one", "other"] λx y M Q hr nN h=>?_;obtain⟨a,b,e1',e2',q⟩:_:=h;refine⟨_,(qO (Cr (CC (qA Ak (qA (Jq (AV KY (Bl BJ (qv 0) Ak) (Bl BJ (qv 1) Ak)) Ak Ak) (qA (Jq (AV KY (Bl BJ (qv 0) Ak) (Bl BJ (qv 1) Ak)) Ak Ak) qN)))))),?_⟩;right;unfold Ml Hb at q;by_cases c1:a.2.2<b.2.1<;>by_cases c2:a.2.1<b.2.2<;>simp only[c1,c2,if_true,if_false]at q ⊢<;>exact Dn.of q
abbrev zp:Du:=λds M Q=>Ga ds λx=>∃s:Sn,x=Hb s/\(1<=s.1/\s.1<=64)/\Q (Hb (NF s)) M
theorem vH:Od T T.x28 2 zp:=by
 refine Cz.p1 T.x28.d.F ["span"] λx M Q hr nN h=>?_;obtain⟨s,rfl,hw,q⟩:=h;refine⟨_,(qO (Cr (CC (qA (Bl BJ (qv 0) Ak) (qA (Aw T.x4.d (Uj T) nofun (qA (Bl BJ (qv 0) Ak) (qA (Q0 Vy (Bl BJ (qv 0) Ak)) qN))) (qA (Aw T.x4.d (Uj T) nofun (qA (Bl BJ (qv 0) Ak) (qA (Q0 Vy (Bl BJ (qv 0) Ak)) qN))) qN)))))),?_⟩;right;exact⟨⟨by ext,by ext⟩,⟨by ext,by ext⟩,Dn.of q⟩
abbrev Ze5:Du:=λds M Q=>Jd ds λx y z=>∃(o:Gk) (a b:Sn),x=.str o.nm/\y=Hb a/\z=Hb b/\(1<=a.1/\a.1<=64)/\(1<=b.1/\b.1<=64)/\o≠.join/\Q (Hb (RD o a b)) M
theorem Zee:Od T T.x25 3 Ze5:=by
 refine Cz.p3 T.x25.d.F ["form", "one", "other"] λx y z M Q hr nN h=>?_;obtain⟨o,a,b,e1',e2',e3',ha,hb,hj,q⟩:_:=h;refine⟨_,(qC (Ep (AV CJ (qv 0) BV) (qO (Cr (CC (qA (Bl BJ (qv 1) Ak) (qA (BB S7 (Bl BJ (qv 1) Ak) (Bl BJ (qv 2) Ak)) (qA (BB S7 (Bl BJ (qv 1) Ak) (Bl BJ (qv 2) Ak)) qN)))))) qE) (qC (Ep (AV CJ (qv 0) BV) (qO (Cr (CC (qA (Bl BJ (qv 1) Ak) (qA (BB JO (Bl BJ (qv 1) Ak) (Bl BJ (qv 2) Ak)) (qA (BB JO (Bl BJ (qv 1) Ak) (Bl BJ (qv 2) Ak)) qN)))))) qE) (qC (Ep (AV CJ (qv 0) BV) (qO (Cr (Aw T.x27.d (uM T) nofun (qA (Bl BJ (qv 1) Ak) (qA (BB S8 (Bl BJ (qv 1) Ak) (Bl BJ (qv 2) Ak)) (qA (BB JO (Aw T.x26.d (VM T) nofun (qA (qv 1) qN)) (Aw T.x26.d (VM T) nofun (qA (qv 2) qN))) qN)))))) qE) (qC (Ep (AV CJ (qv 0) BV) (qO (Cr (Aw T.x29.d (vI T) nofun (qA (qv 1) (qA (qv 2) (qA Ak qN)))))) qE) (qC (Ep (AV CJ (qv 0) BV) (qO (Cr (Aw T.x29.d (vI T) nofun (qA (qv 1) (qA (Aw T.x28.d (vH T) nofun (qA (qv 2) qN)) (qA Ak qN)))))) qE) (qC (Ep (AV CJ (qv 0) BV) (qO (Cr (Aw T.x30.d (ω T) nofun (qA (qv 1) (qA (qv 2) qN))))) qE) (qO (Cr (Aw T.x31.d (Η T) nofun (qA (qv 1) (qA (qv 2) qN))))))))))),?_⟩;cases o<;>simp only[Gk.nm]
 case and=>
  right;exact Dn.of q
 case or=>
  right;exact Dn.of q
 case xor=>
  right;rw[if_neg (by nofun),if_neg (by nofun)];exact⟨a,rfl,b,rfl,_,_,_,rfl,rfl,rfl,Dn.of q⟩
 case plus=>
  right;exact⟨a,b,0,rfl,rfl,rfl,ha,Dn.of q⟩
 case minus=>
  right;exact⟨b,rfl,hb,a,NF b,1,rfl,rfl,rfl,ha,Dn.of q⟩
 case less=>
  right;exact⟨a,b,rfl,rfl,Dn.of q⟩
 case same=>
  right;exact⟨a,b,rfl,rfl,Dn.of q⟩
 case join=>exact absurd rfl hj
abbrev Ι:Du:=λds M Q=>Jd ds λx y z=>∃(s:Sn) (lo m:Int),x=Hb s/\y=.int lo/\z=.int m/\(0<=lo/\1<=m/\m<=64)/\Q (Hb (Mi s lo m)) M
theorem Β:Od T T.x34 2 Ι:=by
 refine Cz.p3 T.x34.d.F ["span", "low", "many"] λx y z M Q hr nN h=>?_;obtain⟨ms,lo,m,e1',e2',e3',⟨h0,h1,h2⟩,q⟩:_:=h;refine⟨_,(qO (Cr (CC (qA (qv 2) (qA (Aw T.x4.d (Uj T) nofun (qA (qv 2) (qA (BB gG (Bl BJ (qv 0) Ak) (qv 1)) qN))) (qA (Aw T.x4.d (Uj T) nofun (qA (qv 2) (qA (BB gG (Bl BJ (qv 0) Ak) (qv 1)) qN))) qN)))))),?_⟩;right;exact⟨h0,⟨by ext,by ext⟩,h0,⟨by ext,by ext⟩,Dn.of q⟩
abbrev Κ:Du:=λds M Q=>Jd ds λx y z=>∃c a b,x=Hb c/\y=Hb a/\z=Hb b/\Q (Hb (I0 c a b)) M
theorem Δ:Od T T.x32 1 Κ:=by
 refine Cz.p3 T.x32.d.F ["chosen", "one", "other"] λx y z M Q hr nN h=>?_;obtain⟨c,a,b,e1',e2',e3',q⟩:_:=h;refine⟨_,(qC (Ep (AV CJ (Bl BJ (qv 0) Ak) Ak) (qO (Cr (qv 1))) qE) (qC (Ep (AV CJ (Bl BJ (qv 0) Ak) Ak) (qO (Cr (qv 2))) qE) (qO (Cr (CC (qA (Bl BJ (qv 1) Ak) (qA (BB S7 (Bl BJ (qv 1) Ak) (Bl BJ (qv 2) Ak)) (qA (BB JO (Bl BJ (qv 1) Ak) (Bl BJ (qv 2) Ak)) qN)))))))),?_⟩;right;unfold I0 at q;refine Cy (λd=>?_) λd=>Cy (λd2=>?_) λd2=>?_
 .rw[if_pos d]at q;exact Dn.of q
 .rw[if_neg d,if_pos d2]at q;exact Dn.of q
 .rw[if_neg d,if_neg d2]at q;exact Dn.of q
abbrev ζ:Du:=λds M Q=>Fw ds λx y=>∃a b,x=Hb a/\y=Hb b/\Rg a/\Rg b/\Q (Hb (Mm a b)) M
theorem ψ:Od T T.x33 1 ζ:=by
 refine Cz.p2 T.x33.d.F ["one", "other"] λx y M Q hr nN h=>?_;obtain⟨a,b,e1',e2',ha,hb,q⟩:_:=h;refine⟨_,(qO (Cr (CC (qA (BB Hl (Bl BJ (qv 0) Ak) (Bl BJ (qv 1) Ak)) (qA (BB JO (BB Vr (Bl BJ (qv 0) Ak) (Bl BJ (qv 1) Ak)) (Bl BJ (qv 1) Ak)) (qA (BB JO (BB Vr (Bl BJ (qv 0) Ak) (Bl BJ (qv 1) Ak)) (Bl BJ (qv 1) Ak)) qN)))))),?_⟩;right;have wb:=hb.w
 have c1:∀{x:Int},Jt a.1 x->OY x b.1:=λ{x} h=>by
  have h2:(2:Int)^a.1.toNat<=2^64:=lq (by have:=ha.w;ext);have h3:=Int.lt_of_lt_of_le h.2 h2;have:=h.1;exact⟨by ext,by ext,by ext⟩
 exact⟨c1 ha.l,c1 ha.h,Dn.of q⟩
abbrev Ξ:Du:=λds M Q=>Fw ds λx y=>∃(t:Tm) (hs:List Sn) (w:Int),x=t.D/\y=.lst (hs.map Hb)/\t.over (hs.map (·.1))=some w/\(∀h∈hs,Rg h)/\Q (Hb (t.rv hs)) M
theorem zw:Od T T.x24 4 Ξ:=by
 refine Cz.p2 T.x24.d.F ["term", "held", "form"] λx y M Q hr nN h=>?_;obtain⟨t,hs,wd,e1',e2',ho,hall,q⟩:_:=h;refine⟨_,(qC (CA 2 nN (Bl BJ (qv 0) Ak)) (qC (Ep (AV CJ (qv 2) BV) (qO (Cr (Aw T.x28.d (vH T) nofun (qA (Bl Hn (qv 1) Ak) qN)))) qE) (qC (Ep (AV CJ (qv 2) BV) (qO (Cr (Aw T.x34.d (Β T) nofun (qA (Bl Hn (qv 1) Ak) (qA (Bl BJ (qv 0) Ak) (qA (Bl BJ (qv 0) Ak) qN)))))) qE) (qC (Ep (AV CJ (qv 2) BV) (qO (Cr (Aw T.x32.d (Δ T) nofun (qA (Bl Hn (qv 1) Ak) (qA (Bl Hn (qv 1) Ak) (qA (Bl Hn (qv 1) Ak) qN)))))) qE) (qC (Ep (AV CJ (qv 2) BV) (qO (Cr (Aw T.x33.d (ψ T) nofun (qA (Bl Hn (qv 1) Ak) (qA (Bl Hn (qv 1) Ak) qN))))) qE) (qO (Cr (Aw T.x25.d (Zee T) nofun (qA (qv 2) (qA (Bl Hn (qv 1) Ak) (qA (Bl Hn (qv 1) Ak) qN))))))))))),?_⟩;obtain⟨hz,hne⟩:=Tm.over_len ho;rw[Ab]at hz;cases t with
 |num _ _=>exact absurd rfl hne
 |box _=>exact absurd rfl hne
 |late _=>exact absurd rfl hne
 |door _=>exact absurd rfl hne
 |not t=>obtain⟨a,r,rfl,e0⟩:=Oe hz;cases AD e0;simp only[Tm.D,AT,DB];right;exact⟨a,rfl,(hall a (by simp)).w,Dn.of q⟩
 |part t lo many=>obtain⟨a,r,rfl,e0⟩:=Oe hz;cases AD e0;obtain⟨⟨b1,b2,b3⟩,_⟩:=aG ho;have b3:lo+many<=a.1:=b3;have h64:=(hall a (by simp)).w;simp only[Tm.D,AT,DB];right;exact⟨a,lo,many,rfl,rfl,rfl,⟨b1,b2,by ext⟩,Dn.of q⟩
 |pick c t u=>obtain⟨c,r,rfl,e0⟩:=Oe hz;obtain⟨a,r,rfl,e1⟩:=Oe e0;obtain⟨b,r,rfl,e2⟩:=Oe e1;cases AD e2;simp only[Tm.D,AT,DB];right;exact⟨c,a,b,rfl,rfl,rfl,Dn.of q⟩
 |bin o t u=>
  obtain⟨a,r,rfl,e0⟩:=Oe hz;obtain⟨b,r,rfl,e1⟩:=Oe e0;cases AD e1;have hA:=hall a (by simp);have hB:=hall b (by simp);simp only[Tm.D,AT,DB];right;have hn:=Gk.nm_ne (o:=o)
  (try rw[if_neg hn.2.2.2.2.1])
  (try rw[if_neg hn.2.2.2.2.2.2])
  (try rw[if_neg hn.2.2.2.2.2.1])
  by_cases hj:o=.join
  .subst hj;rw[if_pos (show Gk.join.nm=Al "join" from rfl)];exact⟨a,b,rfl,rfl,hA,hB,Dn.of q⟩
  .rw[if_neg (show¬o.nm=Al "join" from λe=>hj (Gk.nm_inj e))];exact⟨o,a,b,rfl,rfl,rfl,hA.w,hB.w,hj,Dn.of q⟩
theorem Tm.kid_leaf {t k l:Tm}(hk:k∈t.kids)(h:l∈k.leaves):l∈t.leaves:=by
 cases t<;>simp[Tm.kids,Tm.leaves]at hk ⊢
 .subst hk;exact h
 .rcases hk with rfl|rfl
  .exact .inl h
  .exact .inr h
 .rcases hk with rfl|rfl|rfl
  .exact .inl h
  .exact .inr (.inl h)
  .exact .inr (.inr h)
 .subst hk;exact h
structure DT (k0 k1 k2:List (Co×D))(bs es:List (Str×Int))(e:YF)(t:Tm):Prop where
 b:∀x,Tm.box x∈t.leaves->∃w,bs.lookup x=some w/\(Rg (e.b x)/\(e.b x).1=w)/\DJ k0 (.inr x)=some (Hb (e.b x))
 l:∀x,Tm.late x∈t.leaves->∃w,bs.lookup x=some w/\(Rg (e.l x)/\(e.l x).1=w)/\DJ k1 (.inr x)=some (Hb (e.l x))
 d:∀x,Tm.door x∈t.leaves->∃w,es.lookup x=some w/\(Rg (e.d x)/\(e.d x).1=w)/\DJ k2 (.inr x)=some (Hb (e.d x))
theorem DT.kid {k0 k1 k2:List (Co×D)}{bs es:List (Str×Int)}{e:YF}{t k:Tm}(h:DT k0 k1 k2 bs es e t)(hk:k∈t.kids):DT k0 k1 k2 bs es e k:=⟨λx m=>h.b x (Tm.kid_leaf hk m),λx m=>h.l x (Tm.kid_leaf hk m),λx m=>h.d x (Tm.kid_leaf hk m)⟩
theorem tQ {ks:List Tm}{ws:List Int}(hl:ws.length=ks.length)(h:∀(i:Nat) (k:Tm) (a:Int),ks[i]? = some k->ws[i]? = some a->(k.rs e).1=a):(ks.map (Tm.rs e)).map (·.1)=ws:=by
 apply Fn;intro i;rw[AJ,AJ];cases q:ks[i]? with
 |none=>have:=Eu.mp q;rw[Eu.mpr (by ext)];rfl
 |some k=>have hi:=(Ai.mp q).1;have e1:=Af (by omega:i<ws.length);rw[e1];simp only[Jh];rw[h i k _ q e1]
theorem gQ {k0 k1 k2:List (Co×D)}{bs es:List (Str×Int)}{e:YF}{t:Tm}{w:Int}(hw:Wd bs es t w):DT k0 k1 k2 bs es e t->(Rg (t.rs e)/\(t.rs e).1=w)/\((∀x,GV (e.b x)/\GV (e.l x)/\GV (e.d x))->GV (t.rs e)):=by
 induction hw with
 |num c=>exact λ_=>⟨⟨⟨⟨c.1,c.2.1⟩,c.2.2,c.2.2⟩,rfl⟩,λ_=>rfl⟩
 | @box x w c=>intro h;obtain⟨w',a1,a2,_⟩:=h.b x (AO.mpr rfl);rw[c]at a1;cases a1;exact⟨a2,λk=>(k x).1⟩
 | @late x w c=>intro h;obtain⟨w',a1,a2,_⟩:=h.l x (AO.mpr rfl);rw[c]at a1;cases a1;exact⟨a2,λk=>(k x).2.1⟩
 | @door x w c=>intro h;obtain⟨w',a1,a2,_⟩:=h.d x (AO.mpr rfl);rw[c]at a1;cases a1;exact⟨a2,λk=>(k x).2.2⟩
 | @over t ws w kid ho ih=>
  intro h;obtain⟨hl,hne⟩:=Tm.over_len ho;have e1:=tQ hl λi k a h1 h2=>(ih i k a h1 h2 (h.kid (AE h1))).1.2
  have hm:∀s∈t.kids.map (Tm.rs e),Rg s/\((∀x,GV (e.b x)/\GV (e.l x)/\GV (e.d x))->GV s):=λs hs=>by
   obtain⟨k,hk,rfl⟩:=Ao.mp hs;obtain⟨i,hi⟩:=Bw.mp hk;have hi':=(Ai.mp hi).1;have z:=ih i k _ hi (Af (by omega:i<ws.length)) (h.kid hk);exact⟨z.1.1,z.2⟩
  rw[Tm.rs_kids hne];obtain⟨r1,r2⟩:=zW (by rw[e1];exact ho) λs hs=>(hm s hs).1;exact⟨r1,λk=>r2 λs hs=>(hm s hs).2 k⟩
abbrev aV (n:Nat)(ds:List D)(M:Mp)(Q:Ef):Prop:=Fw ds λx y=>Cw (IU x) λt=>∃d0 d1 d2 k0 k1 k2 bs es e,y=.tup [d0,d1,d2]/\(E6 M d0=some k0/\E6 M d1=some k1/\E6 M d2=some k2)/\t.deep<=n/\(∃w,Wd bs es t w)/\DT k0 k1 k2 bs es e t/\Q (Hb (t.rs e)) M
theorem Zdr {n:Nat}(G_span_of:Od T T.x23 (n+5) (aV n)):Od T T.x23 (n+6) (aV (n+1)):=by
 refine Cz.p2 T.x23.d.F ["term", "spans", "form"] λx y M Q hr nN h1=>?_;obtain⟨t,e1',d0,d1,d2,k0,k1,k2,bs,es,e,e2',⟨c0,c1,c2⟩,hn,⟨wd,hw⟩,dt,q⟩:_:=OV h1;refine⟨_,(qC (CA 2 nN (Bl BJ (qv 0) Ak)) (qC (Ep (AV CJ (qv 2) BV) (qO (Cr (CC (qA (Bl BJ (qv 0) Ak) (qA (Bl BJ (qv 0) Ak) (qA (Bl BJ (qv 0) Ak) qN)))))) qE) (qC (Ep (AV CJ (qv 2) BV) (qO (Cr (FO (Kp hr) (Bl BJ (qv 1) Ak) (Bl BJ (qv 0) Ak) (λ_ _=>rfl)))) qE) (qC (Ep (AV CJ (qv 2) BV) (qO (Cr (FO (Kp hr) (Bl BJ (qv 1) Ak) (Bl BJ (qv 0) Ak) (λ_ _=>rfl)))) qE) (qC (Ep (AV CJ (qv 2) BV) (qO (Cr (FO (Kp hr) (Bl BJ (qv 1) Ak) (Bl BJ (qv 0) Ak) (λ_ _=>rfl)))) qE) (qO (Cr (Aw T.x24.d (zw T) nofun (qA (qv 0) (qA (FP (caps:=[("spans",1)]) ⟨rfl,by rfl,by rfl,by rfl,rfl,by rfl,by nofun⟩ rfl (Rf (Aw T.x6.d (bG T) nofun (qA (qv 0) qN))) (λ_ _ _ _ _ _=>(Aw T.x23.d G_span_of nofun (qA (qv 0) (qA (qv 1) qN))))) qN)))))))))),?_⟩;by_cases hk:t.kids=[]
 .cases hw with
  |num c=>simp only[Tm.D];right;exact Dn.of q
  | @box x _ c=>obtain⟨w',a1,a2,a5⟩:=dt.b x (AO.mpr rfl);simp only[Tm.D];right;rw[c0,B3,a5];exact Dn.of q
  | @late x _ c=>obtain⟨w',a1,a2,a5⟩:=dt.l x (AO.mpr rfl);simp only[Tm.D];right;rw[c1,B3,a5];exact Dn.of q
  | @door x _ c=>obtain⟨w',a1,a2,a5⟩:=dt.d x (AO.mpr rfl);simp only[Tm.D];right;rw[c2,B3,a5];exact Dn.of q
  |over _ ho=>exact absurd hk (Tm.over_len ho).2
 .cases hw with
  |num c=>exact absurd rfl hk
  |box c=>exact absurd rfl hk
  |late c=>exact absurd rfl hk
  |door c=>exact absurd rfl hk
  | @over _ ws _ kid ho=>
   obtain⟨n1,n2,n3,n4⟩:=Tm.form_ne hk;have n1':=eq_false n1;have n2':=eq_false n2;have n3':=eq_false n3;have n4':=eq_false n4;have hk3:=Tm.kids_le t;obtain⟨hl,hne⟩:=Tm.over_len ho;have kd:∀i (k:Tm) (a:Int),t.kids[i]? = some k->ws[i]? = some a->Rg (k.rs e)/\(k.rs e).1=a:=λi k a h1 h2=>(gQ (kid i k a h1 h2) (dt.kid (AE h1))).1;have e1:=tQ (e:=e) hl λi k a h1 h2=>(kd i k a h1 h2).2
   have kw:∀k∈t.kids,Rg (k.rs e)/\∃w,Wd bs es k w:=λk hkm=>by
    obtain⟨i,hi⟩:=Bw.mp hkm;have hi':=(Ai.mp hi).1;have e2:=Af (by omega:i<ws.length);exact⟨(kd i k _ hi e2).1,_,kid i k _ hi e2⟩
   rw[Tm.rs_kids hne]at q;right;simp only[VA,n1',n2',n3',n4'];grind;refine Eg.of (f:=λk=>Hb (k.rs e)) (GR (by ext)) trivial (λk hkm R r=>?_) ?_
   .have dk:=Tm.deep_kid hkm;walk_at "cap";exact⟨d0,d1,d2,k0,k1,k2,bs,es,e,rfl,⟨c0,c1,c2⟩,by ext,(kw k hkm).2,dt.kid hkm,r⟩
   (try grind)
   refine⟨t,t.kids.map (Tm.rs e),wd,rfl,by rw[BI];rfl,by rw[e1];exact ho,λm hm=>?_,Dn.of q⟩;obtain⟨k,hkm,rfl⟩:=Ao.mp hm;exact(kw k hkm).1
theorem uO (T:Tv P w K mg base):∀n,Od T T.x23 (n+5) (aV n)
 |0=>by
  have no:∀ds M Q,¬aV 0 ds M Q:=λds M Q h=>by
   obtain⟨x,y,rfl,h1⟩:=NE h;obtain⟨t,e1',d0,d1,d2,k0,k1,k2,bs,es,e,e2',_,hn,_⟩:_:=OV h1;have:=t.deep_pos;ext
  exact Yu no
 |n+1=>Zdr T (uO T n)
theorem ZI {M:Mp}{x:D}{xs:List D}(h:Bi M x=some xs):Hj M x=some xs:=by
 cases x with
 |tup _=>cases h
 |_=>exact h
abbrev Zf8:Du:=λds M Q=>Jd ds λx y _=>Cw (Bi M x) λxs=>EQ y λn=>(xs.length:Int)<=n/\Q .non M
theorem bF:Od T T.x36 1 Zf8:=by
 refine Cz.p3 T.x36.d.F ["things", "most", "called"] λx y z M Q hr nN h1=>?_;obtain⟨xs,hl,h2⟩:=Cj h1;obtain⟨n,rfl,hn,q⟩:=CU h2;refine⟨_,(qO (Ep (AV KZ (B9 Ko T.B.len BZ (qA (qv 0) qN)) (qv 1)) (qO Oq) qE)),?_⟩;right;rw[ZI hl,B3];exact Cy (λc=>absurd c (by ext)) λ_=>Dn.of q
noncomputable def Gp (ts:List Str):List (Co×D):=ts.map λz=>(.inr z,.bl true)
noncomputable def L9:List (Co×D)->Option (List Str)
 |[]=>some []
 |(.inr z,.bl true)::r=>(L9 r).map (z::·)
 |_::_=>none
theorem gZ:∀ts,L9 (Gp ts)=some ts
 |[]=>rfl
 |z::r=>by
  show(L9 (Gp r)).map (z::·)=_;rw[gZ r];rfl
theorem iO:∀{kvs:List (Co×D)}{ts:List Str},L9 kvs=some ts->kvs=Gp ts
 |[],ts,h=>by cases h;rfl
 |(.inr z,.bl true)::r,ts,h=>by
  change(L9 r).map (z::·)=_ at h;cases e:L9 r with
  |none=>rw[e]at h;cases h
  |some us=>rw[e]at h;cases h;rw[iO e];rfl
 |(.inl z,_)::r,ts,h=>by cases h
 |(.inr z,.bl false)::r,ts,h=>by cases h
 |(.inr z,.str _)::r,ts,h=>by cases h
 |(.inr z,.int _)::r,ts,h=>by cases h
 |(.inr z,.non)::r,ts,h=>by cases h
 |(.inr z,.tup _)::r,ts,h=>by cases h
 |(.inr z,.lst _)::r,ts,h=>by cases h
 |(.inr z,.dic _)::r,ts,h=>by cases h
 |(.inr z,.ref _)::r,ts,h=>by cases h
theorem pJ (z:Str):∀ts,((Gp ts).any λkv=>decide (kv.1=.inr z))=decide (z∈ts)
 |[]=>rfl
 |y::r=>by
  show(decide ((F7 y:Co)=.inr z) || (Gp r).any λkv=>decide (kv.1=.inr z))=_;rw[pJ z r];by_cases e:y=z
  .subst e;simp
  .have e':¬z=y:=λq=>e q.symm;simp[e,e']
theorem pL (z:Str):∀ts,(DJ (Gp ts) (.inr z)).isSome=decide (z∈ts)
 |[]=>rfl
 |y::r=>by
  by_cases e:y=z
  .subst e;simp[DJ,Gp]
  .have h3:DJ (Gp (y::r)) (.inr z)=DJ (Gp r) (.inr z):=by simp[DJ,Gp,CG,e]
   have e':¬z=y:=λq=>e q.symm;rw[h3,pL z r];simp[e']
theorem pK {z:Str}{ts:List Str}(h:z∉ts):H9 (Gp ts) (.inr z) (.bl true)=Gp (ts++[z]):=by
 unfold H9;rw[pJ,decide_eq_false h];simp[Gp]
theorem qV (ts:List Str):(Gp ts).length=ts.length:=by unfold Gp;rw[Ab]
def RL (M:Mp)(x:D)(k:List Str->Prop):Prop:=Cw (E6 M x) λkvs=>Cw (L9 kvs) k
theorem zE (h:RL M x k):∃ts,E6 M x=some (Gp ts)/\k ts:=by
 obtain⟨kvs,e,h1⟩:=Cj h;obtain⟨ts,e2,q⟩:=Cj h1;rw[iO e2]at e;exact⟨ts,e,q⟩
theorem nM {M:Mp}{x:D}{ts:List Str}{k:List Str->Prop}(e:E6 M x=some (Gp ts)):RL M x k=k ts:=by unfold RL;rw[e,B3,gZ,B3]
def NB (M:Mp)(x:D)(k:Av->List Str->Prop):Prop:=JF x λp=>Ke (M p) λkvs=>Cw (L9 kvs) λts=>k p ts
theorem ZB {M:Mp}{x:D}{k:Av->List Str->Prop}(h:NB M x k):∃p ts,x=.ref p/\M p=some (.dic (Gp ts))/\k p ts:=by
 obtain⟨p,rfl,h1⟩:=Ia h;cases e:M p with
 |none=>rw[e]at h1;exact h1.elim
 |some o=>
  cases o with
  |lst _=>rw[e]at h1;exact h1.elim
  |dct _=>rw[e]at h1;exact h1.elim
  |obj _ _=>rw[e]at h1;exact h1.elim
  |dic kvs=>rw[e]at h1;obtain⟨ts,e2,q⟩:=Cj h1;rw[iO e2]at e;exact⟨p,ts,rfl,e,q⟩
theorem Vu {M:Mp}{p:Av}{ts:List Str}{k:Av->List Str->Prop}(e:M p=some (.dic (Gp ts))):NB M (.ref p) k=k p ts:=by
 unfold NB;rw[Qr,e,VB,gZ,B3]
abbrev Zf7:Du:=λds M Q=>Fw ds λx y=>Gr x λz=>RL M y λts=>z∉ts/\Q .non M
theorem vZ:Od T T.x39 1 Zf7:=by
 refine Cz.p2 T.x39.d.F ["name", "taken"] λx y M Q hr nN h1=>?_;obtain⟨z,rfl,h2⟩:=D8 h1;obtain⟨ts,ht,hz,q⟩:=zE h2;refine⟨_,(qO (Ep (AV (zD (Kp hr)) (qv 0) (qv 1) (by with_unfolding_all rfl)) (qO Oq) qE)),?_⟩;right;simp only[ht,B3,gX,pL,decide_eq_false hz];exact Dn.of q
noncomputable def small (c:Nat):Bool:=decide (97<=c/\c<=122)
noncomputable def Gs (z:Str):Bool:=decide (1<=z.length/\z.length<=8) && z.cps.toList.all small
def Zz (z:Str):Prop:=(z.cps.all λc=>decide (c<128))=true
abbrev wz:Du:=λds M Q=>Ga ds λx=>Gr x λz=>(Zz z/\z.length<=1000)/\Q (.bl (Gs z)) M
theorem wl:Od T T.x37 1 wz:=by
 refine Cz.p1 T.x37.d.F ["text"] λx M Q hr nN h1=>?_;obtain⟨z,e1',⟨ha,hz⟩,q⟩:_:=D8 h1;refine⟨_,(qO (Cr (Qa (Nz Qe Qe Ak (B9 up T.B.len BZ (qA (qv 0) qN)) (Ii T.m_LONGEST_NAME)) (OO (B9 (mQ rfl) T.B.all boot_all (qA (FP (caps:=[]) ⟨rfl,by rfl,by rfl,by rfl,rfl,by rfl,by nofun⟩ rfl (fj (qv 0)) (λ_ _ _ _ _ _=>(Nz sK sK BV (qv 0) BV))) qN)))))),?_⟩;right;refine⟨GR hz,Cy (λc1=>Cy (λc2=>⟨ha,?_⟩) λc2=>?_) λc1=>?_⟩
 .unfold Ka;refine Eg.of (f:=λc=>.bl (small c)) (GR (by rw[Bt];exact hz)) trivial (λc hc R r=>?_) ?_
  .walk_at "cap";rw[show(Al "a").cps.toList=[97] by nofun,show(Al "z").cps.toList=[122] by nofun];have l1:([c] < ([97]:List Nat))↔c<97:=by simp[Nk]
   have l2:(([122]:List Nat) < [c])↔122<c:=by simp[Nk]
   refine Cy (λh=>?_) λh=>?_
   .rw[l1]at h;rw[show small c=!decide (([122]:List Nat) < [c]) by unfold small;rw[D3];simp only[l2,decide_eq_true_eq,Nn,LX,decide_eq_false_iff_not];ext]at r;exact r
   .rw[l1]at h;rw[show small c=false by unfold small;rw[decide_eq_false_iff_not];ext]at r;exact r
  .rw[show(z.cps.toList.map λc=>D.bl (small c))=(z.cps.toList.map small).map D.bl by rw[BI];rfl,jS,B3];refine Dn.of ?_;rw[PJ];rw[show Gs z=z.cps.toList.all small by unfold Gs;rw[decide_eq_true (by ext),IQ]]at q;exact q
 .rw[show Gs z=false by unfold Gs;rw[decide_eq_false (by ext),Gh]]at q;exact Dn.of q
 .rw[show Gs z=false by unfold Gs;rw[decide_eq_false (by ext),Gh]]at q;exact Dn.of q
abbrev Ο:Du:=λds M Q=>Fw ds λx y=>Gr x λz=>NB M y λp ts=>((Zz z/\z.length<=1000)/\Gs z=true/\z∉ts/\ts.length<=100)/\Q .non (put M p (.dic (Gp (ts++[z]))))
theorem kB:Od T T.x38 2 Ο:=by
 refine Cz.p2 T.x38.d.F ["name", "taken"] λx y M Q hr nN h1=>?_;obtain⟨z,rfl,h2⟩:=D8 h1;obtain⟨p,ts,e1',ht,⟨ha,hn,hz,hl⟩,q⟩:_:=ZB h2;refine⟨_,(qC (Ep (Mh (HA (Aw T.x37.d (wl T) nofun (qA (qv 0) qN)))) (qO Oq) qE) (qC (EZ (Aw T.x39.d (vZ T) nofun (qA (qv 0) (qA (qv 1) qN)))) (qO (Ye (Kp hr) (qv 1) (qv 0) SO rfl)))),?_⟩;right;refine⟨ha,Cy (λc=>by rw[hn]at c;cases c) λ_=>?_⟩;rw[nM (mH ht),ht,VB,pK hz,qV];exact⟨hz,B5 (by ext),Dn.of q⟩
noncomputable def EU (b:Str×Int×Int):D:=.tup [.str b.1,.int b.2.1,.int b.2.2]
noncomputable def GJ (d:Str×Int):D:=.tup [.str d.1,.int d.2]
def JR (z:Str):Prop:=(Zz z/\z.length<=1000)/\Gs z=true
theorem Uq {M:Mp}{p:Av}{o:MO}{x:D}{xs:List D}(hp:∀ys,M p≠some (.lst ys))(h:Bi M x=some xs):Bi (put M p o) x=some xs:=by
 cases x with
 |ref q=>
  have hq:q≠p:=λe=>by
   subst e;cases e2:M q with
   |none=>simp[Bi,e2]at h
   |some u=>
    cases u with
    |lst ys=>exact hp ys e2
    |_=>simp[Bi,e2]at h
  unfold Bi at h ⊢;simp only[DK hq];exact h
 |_=>exact h
theorem Xs {M:Mp}{p q:Av}{a b c d:MO}(h:q≠p):put (put (put (put M p a) q b) p c) q d=put (put M p c) q d:=by
 funext r;unfold put;by_cases e:r=q<;>by_cases e':r=p<;>simp[e,e']
theorem oS {ws:List (Str×Int)}{z:Str}{n:Int}(h:z∉ws.map (·.1)):H9 (E9 ws) (.inr z) (.int n)=E9 (ws++[(z,n)]):=by
 have e:((E9 ws).any λkv=>decide (kv.1=.inr z))=false:=by
  rw[PN];intro kv hkv;obtain⟨p,hp,rfl⟩:=Ao.mp hkv;simp only[decide_eq_true_eq,Sum.inr.injEq];intro e;exact h (by rw[<- e];exact Fj hp)
 unfold H9;rw[e];simp[E9]
theorem aT {α:Type}{f:α->Str}{ts:List Str}{bs:List α}{k:Nat}{b:α}(h:(ts++bs.map f).Nodup)(hb:bs[k]? = some b):f b∉ts++(bs.take k).map f:=by
 obtain⟨hk,e⟩:=Ai.mp hb
 have e2:bs=bs.take k++b::bs.drop (k+1):=by
  rw[<- e,<- Gw hk,HH]
 rw[e2,AM,AT,<- Bq]at h;intro hm;have e3:(bs.take k++b::bs.drop (k+1)).take k=bs.take k:=by rw[<- e2]
 exact(B7.mp h).2.2 _ hm _ AG rfl
def lD (ts:List Str)(bs:List (Str×Int×Int)):Prop:=ts.length+bs.length<=100/\(∀b∈bs,JR b.1/\1<=b.2.1/\b.2.1<=64/\0<=b.2.2/\b.2.2<2^b.2.1.toNat)/\(ts++bs.map (·.1)).Nodup
abbrev ZcP:Du:=λds M Q=>Fw ds λx y=>∃bs:List (Str×Int×Int),Bi M x=some (bs.map EU)/\NB M y λp ts=>lD ts bs/\∀q,M q=none->Q (.ref q) (put (put M p (.dic (Gp (ts++bs.map (·.1))))) q (.dic (E9 (bs.map λb=>(b.1,b.2.1)))))
theorem ZcS:Od T T.x40 3 ZcP:=by
 refine Cz.p2 T.x40.d.F ["boxes", "taken", "widths", "name", "width", "first"] λx y M Q hr nN h=>?_;obtain⟨bs,hl,h1⟩:=h;obtain⟨p,ts,e1',ht,⟨hb,hall,hnd⟩,q⟩:_:=ZB h1;refine⟨_,(qC (CA 2 nN JE) (Fa (MM AQ rfl (Kr (qv 0)) (Vz (is:=[3,4,5]) rfl (Mq (LD nN rfl (Cd rfl)) (Mq (LD nN rfl (Cd rfl)) (Mq (LD nN rfl (Cd rfl)) Ur)))) (qC (EZ (Aw T.x38.d (kB T) nofun (qA (qv 3) (qA (qv 1) qN)))) (qC (EZ (Aw T.x2.d (kJ T) nofun (qA (qv 4) qN))) (qC (EZ (Aw T.x3.d (wA T) nofun (qA (qv 4) (qA (qv 5) qN)))) (qO (Ye (Kp hr) (qv 2) (qv 3) (qv 4) rfl)))))) (qO (Cr (qv 2))))),?_⟩;right;intro a ha;have hap:a≠p:=λe=>by rw[e,ht]at ha;cases ha
 have hlM:∀o o',Bi (put (put M p o) a o') x=some (bs.map EU):=λo o'=>Uq (λys e=>by rw[DK hap,ha]at e;cases e) (Uq (λys e=>by rw[ht]at e;cases e) hl)
 have e0:put M a (.dic [])=put (put M p (.dic (Gp ts))) a (.dic []):=by
  funext r;unfold put;by_cases e:r=a<;>by_cases e':r=p<;>simp[e,e',ht]
 rw[e0];refine⟨λτ M'=>∃v3 v4 v5,τ=[some x,some (.ref p),some (.ref a),v3,v4,v5]/\M'=put (put M p (.dic (Gp (ts++bs.map (·.1))))) a (.dic (E9 (bs.map λb=>(b.1,b.2.1)))),?_,?_⟩
 .grind;simp only[hlM,B3];refine⟨λk τ M'=>∃v3 v4 v5,τ=[some x,some (.ref p),some (.ref a),v3,v4,v5]/\M'=put (put M p (.dic (Gp (ts++(bs.take k).map (·.1))))) a (.dic (E9 ((bs.take k).map λb=>(b.1,b.2.1)))),⟨none,none,none,rfl,by simp[E9]⟩,?_,?_,?_⟩
  .intro k τ M';ext1⟨v3,v4,v5,e1',e2'⟩;exact hlM _ _
  .intro k d τ M' hd;ext1⟨v3,v4,v5,e1',e2'⟩;obtain⟨b,hbk,rfl⟩:=Ps hd;obtain⟨⟨nm1,nm2⟩,w1,w2,f1,f2⟩:_:=hall b (AE hbk);have et:bs.take (k+1)=bs.take k++[b]:=by rw[BE,hbk];rfl
   have hk:(bs.take k).length<=bs.length:=by rw[A6];ext
   simp only[EU];grind;have hnot:=aT hnd hbk;rw[Vu (by rw[DK (λe=>hap e.symm),Dq])];refine⟨⟨nm1,nm2,hnot,by rw[As,Ab];ext⟩,⟨w1,w2⟩,⟨w1,f1,f2⟩,?_⟩;rw[DK hap,Dq,VB];refine⟨B5 (by unfold E9;rw[Ab,Ab];ext),_,_,_,rfl,?_⟩;rw[oS (by rw[BI];exact λhm=>hnot (AS _ hm)),Xs hap,et,AM,AM,<- Bq];rfl
  .intro τ M';ext1⟨v3,v4,v5,e1',e2'⟩;rw[Ab,BD];exact⟨v3,v4,v5,rfl,rfl⟩
 .intro τ M';ext1⟨v3,v4,v5,e1',e2'⟩;grind;exact Dn.of (q a ha)
def kZ (ts:List Str)(bs:List (Str×Int)):Prop:=ts.length+bs.length<=100/\(∀b∈bs,JR b.1/\1<=b.2/\b.2<=64)/\(ts++bs.map (·.1)).Nodup
abbrev ZcO:Du:=λds M Q=>Fw ds λx y=>∃bs:List (Str×Int),Bi M x=some (bs.map GJ)/\NB M y λp ts=>kZ ts bs/\∀q,M q=none->Q (.ref q) (put (put M p (.dic (Gp (ts++bs.map (·.1))))) q (.dic (E9 bs)))
theorem ZcR:Od T T.x41 3 ZcO:=by
 refine Cz.p2 T.x41.d.F ["doors", "taken", "widths", "name", "width"] λx y M Q hr nN h=>?_;obtain⟨bs,hl,h1⟩:=h;obtain⟨p,ts,e1',ht,⟨hb,hall,hnd⟩,q⟩:_:=ZB h1;refine⟨_,(qC (CA 2 nN JE) (Fa (MM AQ rfl (Kr (qv 0)) (Vz (is:=[3,4]) rfl (Mq (LD nN rfl (Cd rfl)) (Mq (LD nN rfl (Cd rfl)) Ur))) (qC (EZ (Aw T.x38.d (kB T) nofun (qA (qv 3) (qA (qv 1) qN)))) (qC (EZ (Aw T.x2.d (kJ T) nofun (qA (qv 4) qN))) (qO (Ye (Kp hr) (qv 2) (qv 3) (qv 4) rfl))))) (qO (Cr (qv 2))))),?_⟩;right;intro a ha;have hap:a≠p:=λe=>by rw[e,ht]at ha;cases ha
 have hlM:∀o o',Bi (put (put M p o) a o') x=some (bs.map GJ):=λo o'=>Uq (λys e=>by rw[DK hap,ha]at e;cases e) (Uq (λys e=>by rw[ht]at e;cases e) hl)
 have e0:put M a (.dic [])=put (put M p (.dic (Gp ts))) a (.dic []):=by
  funext r;unfold put;by_cases e:r=a<;>by_cases e':r=p<;>simp[e,e',ht]
 rw[e0];refine⟨λτ M'=>∃v3 v4,τ=[some x,some (.ref p),some (.ref a),v3,v4]/\M'=put (put M p (.dic (Gp (ts++bs.map (·.1))))) a (.dic (E9 bs)),?_,?_⟩
 .grind;simp only[hlM,B3];refine⟨λk τ M'=>∃v3 v4,τ=[some x,some (.ref p),some (.ref a),v3,v4]/\M'=put (put M p (.dic (Gp (ts++(bs.take k).map (·.1))))) a (.dic (E9 (bs.take k))),⟨none,none,rfl,by simp[E9]⟩,?_,?_,?_⟩
  .intro k τ M';ext1⟨v3,v4,e1',e2'⟩;exact hlM _ _
  .intro k d τ M' hd;ext1⟨v3,v4,e1',e2'⟩;obtain⟨b,hbk,rfl⟩:=Ps hd;obtain⟨⟨nm1,nm2⟩,w1,w2⟩:=hall b (AE hbk);have et:bs.take (k+1)=bs.take k++[b]:=by rw[BE,hbk];rfl
   have hk:(bs.take k).length<=bs.length:=by rw[A6];ext
   simp only[GJ];grind;have hnot:=aT hnd hbk;rw[Vu (by rw[DK (λe=>hap e.symm),Dq])];refine⟨⟨nm1,nm2,hnot,by rw[As,Ab];ext⟩,⟨w1,w2⟩,?_⟩;rw[DK hap,Dq,VB];refine⟨B5 (by unfold E9;rw[Ab];ext),_,_,rfl,?_⟩;rw[oS (by exact λhm=>hnot (AS _ hm)),Xs hap,et,AM,<- Bq];rfl
  .intro τ M';ext1⟨v3,v4,e1',e2'⟩;rw[Ab,BD];exact⟨v3,v4,rfl,rfl⟩
 .intro τ M';ext1⟨v3,v4,e1',e2'⟩;grind;exact Dn.of (q a ha)
noncomputable def Ls (w:Str×Tm):D:=.tup [.str w.1,w.2.D]
def NO (bs es:List (Str×Int))(t:Tm)(n:Int):Prop:=(t.parts<=100/\t.deep<=12)/\Wd bs es t n
structure QC (bs es:List (Str×Int))(g:Tm)(wr:List (Str×Tm)):Prop where
 g:NO bs es g 1
 l:wr.length<=6
 w:∀w∈wr,∃n,bs.lookup w.1=some n/\NO bs es w.2 n
 nd:(wr.map (·.1)).Nodup
def Qc (y:D)(k:List (Str×Int)->Prop):Prop:=Cw (XR y) λkvs=>Cw (L8 kvs) k
theorem nJ {y:D}{k:List (Str×Int)->Prop}(h:Qc y k):∃ws,y=.dic (E9 ws)/\k ws:=by
 obtain⟨kvs,e,h1⟩:=Cj h;obtain⟨ws,e2,q⟩:=Cj h1;rw[iQ e2]at e;cases y with
 |dic ds=>cases e;exact⟨ws,rfl,q⟩
 |_=>cases e
theorem pC :Qc (.dic (E9 ws)) k=k ws:=by unfold Qc XR;rw[B3,hZ,B3]
abbrev Zf5:Du:=λds M Q=>T0 ds λr y bx dx=>∃(nm:Str) (g:Tm) (wx:D) (wr:List (Str×Tm)),r=.tup [.str nm,g.D,wx]/\Bi M wx=some (wr.map Ls)/\NB M y λp ts=>Qc bx λbs=>Qc dx λes=>(JR nm/\nm∉ts/\ts.length<=100/\QC bs es g wr)/\Q .non (put M p (.dic (Gp (ts++[nm]))))
local macro_rules | `(tactic| simp_all_arith! [$xs,*])=>`(tactic| simp_all_arith [VD,Ux,Yp,Yq,ZV,VA,↓ZF,↓ZG,↓ZH,bn,↓gN,↓gO,↓gP,pC,$xs,*])
theorem Zfu:Od T T.x42 18 Zf5:=by
 refine Cz.p4 T.x42.d.F ["rule", "taken", "box_widths", "door_widths", "written", "box", "term", "width"] λx y z v M Q hr nN h=>?_;obtain⟨nm,g,wx,wr,e1',hl,h1⟩:_:=h;obtain⟨p,ts,e1',ht,h2⟩:_:=ZB h1;obtain⟨bs,rfl,h3⟩:=nJ h2;obtain⟨es,e1',⟨hn,hnt,hlen,rok⟩,q⟩:_:=nJ h3;refine⟨_,(qC (EZ (Aw T.x38.d (kB T) nofun (qA (Bl BJ (qv 0) Ak) (qA (qv 1) qN)))) (qC (EZ (Aw T.x15.d (YB T) nofun (qA (Aw T.x8.d (vL T) nofun (qA (Bl BJ (qv 0) Ak) (qA (qv 2) (qA (qv 3) qN)))) (qA Ak qN)))) (qC (EZ (Aw T.x36.d (bF T) nofun (qA (Bl BJ (qv 0) Ak) (qA (Ii T.m_MOST_WRITES) (qA BV qN))))) (qC (CA 4 nN JE) (qO (MM AQ rfl (Kr (Bl BJ (qv 0) Ak)) (Vz (is:=[5,6]) rfl (Mq (LD nN rfl (Cd rfl)) (Mq (LD nN rfl (Cd rfl)) Ur))) (qC (CA 7 nN (Aw T.x11.d (kL T) nofun (qA (qv 2) (qA (qv 5) qN)))) (qC (EZ (Aw T.x39.d (vZ T) nofun (qA (qv 5) (qA (qv 4) qN)))) (qC (Ye (Kp hr) (qv 4) (qv 5) SO rfl) (qO (EZ (Aw T.x15.d (YB T) nofun (qA (Aw T.x8.d (vL T) nofun (qA (qv 6) (qA (qv 2) (qA (qv 3) qN)))) (qA (qv 7) qN)))))))))))))),?_⟩;right;rw[Vu ht];have hlM:∀o,Bi (put M p o) wx=some (wr.map Ls):=λo=>Uq (λys e=>by rw[ht]at e;cases e) hl;rw[hlM,B3];refine⟨⟨hn.1,hn.2,hnt,hlen⟩,rok.g.1,1,rok.g.2,rfl,by rw[Ab];have:=rok.l;ext,λa ha=>?_⟩;generalize hM2:put M p (.dic (Gp (ts++[nm])))=M2 at ha ⊢;have hl2:Bi M2 wx=some (wr.map Ls):=by rw[<- hM2];exact hlM _
 have hl3:∀o,Bi (put M2 a o) wx=some (wr.map Ls):=λo=>Uq (λys e=>by rw[ha]at e;cases e) hl2;rw[hM2]at q;rw[hl3,B3];refine⟨λk τ M'=>∃v5 v6 v7,τ=[some (D.tup [D.str nm,g.D,wx]),some (D.ref p),some (D.dic (E9 bs)),some (D.dic (E9 es)),some (D.ref a),v5,v6,v7]/\M'=put M2 a (.dic (Gp ((wr.take k).map (·.1)))),⟨none,none,none,rfl,rfl⟩,?_,?_,?_⟩
 .intro k τ M';ext1⟨v5,v6,v7,e1',e2'⟩;exact hl3 _
 .intro k d τ M' hd;ext1⟨v5,v6,v7,e1',e2'⟩;obtain⟨b,hbk,rfl⟩:=Ps hd;obtain⟨n,hb,tok⟩:=rok.w b (AE hbk);have et:wr.take (k+1)=wr.take k++[b]:=by rw[BE,hbk];rfl
  have hk:(wr.take k).length<=6:=by rw[A6];have:=rok.l;ext
  have hnot:b.1∉(wr.take k).map (·.1):=by
   have:=aT (ts:=[]) (f:=λb:Str×Tm=>b.1) (by simpa using rok.nd) hbk;simpa using this
  simp only[Ls];grind;simp only[hb,B3]
  (try grind)
  rw[nM (mH Dq)];refine⟨hnot,?_⟩;rw[pK hnot,R3,qV,Ab];refine⟨B5 (by ext),tok.1,n,tok.2,rfl,_,_,_,rfl,?_⟩;rw[et,AM];rfl
 .intro τ M';ext1⟨v5,v6,v7,e1',e2'⟩;exact Qs (Sub.put ha) q
structure Wk where
 bs:List (Str×Int×Int)
 ds:List (Str×Int)
 rs:List (Str×Tm×List (Str×Tm))
noncomputable def Lw (r:Str×Tm×List (Str×Tm)):D:=.tup [.str r.1,r.2.1.D,.tup (r.2.2.map Ls)]
noncomputable def Wk.D (w:Wk):D:=.tup [.tup (w.bs.map EU),.tup (w.ds.map GJ),.tup (w.rs.map Lw)]
noncomputable def Wk.ws (w:Wk):List (Str×Int):=w.bs.map λb=>(b.1,b.2.1)
structure Wk.Ok (w:Wk):Prop where
 b:w.bs.length<=12/\∀b∈w.bs,JR b.1/\1<=b.2.1/\b.2.1<=64/\0<=b.2.2/\b.2.2<2^b.2.1.toNat
 d:w.ds.length<=6/\∀d∈w.ds,JR d.1/\1<=d.2/\d.2<=64
 r:w.rs.length<=8/\∀r∈w.rs,JR r.1/\QC w.ws w.ds r.2.1 r.2.2
 nd:(w.bs.map (·.1)++w.ds.map (·.1)++w.rs.map (·.1)).Nodup
def lZ (M:Mp)(x:D)(r:Str×Tm×List (Str×Tm)):Prop:=∃wx,x=.tup [.str r.1,r.2.1.D,wx]/\Bi M wx=some (r.2.2.map Ls)
abbrev pk:Du:=λds M Q=>Jd ds λx y z=>∃(w:Wk) (xs:List D),w.Ok/\Bi M x=some (w.bs.map EU)/\Bi M y=some (w.ds.map GJ)/\Bi M z=some xs/\xs.length=w.rs.length/\(∀(i:Nat) x r,xs[i]? = some x->w.rs[i]? = some r->lZ M x r)/\Q w.D M
theorem nv:Od T T.x35 19 pk:=by
 refine Cz.p3 T.x35.d.F ["boxes", "doors", "rules", "taken", "box_widths", "door_widths", "rule"] λx y z M Q hr nN h=>?_;obtain⟨wk,xs,ok,h1,h2,h3,hlen,hr1,q⟩:_:=h;refine⟨_,(qC (EZ (Aw T.x36.d (bF T) nofun (qA (qv 0) (qA (Ii T.m_MOST_BOXES) (qA BV qN))))) (qC (EZ (Aw T.x36.d (bF T) nofun (qA (qv 1) (qA (Ii T.m_MOST_DOORS) (qA BV qN))))) (qC (EZ (Aw T.x36.d (bF T) nofun (qA (qv 2) (qA (Ii T.m_MOST_RULES) (qA BV qN))))) (Fa (CA 3 nN JE) (Fa (CA 4 nN (KW (Aw T.x40.d (ZcS T) nofun (qA (qv 0) (qA (qv 3) qN))))) (Fa (CA 5 nN (KW (Aw T.x41.d (ZcR T) nofun (qA (qv 1) (qA (qv 3) qN))))) (Fa (MM AQ rfl (Kr (qv 2)) (Qy (i:=6) nN rfl (Cd rfl)) (qO (EZ (Aw T.x42.d (Zfu T) nofun (qA (qv 6) (qA (qv 3) (qA (qv 4) (qA (qv 5) qN)))))))) (qO (Cr (CC (qA (CB Rb T.B.tuple EE (qA (qv 0) qN)) (qA (CB Rb T.B.tuple EE (qA (qv 1) qN)) (qA (CB Rb T.B.tuple EE (qA (FP (caps:=[]) ⟨rfl,by rfl,by rfl,by rfl,rfl,by rfl,by nofun⟩ rfl (Kr (qv 2)) (λ_ _ _ _ _ _=>(CC (qA (Bl BJ (qv 0) Ak) (qA (Bl BJ (qv 0) Ak) (qA (CB Rb T.B.tuple EE (qA (Bl BJ (qv 0) Ak) qN)) qN)))))) qN)) qN))))))))))))),?_⟩;right;rw[h1,B3,h2,B3,h3,B3];have hb:=ok.b;have hd:=ok.d;have hrr:=ok.r;have hnd:=ok.nd;refine⟨by rw[Ab];ext,by rw[Ab];ext,by ext,?_⟩;refine⟨λτ M'=>∃p,M p=none/\τ=[some x,some y,some z,some (.ref p),none,none,none]/\M'=put M p (.dic (Gp [])),?_,?_⟩
 .grind;exact λp hp=>⟨p,hp,rfl,rfl⟩
 intro τ M';ext1⟨p,hp,e1',e2'⟩;have keep:∀{x:D} {xs:List D} (o:MO),Bi M x=some xs->Bi (put M p o) x=some xs:=λo h=>Uq (λys e=>by rw[hp]at e;cases e) h;refine⟨λτ M'=>τ=[some x,some y,some z,some (.ref p),some (.dic (E9 wk.ws)),none,none]/\M'=put M p (.dic (Gp (wk.bs.map (·.1)))),?_,?_⟩
 .grind;refine⟨wk.bs,keep _ h1,?_⟩;rw[Vu Dq];refine⟨⟨by simp;ext,hb.2,by rw[Bq]at hnd;simpa using(B7.mp hnd).1⟩,λa ha=>?_⟩;rw[R3,Dq];dsimp only
  have ha':put M p (.dic (Gp ([]++wk.bs.map (·.1)))) a=none:=by
   have hap:a≠p:=λe=>by rw[e,Dq]at ha;cases ha
   rw[DK hap]at ha ⊢;exact ha
  rw[Tc ha',FE];exact⟨rfl,rfl⟩
 rintro τ M' ⟨rfl,rfl⟩;refine⟨λτ M'=>τ=[some x,some y,some z,some (.ref p),some (.dic (E9 wk.ws)),some (.dic (E9 wk.ds)),none]/\M'=put M p (.dic (Gp (wk.bs.map (·.1)++wk.ds.map (·.1)))),?_,?_⟩
 .grind;refine⟨wk.ds,keep _ h2,?_⟩;rw[Vu Dq];refine⟨⟨by simp;ext,hd.2,(B7.mp hnd).1⟩,λa ha=>?_⟩;rw[R3,Dq];dsimp only
  have ha':put M p (.dic (Gp (wk.bs.map (·.1)++wk.ds.map (·.1)))) a=none:=by
   have hap:a≠p:=λe=>by rw[e,Dq]at ha;cases ha
   rw[DK hap]at ha ⊢;exact ha
  rw[Tc ha'];exact⟨rfl,rfl⟩
 rintro τ M' ⟨rfl,rfl⟩;refine⟨λτ M'=>∃v6,τ=[some x,some y,some z,some (.ref p),some (.dic (E9 wk.ws)),some (.dic (E9 wk.ds)),v6]/\M'=put M p (.dic (Gp (wk.bs.map (·.1)++wk.ds.map (·.1)++wk.rs.map (·.1)))),?_,?_⟩
 .grind;rw[keep _ h3,B3];refine⟨λk τ M'=>∃v6,τ=[some x,some y,some z,some (.ref p),some (.dic (E9 wk.ws)),some (.dic (E9 wk.ds)),v6]/\M'=put M p (.dic (Gp (wk.bs.map (·.1)++wk.ds.map (·.1)++(wk.rs.take k).map (·.1)))),⟨none,rfl,by simp⟩,?_,?_,?_⟩
  .rintro k τ M' ⟨v6,rfl,rfl⟩;exact keep _ h3
  .rintro k d τ M' hdk ⟨v6,rfl,rfl⟩;have hk:k<wk.rs.length:=by rw[<- hlen];exact(Ai.mp hdk).1
   have hrk:=Af hk;generalize wk.rs[k]=r at hrk;obtain⟨wx,rfl,hwx⟩:=hr1 k d r hdk hrk;obtain⟨nok,rok⟩:=hrr.2 r (AE hrk);have et:wk.rs.take (k+1)=wk.rs.take k++[r]:=by rw[BE,hrk];rfl
   have hkl:(wk.rs.take k).length<=8:=by rw[A6];ext
   have hnot:=aT (f:=λb:Str×Tm×List (Str×Tm)=>b.1) hnd hrk;grind;refine⟨r.1,r.2.1,wx,r.2.2,rfl,keep _ hwx,?_⟩;rw[Vu Dq];refine⟨⟨nok,hnot,by simp;ext,rok⟩,some (.tup [.str r.1,r.2.1.D,wx]),rfl,?_⟩;rw[R3,et,AM,<- Bq];rfl
  .rintro τ M' ⟨v6,rfl,rfl⟩;rw[hlen,BD];exact⟨v6,rfl,rfl⟩
 rintro τ M' ⟨v6,rfl,rfl⟩;grind;rw[ZI (keep _ h1),B3,ZI (keep _ h2),B3,keep _ h3,B3];have hsub:=Sub.put (o:=.dic (Gp (wk.bs.map (·.1)++wk.ds.map (·.1)++wk.rs.map (·.1)))) hp;have h3':=keep (.dic (Gp (wk.bs.map (·.1)++wk.ds.map (·.1)++wk.rs.map (·.1)))) h3
 have hr2:∀(i:Nat) x r,xs[i]? = some x->wk.rs[i]? = some r->lZ (put M p (.dic (Gp (wk.bs.map (·.1)++wk.ds.map (·.1)++wk.rs.map (·.1))))) x r:=λi x r hx hr=>by
  obtain⟨wx,e,hw⟩:=hr1 i x r hx hr;exact⟨wx,e,keep _ hw⟩
 generalize put M p (.dic (Gp (wk.bs.map (·.1)++wk.ds.map (·.1)++wk.rs.map (·.1))))=Mx at hsub h3' hr2 ⊢;refine⟨GR (by ext),λi ys M''=>M''=Mx/\ys=(wk.rs.take i).map Lw,⟨rfl,rfl⟩,?_,?_,?_⟩
 .rintro i ys M'' ⟨rfl,rfl⟩;exact⟨h3',by rw[Ab,A6];ext⟩
 .rintro i d ys M'' hdi ⟨rfl,rfl⟩;have hi:i<wk.rs.length:=by rw[<- hlen];exact(Ai.mp hdi).1
  have hri:=Af hi;generalize wk.rs[i]=r at hri;obtain⟨wx,rfl,hwx⟩:=hr2 i d r hdi hri;walk_at "cap";rw[ZI hwx,B3];rw[BE,hri,AM];rfl
 .rintro ys M'' ⟨rfl,rfl⟩;rw[hlen,BD];exact Qs hsub q
noncomputable def D9 (z:Str)(r:Str×Tm×List (Str×Tm)):Bool:=decide (r.1=z)
abbrev w4:Du:=λds M Q=>Fw ds λx y=>Gr y λz=>∃(wk:Wk) (r:Str×Tm×List (Str×Tm)),x=wk.D/\wk.rs.find? (D9 z)=some r/\Q (Lw r) M
theorem UC:Od T T.x43 1 w4:=by
 refine Cz.p2 T.x43.d.F ["works", "name", "rule"] λx y M Q hr nN h1=>?_;obtain⟨z,e1',wk,r,e2',hf,q⟩:_:=D8 h1;refine⟨_,(Fa (MM AQ rfl (Rf (Bl BJ (qv 0) Ak)) (Qy (i:=2) nN rfl (Cd rfl)) (qO (Ep (AV CJ (Bl BJ (qv 2) Ak) (qv 1)) (qO (Cr (qv 2))) qE))) (qO Oq)),?_⟩
 (try simp only[Md,Mb,Mc])
 refine⟨λ_ _=>False,?_,λ_ _ h=>h.elim⟩;simp only[Wk.D];grind;refine⟨λk τ M'=>∃v,τ=[some (.tup [.tup (wk.bs.map EU),.tup (wk.ds.map GJ),.tup (wk.rs.map Lw)]),some (.str z),v]/\M'=M/\(wk.rs.drop k).find? (D9 z)=some r,⟨none,rfl,rfl,hf⟩,λ_ _ _ _=>trivial,?_,?_⟩
 .intro k d τ M' hd;ext1⟨v,e1',e2',hk⟩;obtain⟨r',hr',rfl⟩:=Ps hd
  have e:wk.rs.drop k=r'::wk.rs.drop (k+1):=by
   obtain⟨hkl,e⟩:=Ai.mp hr';rw[<- e];exact Gw hkl
  rw[e,CG]at hk;simp only[Lw];grind;refine Cy (λc=>?_) λc=>?_
  .rw[show D9 z r'=true from decide_eq_true c]at hk;cases hk;exact Dn.of q
  .rw[show D9 z r'=false from decide_eq_false c]at hk;exact⟨_,rfl,hk⟩
 .intro τ M';ext1⟨v,e1',e2',hk⟩;rw[Ab,JS]at hk;cases hk
abbrev ZeX:Du:=λds M Q=>Ga ds λx=>∃wk:Wk,x=wk.D/\wk.Ok/\Q (.lst (wk.rs.map λr=>.str r.1)) M
theorem bH:Od T T.x44 1 ZeX:=by
 refine Cz.p1 T.x44.d.F ["works"] λx M Q hr nN h=>?_;obtain⟨wk,rfl,ok,q⟩:=h;refine⟨_,(qO (Cr (FP (caps:=[]) ⟨rfl,by rfl,by rfl,by rfl,rfl,by rfl,by nofun⟩ rfl (Rf (Bl BJ (qv 0) Ak)) (λ_ _ _ _ _ _=>(Bl BJ (qv 0) Ak))))),?_⟩;simp only[Wk.D];have hr8:=ok.r.1;right;refine Eg.of (ks:=wk.rs) (g:=Lw) (f:=λr=>.str r.1) (GR (by ext)) trivial (λb hb R r=>?_) ?_
 .simp only[Lw];walk_at "cap";exact r
 exact Dn.of q
theorem vC:∀(ps acc:List (Co×D)),((acc++ps).map (·.1)).Nodup->Ix acc ps=acc++ps
 |[],acc,_=>by rw[CT];rfl
 |p::ps,acc,h=>by
  have hn:H9 acc p.1 p.2=acc++[p]:=by
   unfold H9;rw[if_neg];intro hc;rw[DH]at hc;obtain⟨kv,hkv,he⟩:=hc;rw[AM,D4]at h;exact h.2.2 kv.1 (Ao.mpr ⟨kv,hkv,rfl⟩) p.1 (by simp) (of_decide_eq_true he)
  have ih:=vC ps (acc++[p]) (by rw[Bq];exact h);unfold Ix at ih ⊢;rw[DI,hn,ih,Bq];rfl
theorem aS (ps)(h:(ps.map (·.1)).Nodup):Ix [] ps=ps:=vC ps [] h
theorem jF (ws)(h:(ws.map (·.1)).Nodup):((E9 ws).map (·.1)).Nodup:=by
 unfold E9;rw[BI];have:E1 ((λx:Co×D=>x.1) ∘ λp:Str×Int=>((.inr p.1:Co),D.int p.2)) ws=(ws.map (·.1)).map F7:=by rw[BI];rfl
 rw[this];unfold Fh at h ⊢;rw[CW];exact h.imp λhab e=>hab (Fc e)
abbrev Ρ:Du:=λds M Q=>Ga ds λx=>∃wk:Wk,x=wk.D/\wk.Ok/\Q (.tup [.dic (E9 wk.ws),.dic (E9 wk.ds)]) M
theorem zx:Od T T.x45 1 Ρ:=by
 refine Cz.p1 T.x45.d.F ["works"] λx M Q hr nN h=>?_;obtain⟨wk,rfl,ok,q⟩:=h;refine⟨_,(qO (Cr (CC (qA (CB (aI rfl) T.B.dict O5 (qA (FP (caps:=[]) ⟨rfl,by rfl,by rfl,by rfl,rfl,by rfl,by nofun⟩ rfl (Rf (Bl BJ (qv 0) Ak)) (λ_ _ _ _ _ _=>(CC (qA (Bl BJ (qv 0) Ak) (qA (Bl BJ (qv 0) Ak) qN))))) qN)) (qA (CB (aI rfl) T.B.dict O5 (qA (FP (caps:=[]) ⟨rfl,by rfl,by rfl,by rfl,rfl,by rfl,by nofun⟩ rfl (Rf (Bl BJ (qv 0) Ak)) (λ_ _ _ _ _ _=>(CC (qA (Bl BJ (qv 0) Ak) (qA (Bl BJ (qv 0) Ak) qN))))) qN)) qN))))),?_⟩;simp only[Wk.D];have hb:=ok.b.1;have hd:=ok.d.1
 have n1:(wk.ws.map (·.1)).Nodup:=by
  have:=ok.nd;rw[Bq,D4]at this;have e:wk.ws.map (·.1)=wk.bs.map (·.1):=by unfold Wk.ws;rw[BI];rfl
  rw[e];exact this.1
 have n2:(wk.ds.map (·.1)).Nodup:=by
  have:=ok.nd;rw[D4]at this;exact(B7.mp this.1).2.1
 right;refine Eg.of (ks:=wk.bs) (g:=EU) (f:=λb=>.tup [.str b.1,.int b.2.1]) (GR (by ext)) trivial (λb hb R r=>?_) ?_
 .simp only[EU];walk_at "cap";exact r
 refine⟨E9 wk.ws,?_,GR (by unfold E9 Wk.ws;rw[Ab,Ab];ext),?_⟩
 .simp[Bi,G5,E9,Wk.ws,kD]
 rw[aS _ (jF _ n1)]
 (try grind)
 refine Eg.of (ks:=wk.ds) (g:=GJ) (f:=λb=>.tup [.str b.1,.int b.2]) (GR (by ext)) trivial (λb hb R r=>?_) ?_
 .simp only[GJ];walk_at "cap";exact r
 refine⟨E9 wk.ds,?_,GR (by unfold E9;rw[Ab];ext),?_⟩
 .simp[Bi,G5,E9,kD]
 rw[aS _ (jF _ n2)];exact Dn.of q
theorem qL (hp:M p=none)(h:Bi M x=some xs):Bi (put M p o) x=some xs:=by
 cases x with
 |ref q=>
  have hq:q≠p:=λe=>by subst e;simp[Bi,hp]at h
  unfold Bi at h ⊢;simp only[DK hq];exact h
 |_=>exact h
theorem kh (hp:M p=none)(h:E6 M x=some kvs):E6 (put M p o) x=some kvs:=by
 cases x with
 |ref q=>
  have hq:q≠p:=λe=>by subst e;simp[E6,hp]at h
  unfold E6 at h ⊢;simp only[DK hq];exact h
 |_=>exact h
noncomputable def gA (s z:Str)(w:Int)(k:Nat):D:=.tup [.str s,.str z,.int (w-1-k)]
noncomputable def Ki (s z:Str)(w:Int):List D:=(Bk w.toNat).map (gA s z w)
noncomputable def Ev (s:Str)(ws:List (Str×Int))(ss:List Str):List D:=ss.flatMap λz=>Ki s z ((ws.lookup z).getD 0)
theorem tE (h:∀z∈ss,∃w,ws.lookup z=some w/\1<=w/\w<=64):(Ev s ws ss).length<=ss.length*64:=by
 induction ss with
 |nil=>exact DO _
 |cons z ss ih=>obtain⟨w,e,h1,h2⟩:=h z AG;have:=ih λz hz=>h z (AF _ hz);unfold Ev at this ⊢;rw[List.flatMap_cons,As,e,AK,Ki,Ab,BX];simp only[Option.getD_some];ext
abbrev Zfc:Du:=λds M Q=>Jd ds λx y z=>Gr x λs=>∃(ss:List Str) (ws:List (Str×Int)),Bi M y=some (ss.map D.str)/\E6 M z=some (E9 ws)/\ss.length<=12/\(∀z∈ss,∃w,ws.lookup z=some w/\1<=w/\w<=64)/\∀p,M p=none->Q (.ref p) (put M p (.lst (Ev s ws ss)))
theorem VO:Od T T.x49 1 Zfc:=by
 refine Cz.p3 T.x49.d.F ["sort", "names", "widths", "bits", "name"] λx y z M Q hr nN h1=>?_;obtain⟨so,e1',ss,ws,hy,hz,l12,hw,q⟩:_:=D8 h1;refine⟨_,(qC (CA 3 nN (IZ qN)) (Fa (MM AQ rfl (Kr (qv 1)) (Qy (i:=4) nN rfl (FX rfl)) (qO (EZ (Kc AN Cq Cp R8 (qv 3) (qA (FP (caps:=[("sort",0),("name",4)]) ⟨rfl,by rfl,by rfl,by rfl,rfl,by rfl,by nofun⟩ rfl (u9 T.B.range (qA (BB Mo (FO (Kp hr) (qv 2) (qv 4) (λ_ _=>rfl)) Ak) (qA (Q0 ZJ Ak) (qA (Q0 ZJ Ak) qN)))) (λ_ _ _ _ _ _=>(CC (qA (qv 1) (qA (qv 2) (qA (qv 0) qN)))))) qN))))) (qO (Cr (qv 3))))),?_⟩;right;intro p hp;refine⟨λτ M'=>∃v4,M'=put M p (.lst (Ev so ws ss))/\τ=[some (.str so),some y,some z,some (.ref p),v4],?_,?_⟩
 .grind;rw[qL hp hy,B3];refine⟨λk τ M'=>∃v4,M'=put M p (.lst (Ev so ws (ss.take k)))/\τ=[some (.str so),some y,some z,some (.ref p),v4],⟨none,rfl,rfl⟩,λ_ _ _ ⟨_,h,_⟩=>(by rw[h];exact qL hp hy),?_,?_⟩
  .rintro k d τ M' hd ⟨v4,rfl,rfl⟩;obtain⟨nm,hn,rfl⟩:=Ps hd;obtain⟨wd,hl,w1,w64⟩:=hw nm (AE hn);grind;rw[kh hp hz,B3,iP,hl,Jh,B3];grind
   have rn:Pn (wd-1) (-1)=wd.toNat:=by
    unfold Pn;rw[if_pos (by ext)];ext
   have lt:=tE (s:=so) (ss:=ss.take k) λz hz=>hw z (Gm hz);rw[A6]at lt;have k12:=(Ai.mp hn).1;refine⟨⟨by ext,by ext⟩,?_⟩;rw[rn];unfold Me;refine Eg.of (f:=λk:Nat=>gA so nm wd k) (GR (by rw[BX];ext)) trivial (λi hi R q2=>?_) ?_
   .walk_at "cap";unfold gA at q2;rw[show wd-1+(i:Int)*-1=wd-1-i by ext];exact q2
   .rw[gE];refine⟨GR (by rw[Ab,BX];ext),_,?_,rfl⟩;unfold Ev;rw[BE,hn,OH];simp[hl,Ki]
  .rintro τ M' ⟨v4,rfl,rfl⟩;rw[Ab,BD];exact⟨v4,rfl,rfl⟩
 rintro τ M' ⟨v4,rfl,rfl⟩;grind;exact Dn.of (q p hp)
abbrev vf:Du:=λds M Q=>Fw ds λx y=>∃xs ys:List Str,Bi M x=some (xs.map D.str)/\Bi M y=some (ys.map D.str)/\xs.length<=12/\ys.length<=12/\Q (.lst ((KU xs ys).map D.str)) M
theorem aF:Od T T.x47 1 vf:=by
 refine Cz.p2 T.x47.d.F ["names", "others"] λx y M Q hr nN h=>?_;obtain⟨xs,ys,hx,hy,l1,l2,q⟩:_:=h;refine⟨_,(qO (Cr (Xr (.inl rfl) rfl T.B.sorted T.B.set (qv 0) (qv 1)))),?_⟩;have sb:(30:Nat)<Be:=by decide
 have f1:=Um xs;have f2:=Um ys;right;rw[hx,B3,Qx,B3];refine⟨by ext,by ext,?_⟩
 (try grind)
 rw[hy,B3,Qx,B3];refine⟨by ext,by ext,?_⟩
 (try grind)
 rw[show RJ .BitAnd xs ys=KU xs ys from if_pos rfl];exact Dn.of q
abbrev zr:Du:=λds M Q=>Fw ds λx y=>∃xs ys:List Str,Bi M x=some (xs.map D.str)/\Bi M y=some (ys.map D.str)/\xs.length<=12/\ys.length<=12/\Q (.lst ((La xs ys).map D.str)) M
theorem vK:Od T T.x48 1 zr:=by
 refine Cz.p2 T.x48.d.F ["names", "others"] λx y M Q hr nN h=>?_;obtain⟨xs,ys,hx,hy,l1,l2,q⟩:_:=h;refine⟨_,(qO (Cr (Xr (.inr rfl) rfl T.B.sorted T.B.set (qv 0) (qv 1)))),?_⟩;have sb:(30:Nat)<Be:=by decide
 have f1:=Um xs;have f2:=Um ys;right;rw[hx,B3,Qx,B3];refine⟨by ext,by ext,?_⟩
 (try grind)
 rw[hy,B3,Qx,B3];refine⟨by ext,by ext,?_⟩
 (try grind)
 rw[show RJ .BitXor xs ys=La xs ys from if_neg (by decide)];exact Dn.of q
theorem Tm.leaf_kid {t l:Tm}(hk:t.kids≠[])(h:l∈t.leaves):∃k∈t.kids,l∈k.leaves:=by
 cases t<;>simp[Tm.kids,Tm.leaves]at hk h ⊢
 .exact h
 .exact h
 .exact h
 .exact h
theorem Wd.leaf {w:Int}(h:Wd bs es t w):∀l∈t.leaves,∃a,Wd bs es l a:=by
 induction h with
 |num h=>intro l hl;cases AO.mp hl;exact⟨_,.num h⟩
 |box h=>intro l hl;cases AO.mp hl;exact⟨_,.box h⟩
 |late h=>intro l hl;cases AO.mp hl;exact⟨_,.late h⟩
 |door h=>intro l hl;cases AO.mp hl;exact⟨_,.door h⟩
 | @over t ws w hk ho ih=>
  intro l hl;obtain⟨e1,e2⟩:=Tm.over_len ho;obtain⟨k,mk,lk⟩:=Tm.leaf_kid e2 hl;obtain⟨i,hi,hik⟩:=List.getElem_of_mem mk;have hi2:i<ws.length:=by ext
  exact ih i k ws[i] (by rw[Af hi,hik]) (Af hi2) l lk
theorem Rc:∀(xs ys:List Str),xs.Nodup->(∀x∈xs,x∈ys)->xs.length<=ys.length
 |[],_,_,_=>DO _
 |x::xs,ys,nd,h=>by
  rw[Ez]at nd;have:=Rc xs (ys.erase x) nd.2 λy hy=>(N7 (by rintro rfl;exact nd.1 hy)).mpr (h y (AF _ hy));rw[LS (h x AG)]at this;have:=MA (h x AG);rw[AK];ext
theorem GU :x∈Iv xs↔x∈xs:=by
 unfold Iv;rw[List.mem_mergeSort];exact Ul xs x
theorem R5 (xs):(Iv xs).Nodup:=(DS _ _).nodup_iff.mpr (XX xs)
theorem VG {xs zs:List Str}(h:∀x∈xs,x∈zs):(Iv xs).length<=zs.length:=Rc _ _ (R5 xs) λx hx=>h x (GU.mp hx)
theorem VL {ws:List (Str×Int)}(h:ws.lookup x=some n):x∈ws.map (·.1):=by
 induction ws with
 |nil=>cases h
 |cons p ws ih=>
  rw[Bs]at h;split at h
  .next e=>exact Bc.mpr (.inl (eq_of_beq e))
  .exact AF _ (ih h)
theorem uB {w:Int}(h:Wd bs es t w)(hx:x∈t.names "box"\/x∈t.names "late"):∃n,bs.lookup x=some n:=by
 rcases hx with hx|hx<;>(
  obtain⟨l,hl,hn⟩:=CL.mp hx;obtain⟨a,ha⟩:=h.leaf l hl;have lk:=t.leaves_kids l hl;cases ha with
  |num _=>simp[Tm.nameOf]at hn
  |box e=>simp[Tm.nameOf]at hn;(try obtain⟨_,rfl⟩:=hn);(try subst hn);exact⟨_,e⟩
  |late e=>simp[Tm.nameOf]at hn;(try obtain⟨_,rfl⟩:=hn);(try subst hn);exact⟨_,e⟩
  |door e=>simp[Tm.nameOf,jV,jY]at hn
  | over _ ho=>exact absurd lk (Tm.over_len ho).2)
theorem wg {w:Int}(h:Wd bs es t w)(hx:x∈t.names "door"):∃n,es.lookup x=some n:=by
 obtain⟨l,hl,hn⟩:=CL.mp hx;obtain⟨a,ha⟩:=h.leaf l hl;have lk:=t.leaves_kids l hl;cases ha with
 |num _=>simp[Tm.nameOf]at hn
 |box e=>simp[Tm.nameOf,jW]at hn
 |late e=>simp[Tm.nameOf,kK]at hn
 |door e=>simp[Tm.nameOf]at hn;(try obtain⟨_,rfl⟩:=hn);(try subst hn);exact⟨_,e⟩
 |over _ ho=>exact absurd lk (Tm.over_len ho).2
theorem aJ {wk:Wk}(ok:wk.Ok)(h:wk.rs.find? (D9 z)=some r):r∈wk.rs/\QC wk.ws wk.ds r.2.1 r.2.2:=by
 have hm:=DA h;exact⟨hm,(ok.r.2 r hm).2⟩
noncomputable def He (g:Tm):List Str:=Iv (g.names "box")
noncomputable def Mj (g:Tm):List Str:=Iv (g.names "late")
noncomputable def GS (g:Tm):List Str:=Iv (g.names "door")
noncomputable def RU (ws ds:List (Str×Int))(g1 g2:Tm):List D:=
 Ev "box" ws (KU (He g1) (He g2))++Ev "door" ds (KU (GS g1) (GS g2))++Ev "box" ws (La (He g1) (He g2))++Ev "door" ds (La (GS g1) (GS g2))++Ev "one" ws (Mj g1)++Ev "other" ws (Mj g2)
structure E7 (wk:Wk)(g:Tm):Prop where
 t:g.deep<=12/\g.parts<=100
 b:∀x,x∈g.names "box"\/x∈g.names "late"->x∈wk.ws.map (·.1)/\∃n,wk.ws.lookup x=some n/\1<=n/\n<=64
 d:∀x∈g.names "door",x∈wk.ds.map (·.1)/\∃n,wk.ds.lookup x=some n/\1<=n/\n<=64
 l:(He g).length<=12/\(Mj g).length<=12/\(GS g).length<=12
theorem sD {ws:List (Str×Int)}(h:ws.lookup x=some n):(x,n)∈ws:=by
 induction ws with
 |nil=>cases h
 |cons p ws ih=>
  rw[Bs]at h;split at h
  .next e=>cases h;rw[eq_of_beq e];exact AG
  .exact AF _ (ih h)
theorem E7.of {wk:Wk}(ok:wk.Ok){g:Tm}(h:NO wk.ws wk.ds g 1):E7 wk g:=by
 have hb:∀x,x∈g.names "box"\/x∈g.names "late"->x∈wk.ws.map (·.1)/\∃n,wk.ws.lookup x=some n/\1<=n/\n<=64:=λx hx=>by
  obtain⟨n,e⟩:=uB h.2 hx;refine⟨VL e,n,e,?_⟩;have:=sD e;unfold Wk.ws at this;obtain⟨b,hb,e2⟩:=Ao.mp this;cases e2;exact⟨(ok.b.2 b hb).2.1,(ok.b.2 b hb).2.2.1⟩
 have hd:∀x∈g.names "door",x∈wk.ds.map (·.1)/\∃n,wk.ds.lookup x=some n/\1<=n/\n<=64:=λx hx=>by
  obtain⟨n,e⟩:=wg h.2 hx;exact⟨VL e,n,e,(ok.d.2 _ (sD e)).2⟩
 have l1:=ok.b.1;have l2:=ok.d.1;have lw:(wk.ws.map (·.1)).length<=12:=by unfold Wk.ws;rw[Ab,Ab];exact l1
 have ld:(wk.ds.map (·.1)).length<=12:=by rw[Ab];ext
 exact⟨⟨h.1.2,h.1.1⟩,hb,hd,A7 (VG λx hx=>(hb x (.inl hx)).1) lw,A7 (VG λx hx=>(hb x (.inr hx)).1) lw,A7 (VG λx hx=>(hd x hx).1) ld⟩
theorem E7.few (h:E7 wk g):∀f,Ms f->(fm (g.names f)).length<64:=by
 obtain⟨l1,l2,l3⟩:=h.l;unfold He at l1;unfold Mj at l2;unfold GS at l3;rw[iX]at l1 l2 l3;rintro f (rfl|rfl|rfl)<;>ext
def UE (M:Mp)(g:Tm)(v:D):Prop:=∃a0 a1 a2,v=.tup [.ref a0,.ref a1,.ref a2]/\M a0=some (LZ "box" g)/\M a1=some (LZ "late" g)/\M a2=some (LZ "door" g)
theorem UE.sub (h:UE M g v)(s:Sub M M'):UE M' g v:=by
 obtain⟨a0,a1,a2,e,h0,h1,h2⟩:=h;exact⟨a0,a1,a2,e,s _ _ h0,s _ _ h1,s _ _ h2⟩
theorem pF (m0:M p0=none)(m1:M p1=none)(m2:M p2=none)(n1:¬p1=p0)(n2:¬p2=p0)(n3:¬p2=p1):Sub M (put (put (put M p0 (LZ "box" g)) p1 (LZ "late" g)) p2 (LZ "door" g))/\UE (put (put (put M p0 (LZ "box" g)) p1 (LZ "late" g)) p2 (LZ "door" g)) g (.tup [.ref p0,.ref p1,.ref p2]):=by
 refine⟨Sub.puts (Sub.puts (Sub.put m0) m1) m2,p0,p1,p2,rfl,?_,?_,?_⟩
 .rw[DK (Bj n2),DK (Bj n1),Dq]
 .rw[DK (Bj n3),Dq]
 .rw[Dq]
theorem VJ (l:ss.length<=12)(h:∀z∈ss,∃w,ws.lookup z=some w/\1<=w/\w<=64):(Ev s ws ss).length<=768:=by
 have:=tE (s:=s) h;ext
theorem IT {M:Mp}{p:Av}{xs:List D}(h:M p=some (.lst xs)):QW M (.ref p)=some "list":=Zo h
theorem oC (h:M p=some (.lst xs))(hy:Bi M y=some ys):Gi (.ref p) [y] M Q=(xs.length+ys.length<=Am/\Q .non (put M p (.lst (xs++ys)))):=by
 unfold Gi;rw[Qr,ZE,h];simp only[hy,B3]
theorem r9 {M2 M3:Mp}(hs:Sub M2 M3)(hp:M2 p=none)(h:M3 p=some (.lst row))(hp':M3 p'=none)(h1:row.length<=5000)(h2:bs.length<=768)(q:∀M4,Sub M2 M4->M4 p=some (.lst (row++bs))->Q .non M4):Gi (.ref p) [.ref p'] (put M3 p' (.lst bs)) Q:=by
 have hM2:M2 p'=none:=by
  cases e:M2 p' with
  |none=>rfl
  |some o=>rw[hs p' o e]at hp';cases hp'
 have ne:p≠p':=λe=>by rw[e,hp']at h;cases h
 rw[oC (by rw[DK ne];exact h) (On Dq)];have:(6000:Nat)<=Am:=by decide
 exact⟨by ext,q _ (Sub.puts (Sub.puts hs hM2) hp) Dq⟩
section
variable (wk:Wk)(g1 g2:Tm)
noncomputable abbrev mP:=Ev "box" wk.ws (KU (He g1) (He g2))
noncomputable abbrev mO:=mP wk g1 g2++Ev "door" wk.ds (KU (GS g1) (GS g2))
noncomputable abbrev mN:=mO wk g1 g2++Ev "box" wk.ws (La (He g1) (He g2))
noncomputable abbrev mM:=mN wk g1 g2++Ev "door" wk.ds (La (GS g1) (GS g2))
noncomputable abbrev mL:=mM wk g1 g2++Ev "one" wk.ws (Mj g1)
noncomputable abbrev xU:=mL wk g1 g2++Ev "other" wk.ws (Mj g2)
end
noncomputable abbrev sQ (wk:Wk)(a b:Str)(u v x:Option D:=none):Gy:=[some wk.D,some (.str a),some (.str b),some (.tup [.dic (E9 wk.ws),.dic (E9 wk.ds)]),u,v,x]
abbrev UO (M2 M:Mp)(p:Av)(row:List D)(n:Nat):Prop:=Sub M2 M/\M2 p=none/\M p=some (.lst row)/\row.length<=n
abbrev O0 (wk:Wk)(a b:Str)(a0 a1 a2 b0 b1 b2:Av)(M2:Mp)(row:List D)(n:Nat)(τ:Gy)(M:Mp):Prop:=∃p,UO M2 M p row n/\τ=sQ wk a b (some (.tup [.ref a0,.ref a1,.ref a2])) (some (.tup [.ref b0,.ref b1,.ref b2])) (some (.ref p))
theorem Yc {M2 M3:Mp}(j:UO M2 M3 p row n)(hn:n<=5000)(hp':M3 p'=none)(h2:bs.length<=768)(q:∀M4,UO M2 M4 p (row++bs) (n+768)->Q .non M4):Gi (.ref p) [.ref p'] (put M3 p' (.lst bs)) Q:=r9 j.1 j.2.1 j.2.2.1 hp' (A7 j.2.2.2 hn) h2 λM4 h h'=>q M4 ⟨h,j.2.1,h',by rw[As];exact Nat.add_le_add j.2.2.2 h2⟩
abbrev Zfd:Du:=λds M Q=>Jd ds λx y z=>Gr y λa=>Gr z λb=>∃(wk:Wk) (r1 r2:Str×Tm×List (Str×Tm)),x=wk.D/\wk.Ok/\wk.rs.find? (D9 a)=some r1/\wk.rs.find? (D9 b)=some r2/\∀p,M p=none->Q (.ref p) (put M p (.lst (RU wk.ws wk.ds r1.2.1 r2.2.1)))
theorem Χ:Od T T.x46 17 Zfd:=by
 refine Cz.p3 T.x46.d.F ["works", "one", "other", "widths", "mine", "yours", "row"] λx y z M Q hr nN h1=>?_;obtain⟨a,rfl,h2⟩:=D8 h1;obtain⟨b,e1',wk,r1,r2,e2',ok,f1,f2,q⟩:_:=D8 h2;have o1:=(aJ ok f1).2.g;have o2:=(aJ ok f2).2.g;refine⟨_,(Fa (CA 3 nN (Aw T.x45.d (zx T) nofun (qA (qv 0) qN))) (Fa (CA 4 nN (Aw T.x17.d (aN T) nofun (qA (Bl BJ (Aw T.x43.d (UC T) nofun (qA (qv 0) (qA (qv 1) qN))) Ak) qN))) (Fa (CA 5 nN (Aw T.x17.d (aN T) nofun (qA (Bl BJ (Aw T.x43.d (UC T) nofun (qA (qv 0) (qA (qv 2) qN))) Ak) qN))) (Fa (CA 6 nN (Aw T.x49.d (VO T) nofun (qA BV (qA (Aw T.x47.d (aF T) nofun (qA (Bl BJ (qv 4) Ak) (qA (Bl BJ (qv 5) Ak) qN))) (qA (Bl BJ (qv 3) Ak) qN))))) (Fa (EZ (Kc AN Cq Cp R8 (qv 6) (qA (Aw T.x49.d (VO T) nofun (qA BV (qA (Aw T.x47.d (aF T) nofun (qA (Bl BJ (qv 4) Ak) (qA (Bl BJ (qv 5) Ak) qN))) (qA (Bl BJ (qv 3) Ak) qN)))) qN))) (Fa (EZ (Kc AN Cq Cp R8 (qv 6) (qA (Aw T.x49.d (VO T) nofun (qA BV (qA (Aw T.x48.d (vK T) nofun (qA (Bl BJ (qv 4) Ak) (qA (Bl BJ (qv 5) Ak) qN))) (qA (Bl BJ (qv 3) Ak) qN)))) qN))) (Fa (EZ (Kc AN Cq Cp R8 (qv 6) (qA (Aw T.x49.d (VO T) nofun (qA BV (qA (Aw T.x48.d (vK T) nofun (qA (Bl BJ (qv 4) Ak) (qA (Bl BJ (qv 5) Ak) qN))) (qA (Bl BJ (qv 3) Ak) qN)))) qN))) (Fa (EZ (Kc AN Cq Cp R8 (qv 6) (qA (Aw T.x49.d (VO T) nofun (qA BV (qA (Bl BJ (qv 4) Ak) (qA (Bl BJ (qv 3) Ak) qN)))) qN))) (Fa (EZ (Kc AN Cq Cp R8 (qv 6) (qA (Aw T.x49.d (VO T) nofun (qA BV (qA (Bl BJ (qv 5) Ak) (qA (Bl BJ (qv 3) Ak) qN)))) qN))) (qO (Cr (qv 6)))))))))))),?_⟩
 (try simp only[Md,Mb,Mc])
 refine⟨λτ M'=>M'=M/\τ=sQ wk a b,?_,?_⟩
 .grind;exact⟨wk,rfl,ok,rfl⟩
 rintro τ M' ⟨rfl,rfl⟩;have k1:=E7.of ok o1;have k2:=E7.of ok o2;refine⟨λτ M1=>∃u,(Sub M' M1/\UE M1 r1.2.1 u)/\τ=sQ wk a b (some u),?_,?_⟩
 .grind;refine⟨wk,r1,rfl,f1,?_⟩;simp only[Lw];grind;refine⟨k1.t.1,A7 k1.t.2 (by decide),k1.few,λp0 p1 p2 m0 m1 m2 n1 n2 n3=>?_⟩;obtain⟨h1,h2⟩:=pF (g:=r1.2.1) m0 m1 m2 n1 n2 n3;exact⟨_,⟨h1,h2⟩,rfl⟩
 intro τ M1;ext1⟨u1,⟨sb1,six1⟩,e1'⟩;refine⟨λτ M2=>∃u,(Sub M' M2/\UE M2 r1.2.1 u1/\UE M2 r2.2.1 u)/\τ=sQ wk a b (some u1) (some u),?_,?_⟩
 .grind;refine⟨wk,r2,rfl,f2,?_⟩;simp only[Lw];grind;refine⟨k2.t.1,A7 k2.t.2 (by decide),k2.few,λp0 p1 p2 m0 m1 m2 n1 n2 n3=>?_⟩;obtain⟨h1,h2⟩:=pF (g:=r2.2.1) m0 m1 m2 n1 n2 n3;exact⟨_,⟨sb1.trans h1,six1.sub h1,h2⟩,rfl⟩
 intro τ M2;ext1⟨u2,⟨sb2,⟨a0,a1,a2,e1',A0,A1,A2⟩,⟨b0,b1,b2,e2',B0,B1,B2⟩⟩,e3'⟩;have mS:∀{x:Str} {xs ys:List Str},x∈KU xs ys->x∈xs:=λh=>(AX.mp (GU.mp h)).1;have hS:∀{xs ys:List Str},xs.length<=12->(KU xs ys).length<=12:=λh=>A7 (VG λx hx=>(AX.mp hx).1) h
 have mU:∀{x:Str} {xs ys:List Str},x∈La xs ys->x∈xs\/x∈ys:=λh=>by
  rcases AY.mp (GU.mp h)with h|h
  .exact .inr (AX.mp h).1
  .exact .inl (AX.mp h).1
 have lU1:=A7 (VG (zs:=wk.ws.map (·.1)) λx hx=>(mU (GU.mpr hx)).elim (λh=>(k1.b _ (.inl (GU.mp h))).1) λh=>(k2.b _ (.inl (GU.mp h))).1) (by unfold Wk.ws;rw[Ab,Ab];exact ok.b.1);have lU2:(La (GS r1.2.1) (GS r2.2.1)).length<=12:=A7 (VG (zs:=wk.ds.map (·.1)) λx hx=>(mU (GU.mpr hx)).elim (λh=>(k1.d _ (GU.mp h)).1) λh=>(k2.d _ (GU.mp h)).1) (by rw[Ab];have:=ok.d.1;ext);have dB:∀{g x},E7 wk g->x∈He g->∃n,wk.ws.lookup x=some n/\1<=n/\n<=64:=λk hx=>(k.b _ (.inl (GU.mp hx))).2;have dL:∀{g x},E7 wk g->x∈Mj g->∃n,wk.ws.lookup x=some n/\1<=n/\n<=64:=λk hx=>(k.b _ (.inr (GU.mp hx))).2;have dD:∀{g x},E7 wk g->x∈GS g->∃n,wk.ds.lookup x=some n/\1<=n/\n<=64:=λk hx=>(k.d _ (GU.mp hx)).2;have e0:=λz hz=>dB k1 (mS (x:=z) (xs:=He r1.2.1) (ys:=He r2.2.1) hz);have e1:=λz hz=>dD k1 (mS (x:=z) (xs:=GS r1.2.1) (ys:=GS r2.2.1) hz);have e2:=λz hz=>(mU (x:=z) (xs:=He r1.2.1) (ys:=He r2.2.1) hz).elim (dB k1) (dB k2);have e3:=λz hz=>(mU (x:=z) (xs:=GS r1.2.1) (ys:=GS r2.2.1) hz).elim (dD k1) (dD k2);refine⟨O0 wk a b a0 a1 a2 b0 b1 b2 M2 (mP wk r1.2.1 r2.2.1) 768,?_,?_⟩
 .grind;refine⟨He r1.2.1,He r2.2.1,On A0,On B0,k1.l.1,k2.l.1,?_⟩
  (try grind)
  exact⟨_,wk.ws,rfl,rfl,hS k1.l.1,e0,λp hp=>⟨p,⟨Sub.put hp,hp,Dq,VJ (hS k1.l.1) e0⟩,rfl⟩⟩
 rintro τ M3 ⟨p,j,rfl⟩;refine⟨O0 wk a b a0 a1 a2 b0 b1 b2 M2 (mO wk r1.2.1 r2.2.1) 1536,?_,?_⟩
 .grind;refine⟨IT j.2.2.1,GS r1.2.1,GS r2.2.1,On (j.1 _ _ A2),On (j.1 _ _ B2),k1.l.2.2,k2.l.2.2,?_⟩
  (try grind)
  exact⟨_,wk.ds,rfl,rfl,hS k1.l.2.2,e1,λp' h=>Yc j (by decide) h (VJ (hS k1.l.2.2) e1) λM4 h=>⟨p,h,rfl⟩⟩
 clear j;rintro τ M3 ⟨p,j,rfl⟩;refine⟨O0 wk a b a0 a1 a2 b0 b1 b2 M2 (mN wk r1.2.1 r2.2.1) 2304,?_,?_⟩
 .grind;refine⟨IT j.2.2.1,He r1.2.1,He r2.2.1,On (j.1 _ _ A0),On (j.1 _ _ B0),k1.l.1,k2.l.1,?_⟩
  (try grind)
  exact⟨_,wk.ws,rfl,rfl,lU1,e2,λp' h=>Yc j (by decide) h (VJ lU1 e2) λM4 h=>⟨p,h,rfl⟩⟩
 clear j;rintro τ M3 ⟨p,j,rfl⟩;refine⟨O0 wk a b a0 a1 a2 b0 b1 b2 M2 (mM wk r1.2.1 r2.2.1) 3072,?_,?_⟩
 .grind;refine⟨IT j.2.2.1,GS r1.2.1,GS r2.2.1,On (j.1 _ _ A2),On (j.1 _ _ B2),k1.l.2.2,k2.l.2.2,?_⟩
  (try grind)
  exact⟨_,wk.ds,rfl,rfl,lU2,e3,λp' h=>Yc j (by decide) h (VJ lU2 e3) λM4 h=>⟨p,h,rfl⟩⟩
 clear j;rintro τ M3 ⟨p,j,rfl⟩;refine⟨O0 wk a b a0 a1 a2 b0 b1 b2 M2 (mL wk r1.2.1 r2.2.1) 3840,?_,?_⟩
 .grind;exact⟨IT j.2.2.1,Mj r1.2.1,wk.ws,On (j.1 _ _ A1),rfl,k1.l.2.1,λz=>dL k1,λp' h=>Yc j (by decide) h (VJ k1.l.2.1 λz=>dL k1) λM4 h=>⟨p,h,rfl⟩⟩
 clear j;rintro τ M3 ⟨p,j,rfl⟩;refine⟨O0 wk a b a0 a1 a2 b0 b1 b2 M2 (xU wk r1.2.1 r2.2.1) 4608,?_,?_⟩
 .grind;exact⟨IT j.2.2.1,Mj r2.2.1,wk.ws,On (j.1 _ _ B1),rfl,k2.l.2.1,λz=>dL k2,λp' h=>Yc j (by decide) h (VJ k2.l.2.1 λz=>dL k2) λM4 h=>⟨p,h,rfl⟩⟩
 clear j;intro τ M3;ext1⟨p,⟨sb3,hp,hM,-⟩,e1'⟩;grind;refine Qs (M:=put M' p (.lst (RU wk.ws wk.ds r1.2.1 r2.2.1))) (λx o e=>?_) (q p ?_)
 .by_cases c:x=p
  .subst c;rw[Dq]at e;rw[<- e];exact hM
  .rw[DK c]at e;exact sb3 _ _ (sb2 _ _ e)
 .cases e:M' p with
  |none=>rfl
  |some o=>rw[sb2 p o e]at hp;cases hp
noncomputable def bD (b:Str×Str×Nat):D:=.tup [.str b.1,.str b.2.1,.int b.2.2]
structure KA where
 o:Av
 q:Av
 m:Av
 d:Av
 b:Av
 e:Av
 f:Av
 g:Av
def Kt (s:Str):Prop:=s = "box"\/s = "door"\/s = "one"\/s = "other"
noncomputable def KA.at (A:KA)(s:Str):Av:=if s = "box" then A.b else if s = "door" then A.e else if s = "one" then A.f else A.g
noncomputable def Lc (row:List (Str×Str×Nat))(ks:List Int)(s z:Str)(w:Nat):List Int:=(Bk w).map λp=>ks.getD (row.idxOf (s,z,p)) 2
noncomputable def HI (row:List (Str×Str×Nat))(ks:List Int)(E:Str->List (Str×Nat))(s:Str):List (Co×D):=(E s).map λn=>(.inr n.1,MH (Lc row ks s n.1 n.2))
noncomputable def IV (A:KA):List (Co×D):=[(.inr "box",.ref A.b),(.inr "door",.ref A.e),(.inr "one",.ref A.f),(.inr "other",.ref A.g)]
noncomputable def ML (A:KA):List (Str×D):=[("row",.ref A.q),("marks",.ref A.m),("spans",.ref A.d)]
theorem oM (A:KA):BH (Al "row") (ML A)=some (.ref A.q):=by
 unfold ML;rw[Bs,show((Al "row":Str) == ("row":Str))=true by nofun]
theorem Qz (A:KA):BH (Al "marks") (ML A)=some (.ref A.m):=by
 unfold ML;rw[Bs,show((Al "marks":Str) == ("row":Str))=false by nofun,Bs,show((Al "marks":Str) == ("marks":Str))=true by nofun]
theorem Ys (A:KA):BH (Al "spans") (ML A)=some (.ref A.d):=by
 unfold ML;rw[Bs,show((Al "spans":Str) == ("row":Str))=false by nofun,Bs,show((Al "spans":Str) == ("marks":Str))=false by nofun,Bs,show((Al "spans":Str) == ("spans":Str))=true by nofun]
theorem Q9 {M:Mp}{p:Av}{kvs:List (Co×D)}(h:M p=some (.dic kvs)):E6 M (.ref p)=some kvs:=by simp[E6,h]
structure FT (C:Av)(M:Mp)(A:KA)(E:Str->List (Str×Nat))(row:List (Str×Str×Nat))(ms ks:List Int):Prop where
 o:M A.o=some (.obj C (ML A))
 q:M A.q=some (.lst (row.map bD))
 m:M A.m=some (.lst (ms.map D.int))
 d:M A.d=some (.dic (IV A))
 s:∀s,Kt s->M (A.at s)=some (.dic (HI row ks E s))
 nd:[A.b,A.e,A.f,A.g].Nodup
 qm:A.q≠A.m
structure NR (E:Str->List (Str×Nat))(row:List (Str×Str×Nat)):Prop where
 nd:row.Nodup
 k:∀b∈row,Kt b.1/\∃w,(b.2.1,w)∈E b.1/\b.2.2<w
 e:∀s,((E s).map (·.1)).Nodup/\(E s).length<=12/\∀n∈E s,1<=n.2/\n.2<=64
 l:row.length<=5000
def Ja (A:KA)(M M':Mp):Prop:=∀p,p∉[A.m,A.b,A.e,A.f,A.g]->M' p=M p
theorem Ja.refl (A:KA)(M:Mp):Ja A M M:=λ_ _=>rfl
theorem Ja.trans {A:KA}{M M1 M2:Mp}(h:Ja A M M1)(g:Ja A M1 M2):Ja A M M2:=λp hp=>(g p hp).trans (h p hp)
theorem gU (A:KA)(s:Str):A.at s∈[A.m,A.b,A.e,A.f,A.g]:=by
 unfold KA.at
 split
 .simp
 .split
  .simp
  .split<;>simp
theorem Ug (A:KA):A.at "box" = A.b:=if_pos rfl
theorem Uo (A:KA):A.at "door" = A.e:=by unfold KA.at;rw[if_neg (by nofun),if_pos rfl]
theorem Uh (A:KA):A.at "one" = A.f:=by unfold KA.at;rw[if_neg (by nofun),if_neg (by nofun),if_pos rfl]
theorem Uu (A:KA):A.at "other" = A.g:=by unfold KA.at;rw[if_neg (by nofun),if_neg (by nofun),if_neg (by nofun)]
theorem pA {A:KA}(nd:[A.b,A.e,A.f,A.g].Nodup)(hs:Kt s)(ht:Kt t)(h:A.at s=A.at t):s=t:=by
 simp only[Ez,BA,AR,or_false,not_or]at nd;obtain⟨⟨n1,n2,n3⟩,⟨n4,n5⟩,n6,-⟩:=nd;rcases hs with rfl|rfl|rfl|rfl<;>rcases ht with rfl|rfl|rfl|rfl<;>simp only[Ug,Uo,Uh,Uu]at h<;>first|rfl|exact absurd h ‹_› | exact absurd h.symm ‹_›
theorem i8 (A:KA):((IV A).map (·.1)).Nodup:=by
 show([.inr "box",.inr "door",.inr "one",.inr "other"]:List Co).Nodup;nofun
theorem VC {A:KA}{s:Str}(h:Kt s):DJ (IV A) (.inr s)=some (.ref (A.at s)):=by
 refine aQ (i8 A) ?_;rcases h with rfl|rfl|rfl|rfl<;>simp only[Ug,Uo,Uh,Uu,IV]<;>simp
def Tf (i:Nat)(m:Int)(ks ks':List Int):Prop:=ks'.getD i 2=m/\∀j,j≠i->ks'.getD j 2=ks.getD j 2
theorem Z9 (row:List (Str×Str×Nat))(ks:List Int)(s z:Str)(w:Nat):(Lc row ks s z w).length=w:=by unfold Lc;rw[Ab,BX]
theorem al {row:List (Str×Str×Nat)}(nd:row.Nodup)(h:row[i]? = some b):row.idxOf b=i:=by
 obtain⟨hi,e⟩:=Ai.mp h;have hl:=FY (AE h);have e2:=Ph hl;exact(Jj nd).mp (e2.trans e.symm)
theorem oG {row:List (Str×Str×Nat)}(h:row[i]? = some b)(ne:c≠b):row.idxOf c≠i:=λe=>by
 obtain⟨hi,e1⟩:=Ai.mp h;have hl:row.idxOf c<row.length:=by ext
 have e2:=Ph hl;exact ne (by rw[<- e1,<- e2];congr 1)
theorem ng (nd:row.Nodup)(c:Tf i m ks ks'){p w:Nat}(h:row[i]? = some (s,z,p))(hp:p<w):Lc row ks' s z w=(Lc row ks s z w).set p m:=by
 refine Fn λj=>?_;unfold Lc;rw[PM,AJ,AJ,Ab,BX];by_cases e:p=j
 .subst e;rw[if_pos rfl,if_pos hp,EC hp];show some (ks'.getD (row.idxOf (s,z,p)) 2)=_;rw[al nd h,c.1]
 .rw[if_neg e];rcases GZ j w with hj|hj
  .rw[EC hj];show some (ks'.getD (row.idxOf (s,z,j)) 2)=some (ks.getD (row.idxOf (s,z,j)) 2);rw[c.2 _ (oG h λe2=>e (by cases e2;rfl))]
  .rw[Bv (by rw[BX];exact hj)];rfl
theorem sE {row:List (Str×Str×Nat)}{ks ks':List Int}{i:Nat}{m:Int}(c:Tf i m ks ks'){s z:Str}{p:Nat}(h:row[i]? = some (s,z,p)){s' z':Str}(ne:¬(s'=s/\z'=z))(w:Nat):Lc row ks' s' z' w=Lc row ks s' z' w:=by
 unfold Lc;refine EA λj _=>?_;exact c.2 _ (oG h λe2=>ne (by cases e2;exact⟨rfl,rfl⟩))
theorem ve (c:Tf i m ks ks')(h:row[i]? = some (s,z,p))(ne:s'≠s):HI row ks' E s'=HI row ks E s':=by
 unfold HI;refine EA λn _=>?_;rw[sE c h (λe=>ne e.1)]
theorem iW {w:Nat}(nd:((E s).map (·.1)).Nodup)(h:(z,w)∈E s):DJ (HI row ks E s) (.inr z)=some (MH (Lc row ks s z w)):=by
 refine aQ ?_ (Ao.mpr ⟨(z,w),h,rfl⟩);unfold HI;rw[BI];have e:E1 ((λx:Co×D=>x.1) ∘ λn:Str×Nat=>((.inr n.1:Co),MH (Lc row ks s n.1 n.2))) (E s)=((E s).map (·.1)).map F7:=by rw[BI];rfl
 rw[e];unfold Fh at nd ⊢;rw[CW];exact nd.imp λhab e=>hab (Fc e)
theorem pi (rn:row.Nodup)(c:Tf i m ks ks'){p w:Nat}(h:row[i]? = some (s,z,p))(hp:p<w)(nd:((E s).map (·.1)).Nodup)(hz:(z,w)∈E s):H9 (HI row ks E s) (.inr z) (MH ((Lc row ks s z w).set p m))=HI row ks' E s:=by
 have hany:((HI row ks E s).any λkv=>decide (kv.1=.inr z))=true:=DH.mpr ⟨_,Ao.mpr ⟨(z,w),hz,rfl⟩,decide_eq_true rfl⟩;unfold H9;rw[if_pos hany];unfold HI;rw[BI];refine EA λn hn=>?_;show(if (F7 n.1:Co)=.inr z then _ else _)=_;by_cases e:n.1=z
 .have e2:n=(z,w):=by
   obtain⟨i1,h1⟩:=Bw.mp hn;obtain⟨i2,h2⟩:=Bw.mp hz;have g1:((E s).map (·.1))[i1]? = some z:=by rw[AJ,h1,<- e];rfl
   have g2:((E s).map (·.1))[i2]? = some z:=by rw[AJ,h2];rfl
   obtain⟨l1,f1⟩:=Ai.mp g1;obtain⟨l2,f2⟩:=Ai.mp g2;have:=(Jj nd).mp (f1.trans f2.symm);subst this;exact A8 (h1.symm.trans h2)
  subst e2;rw[if_pos rfl,ng rn c h hp]
 .rw[if_neg (λe2=>e (Fc e2)),sE c h (λe2=>e e2.2)]
theorem c7 {C:Av}{M:Mp}{A:KA}{E:Str->List (Str×Nat)}{row:List (Str×Str×Nat)}{ms ks ks':List Int}{i:Nat}{m:Int}{so z:Str}{pl:Nat}(kn:FT C M A E row ms ks)(hs:Kt so)(c:Tf i m ks ks')(h:row[i]? = some (so,z,pl)):FT C (put M (A.at so) (.dic (HI row ks' E so))) A E row ms ks'/\Ja A M (put M (A.at so) (.dic (HI row ks' E so))):=by
 have Vp:=kn.s so hs
 have n1:∀{x:Av} {o:MO},M x=some o->(∀kvs,o≠.dic kvs)->x≠A.at so:=λ{x o} hx hn e=>by
  rw[e,Vp]at hx;cases hx;exact hn _ rfl
 have nd:A.d≠A.at so:=λe=>by
  have hd:=kn.d;rw[e,Vp]at hd;have e2:HI row ks E so=IV A:=by injection hd with h;injection h
  unfold HI IV at e2;cases hE:E so with
  |nil=>rw[hE]at e2;cases e2
  |cons n r=>rw[hE,AT]at e2;have e3:=congrArg Sh (Pk e2).1;unfold MH at e3;cases e3
 refine⟨⟨by rw[DK (n1 kn.o (λ_ e=>nomatch e))];exact kn.o,by rw[DK (n1 kn.q (λ_ e=>nomatch e))];exact kn.q,by rw[DK (n1 kn.m (λ_ e=>nomatch e))];exact kn.m,by rw[DK nd];exact kn.d,λs' h'=>?_,kn.nd,kn.qm⟩,λx hx=>?_⟩
 .by_cases e:s'=so
  .subst e;rw[Dq]
  .rw[DK (λe2=>e (pA kn.nd h' hs e2)),kn.s s' h',ve c h e]
 .exact DK λe=>hx (e ▸ gU A so)
theorem oI {C:Av}{M:Mp}{A:KA}{E:Str->List (Str×Nat)}{row:List (Str×Str×Nat)}{ms ks:List Int}(kn:FT C M A E row ms ks)(ms':List Int):FT C (put M A.m (.lst (ms'.map D.int))) A E row ms' ks/\Ja A M (put M A.m (.lst (ms'.map D.int))):=by
 have no:A.o≠A.m:=λe=>by have h:=kn.o;rw[e,kn.m]at h;cases h
 have nd:A.d≠A.m:=λe=>by have h:=kn.d;rw[e,kn.m]at h;cases h
 have ns:∀s,Kt s->A.at s≠A.m:=λs hs e=>by have h:=kn.s s hs;rw[e,kn.m]at h;cases h
 refine⟨⟨by rw[DK no];exact kn.o,by rw[DK kn.qm];exact kn.q,Dq,by rw[DK nd];exact kn.d,λs hs=>by rw[DK (ns s hs)];exact kn.s s hs,kn.nd,kn.qm⟩,λx hx=>DK λe=>hx (by rw[e];exact AG)⟩
theorem tJ (ks:List Int)(m:Int):Tf ks.length m ks (ks++[m]):=by
 refine⟨by rw[Ch,Cg (AH _),Ky];rfl,λj hj=>?_⟩;rw[Ch,Ch];rcases GZ j ks.length with h|h
 .rw[CZ h]
 .rw[Bv (by rw[As];show ks.length+1<=j;ext),Bv h]
theorem xm (ks:List Int)(m:Int):Tf ks.length 2 (ks++[m]) ks:=by
 refine⟨by rw[Ch,Bv (AH _)];rfl,λj hj=>((tJ ks m).2 j hj).symm⟩
theorem LC {A:KA}{m:Str}(h1:(m == ("row":Str))=false)(h2:(m == ("marks":Str))=false)(h3:(m == ("spans":Str))=false):BH m (ML A)=none:=by
 unfold ML;rw[Bs,h1,Bs,h2,Bs,h3,List.lookup_nil]
theorem QY {M:Mp}{p:Av}{xs:List D}(h:M p=some (.lst xs)):Hj M (.ref p)=some xs:=by simp[Hj,Bi,h]
noncomputable def MI (s:Str)(acc:List (Str×Nat))(b:Str×Str×Nat):List (Str×Nat):=if b.1=s/\b.2.1∉acc.map (·.1)then acc++[(b.2.1,b.2.2+1)]else acc
noncomputable def Ib (row:List (Str×Str×Nat))(s:Str):List (Str×Nat):=row.foldl (MI s) []
abbrev ZcB (C:Av)(ds:List D)(M:Mp)(Q:Ef):Prop:=Fw ds λx y=>∃(M0:Mp) (o q:Av) (E:Str->List (Str×Nat)) (row:List (Str×Str×Nat)),x=.ref o/\y=.ref q/\M=put M0 o (.obj C [])/\M0 o=none/\M0 q=some (.lst (row.map bD))/\NR E row/\(∀s,Kt s->E s=Ib row s)/\∀M' (A:KA),A.o=o->A.q=q->FT C M' A E row [] []->(∀p∈[A.m,A.b,A.e,A.f,A.g],M0 p=none)->(∀p u,M0 p=some u->M' p=some u)->Q .non M'
theorem FT.dne (kn:FT C M A E row ms ks){s:Str}(hs:Kt s):A.d≠A.at s:=λe=>by
 have hd:=kn.d;rw[e,kn.s s hs]at hd;have e2:HI row ks E s=IV A:=by injection hd with h;injection h
 unfold HI IV at e2;cases hE:E s with
 |nil=>rw[hE]at e2;cases e2
 |cons n r=>rw[hE,AT]at e2;have e3:=congrArg Sh (Pk e2).1;unfold MH at e3;cases e3
theorem zA {C:Av}{M:Mp}{A:KA}{E E':Str->List (Str×Nat)}{row:List (Str×Str×Nat)}{ms ks:List Int}{so:Str}(kn:FT C M A E row ms ks)(hs:Kt so)(h:∀s,s≠so->E' s=E s):FT C (L3.put M (A.at so) (.dic (HI row ks E' so))) A E' row ms ks:=by
 have Vp:=kn.s so hs
 have n1:∀{x:Av} {o:MO},M x=some o->(∀kvs,o≠.dic kvs)->x≠A.at so:=λ{x o} hx hn e=>by
  rw[e,Vp]at hx;cases hx;exact hn _ rfl
 refine⟨by rw[DK (n1 kn.o (λ_ e=>nomatch e))];exact kn.o,by rw[DK (n1 kn.q (λ_ e=>nomatch e))];exact kn.q,by rw[DK (n1 kn.m (λ_ e=>nomatch e))];exact kn.m,by rw[DK (kn.dne hs)];exact kn.d,λs' h'=>?_,kn.nd,kn.qm⟩;by_cases e:s'=so
 .subst e;rw[Dq]
 .rw[DK (λe2=>e (pA kn.nd h' hs e2)),kn.s s' h'];unfold HI;rw[h s' e]
theorem nA {C:Av}{M:Mp}{A:KA}{E E':Str->List (Str×Nat)}{row:List (Str×Str×Nat)}{ms ks:List Int}(kn:FT C M A E row ms ks)(h:∀s,Kt s->E' s=E s):FT C M A E' row ms ks:=⟨kn.o,kn.q,kn.m,kn.d,λs hs=>by rw[kn.s s hs];unfold HI;rw[h s hs],kn.nd,kn.qm⟩
theorem nh (row:List (Str×Str×Nat))(s z:Str)(w:Nat):Lc row [] s z w=Ay w 2:=by
 unfold Lc;rw[List.eq_replicate_iff,Ab,BX];refine⟨rfl,λm hm=>?_⟩;obtain⟨j,-,rfl⟩:=Ao.mp hm;rfl
theorem qR (s:Str):∀(l:List (Str×Str×Nat)) (acc:List (Str×Nat)),(l.foldl (MI s) acc).length<=acc.length+l.length
 |[],acc=>AH _
 |b::l,acc=>by
  refine A7 (qR s l (MI s acc b)) ?_
  have:(MI s acc b).length<=acc.length+1:=by
   unfold MI;split
   .rw[As];exact AH _
   .ext
  rw[AK];ext
theorem rz {row:List (Str×Str×Nat)}{i:Nat}{b:Str×Str×Nat}(h:row[i]? = some b)(s:Str):Ib (row.take (i+1)) s=MI s (Ib (row.take i) s) b:=by
 unfold Ib;rw[BE,h,JB];rfl
theorem qU :DJ (HI row ks E s) (.inr z)=none↔z∉(E s).map (·.1):=by
 unfold DJ HI;rw[LQ,Gf];constructor
 .intro h hz;obtain⟨n,hn,rfl⟩:=Ao.mp hz;exact h _ (Ao.mpr ⟨n,hn,rfl⟩) (decide_eq_true rfl)
 .intro h kv hkv c;obtain⟨n,hn,rfl⟩:=Ao.mp hkv;exact h (Ao.mpr ⟨n,hn,Fc (of_decide_eq_true c)⟩)
theorem aa {row:List (Str×Str×Nat)}{E E':Str->List (Str×Nat)}{s z:Str}{p:Nat}(h:z∉(E s).map (·.1))(e:E' s=E s++[(z,p)]):H9 (HI row [] E s) (.inr z) (MH (Ay p 2))=HI row [] E' s:=by
 have hn:¬((HI row [] E s).any λkv=>decide (kv.1=.inr z))=true:=λc=>by
  obtain⟨kv,hkv,ek⟩:=DH.mp c;obtain⟨n,hn,rfl⟩:=Ao.mp hkv;exact h (Ao.mpr ⟨n,hn,Fc (of_decide_eq_true ek)⟩)
 unfold H9;rw[if_neg hn];unfold HI;rw[e,AM,AT,DB,nh]
theorem gc (x y:D):putO (Al "marks") x (putO (Al "row") y [])=([("row",y),("marks",x)]:List (Str×D)):=by
 simp only[putO,show¬(Al "row" = Al "marks") by nofun,if_false]
theorem i7 (x y z:D):putO (Al "spans") z ([("row",y),("marks",x)]:List (Str×D))=([("row",y),("marks",x),("spans",z)]:List (Str×D)):=by
 simp only[putO,show¬(("row":Str)=Al "spans") by nofun,show¬(("marks":Str)=Al "spans") by nofun,if_false]
theorem fN {M:Mp}{p:Av}{xs:List D}(h:M p=some (.lst xs)):Bi M (.ref p)=some xs:=by simp[Bi,h]
theorem Je {M:Mp}{p x:Av}{u:MO}(hp:M p=none)(hx:M x=some u):x≠p:=λe=>by rw[e,hp]at hx;cases hx
section
theorem ZcE:Om T T.x50 3 (ZcB T.C_Known):=by
 refine Cz.p2 T.x50.d.F ["self", "row", "sort", "name", "place"] λx y M Q hr nN h=>?_;obtain⟨M0,o,rq,E,row,e1',e2',e3',m0,mq,kr,he,q⟩:_:=h;refine⟨_,(qC (gW T.cl_Known T.na_Known_row (qv 0) (qv 1)) (qC (gW T.cl_Known T.na_Known_marks (qv 0) (IZ qN)) (qC (gW T.cl_Known T.na_Known_spans (qv 0) (TW BV JE BV JE BV JE BV JE)) (qO (MM AQ rfl (Kr (qv 1)) (Vz (is:=[2,3,4]) rfl (Mq (LD nN rfl (Cd rfl)) (Mq (LD nN rfl (Cd rfl)) (Mq (LD nN rfl (Cd rfl)) Ur)))) (qO (EZ (fG (FO (Kp hr) (G3 T.cl_Known T.na_Known_spans (qv 0)) (qv 2) (λ_ _=>rfl)) (qA (qv 3) (qA (Aw T.x21.d (Zdo T) nofun (qA (BB Hl (qv 4) Ak) qN)) qN)))))))))),?_⟩;right;rw[Dq,Ho,R3];refine⟨by decide,λm hm=>?_⟩;have nm:m≠o:=λe=>by rw[e,Dq]at hm;cases hm
 rw[DK nm]at hm;rw[DK (Bj nm),Dq,Ho];refine⟨Hf (by decide),?_⟩;rw[mw];have no:rq≠o:=Je m0 mq;have nq:rq≠m:=Je hm mq
 have f1:∀x u,M0 x=some u->put (put (put M0 o (MO.obj T.C_Known (putO (Al "row") (D.ref rq) []))) m (MO.lst [])) o (MO.obj T.C_Known (putO (Al "marks") (D.ref m) (putO (Al "row") (D.ref rq) []))) x=some u:=λx u h=>by
  rw[DK (Je m0 h),DK (Je hm h),DK (Je m0 h)];exact h
 have f2:put (put (put M0 o (MO.obj T.C_Known (putO (Al "row") (D.ref rq) []))) m (MO.lst [])) o (MO.obj T.C_Known (putO (Al "marks") (D.ref m) (putO (Al "row") (D.ref rq) []))) o=_:=Dq;have f3:put (put (put M0 o (MO.obj T.C_Known (putO (Al "row") (D.ref rq) []))) m (MO.lst [])) o (MO.obj T.C_Known (putO (Al "marks") (D.ref m) (putO (Al "row") (D.ref rq) []))) m=some (.lst []):=by rw[DK nm,Dq]
 generalize put (put (put M0 o (MO.obj T.C_Known (putO (Al "row") (D.ref rq) []))) m (MO.lst [])) o (MO.obj T.C_Known (putO (Al "marks") (D.ref m) (putO (Al "row") (D.ref rq) [])))=M1 at f1 f2 f3 ⊢;intro d hd;grind;intro b hb e he1 f hf g hg;have s1:Sub M1 (put M1 d (.dic [])):=Sub.put hd;have s2:Sub _ (put (put M1 d (.dic [])) b (.dic [])):=Sub.put hb;have s3:Sub _ (put (put (put M1 d (.dic [])) b (.dic [])) e (.dic [])):=Sub.put he1;have s4:Sub _ (put (put (put (put M1 d (.dic [])) b (.dic [])) e (.dic [])) f (.dic [])):=Sub.put hf;have s5:Sub _ (put (put (put (put (put M1 d (.dic [])) b (.dic [])) e (.dic [])) f (.dic [])) g (.dic [])):=Sub.put hg;have s15:=s1.trans (s2.trans (s3.trans (s4.trans s5)));have kd:=s2.trans (s3.trans (s4.trans s5)) d _ Dq;have kb:=s3.trans (s4.trans s5) b _ Dq;have ke:=s4.trans s5 e _ Dq;have kf:=s5 f _ Dq;have kg:put (put (put (put (put M1 d (.dic [])) b (.dic [])) e (.dic [])) f (.dic [])) g (.dic []) g=some (.dic []):=Dq;have n1:b≠e:=Je he1 Dq;have n2:b≠f:=Je hf (s3 b _ Dq);have n3:b≠g:=Je hg (s3.trans s4 b _ Dq);have n4:e≠f:=Je hf Dq;have n5:e≠g:=Je hg (s4 e _ Dq);have n6:f≠g:=Je hg Dq;have d1:d≠b:=Je hb Dq;have d2:d≠e:=Je he1 (s2 d _ Dq);have d3:d≠f:=Je hf (s2.trans s3 d _ Dq);have d4:d≠g:=Je hg (s2.trans (s3.trans s4) d _ Dq)
 have nn:∀{N:Mp} {x:Av},Sub M1 N->N x=none->M0 x=none:=λ{N x} s h=>by
  cases h2:M0 x with
  |none=>rfl
  |some u=>rw[s x u (f1 x u h2)]at h;cases h
 have dn:=nn (Sub.refl M1) hd;have bn:=nn s1 hb;have en:=nn (s1.trans s2) he1;have fn:=nn (s1.trans (s2.trans s3)) hf;have gn:=nn (s1.trans (s2.trans (s3.trans s4))) hg;clear nn;have f1:=λx u h=>s15 x u (f1 x u h);have f2:=s15 _ _ f2;have f3:=s15 _ _ f3;clear hd hb he1 hf hg s1 s2 s3 s4 s5 s15;generalize put (put (put (put (put M1 d (.dic [])) b (.dic [])) e (.dic [])) f (.dic [])) g (.dic [])=M8 at *;refine⟨kd,by nofun,?_⟩;have od:o≠d:=λh=>by rw[h,kd]at f2;cases f2
 have mne:∀{x},M8 x=some (.dic [])->m≠x:=λ{x} h h2=>by rw[<- h2,f3]at h;cases h
 have one:∀{x},M8 x=some (.dic [])->x≠o:=λ{x} h h2=>by rw[h2,f2]at h;cases h
 have rqv:=f1 rq _ mq;have qne:∀{x},M8 x=some (.dic [])->rq≠x:=λ{x} h h2=>by rw[<- h2,rqv]at h;cases h
 rw[DK od,f2,Ho,gc,i7];refine⟨Hf (Hf (by decide)),?_⟩
 have kn0:FT T.C_Known (put (put M8 d (.dic (IV ⟨o,rq,m,d,b,e,f,g⟩))) o (.obj T.C_Known (ML ⟨o,rq,m,d,b,e,f,g⟩))) ⟨o,rq,m,d,b,e,f,g⟩ (Ib (row.take 0)) row [] []:=by
  refine⟨Dq,by rw[DK no,DK (qne kd)];exact rqv,by rw[DK nm,DK (mne kd)];exact f3,by rw[DK (Bj od),Dq],λs hs=>?_,by simp only[Ez,BA,AR,or_false,not_or];exact⟨⟨n1,n2,n3⟩,⟨n4,n5⟩,n6,λh=>h,HU⟩,nq⟩;rcases hs with rfl|rfl|rfl|rfl
  .rw[Ug,DK (one kb),DK (Bj d1)];exact kb
  .rw[Uo,DK (one ke),DK (Bj d2)];exact ke
  .rw[Uh,DK (one kf),DK (Bj d3)];exact kf
  .rw[Uu,DK (one kg),DK (Bj d4)];exact kg
 have f9:∀x u,M0 x=some u->put (put M8 d (.dic (IV ⟨o,rq,m,d,b,e,f,g⟩))) o (.obj T.C_Known (ML ⟨o,rq,m,d,b,e,f,g⟩)) x=some u:=λx u h=>by
  rw[DK (Je m0 h),DK (Je dn h)];exact f1 x u h
 change Cw (Bi (put (put M8 d (.dic (IV ⟨o,rq,m,d,b,e,f,g⟩))) o (.obj T.C_Known (ML ⟨o,rq,m,d,b,e,f,g⟩))) (.ref rq)) λxs=>UJ xs _ _ _ _ _ (put (put M8 d (.dic (IV ⟨o,rq,m,d,b,e,f,g⟩))) o (.obj T.C_Known (ML ⟨o,rq,m,d,b,e,f,g⟩)));generalize put (put M8 d (.dic (IV ⟨o,rq,m,d,b,e,f,g⟩))) o (.obj T.C_Known (ML ⟨o,rq,m,d,b,e,f,g⟩))=M9 at kn0 f9 ⊢;replace q:=λM'=>q M' ⟨o,rq,m,d,b,e,f,g⟩ rfl rfl;obtain⟨A,ea⟩:∃A:KA,A=⟨o,rq,m,d,b,e,f,g⟩:=⟨_,rfl⟩;rw[<- ea]at kn0 q
 have an:∀s,M0 (A.at s)=none:=λs=>by
  rw[ea];unfold KA.at
  split
  .exact bn
  .split
   .exact en
   .split
    .exact fn
    .exact gn
 have fz:∀p∈[A.m,A.b,A.e,A.f,A.g],M0 p=none:=by
  rw[ea];intro p hp;simp only[BA,AR,or_false]at hp;rcases hp with rfl|rfl|rfl|rfl|rfl
  .exact hm
  .exact bn
  .exact en
  .exact fn
  .exact gn
 have eo:o=A.o:=by rw[ea]
 have eq:rq=A.q:=by rw[ea]
 rw[eo,eq];rw[fN kn0.q,B3];refine⟨λi τ M'=>(FT T.C_Known M' A (Ib (row.take i)) row [] []/\∀x u,M0 x=some u->M' x=some u)/\∃x y z,τ=[some (.ref A.o),some (.ref A.q),x,y,z],⟨⟨kn0,f9⟩,_,_,_,rfl⟩,λi τ M' h=>fN h.1.1.q,?_,?_⟩
 .intro i x τ M' hx;ext1⟨⟨kn,fr⟩,u1,u2,u3,e1'⟩;rw[AJ]at hx;obtain⟨bt,hbt,rfl⟩:=EV.mp hx;obtain⟨so,z,pl⟩:=bt;obtain⟨hs,wd,hw,hp⟩:=kr.k _ (AE hbt);unfold bD;grind;rw[kn.o,Ho,Ys,B3,Q9 kn.d,B3,VC hs,B3,Qr,kn.s so hs,VB];have hw2:=((kr.e so).2.2 _ hw).2;change wd<=64 at hw2;change pl<wd at hp;refine⟨⟨by ext,by ext⟩,?_⟩;rw[show((pl:Int)+1).toNat=pl+1 by ext];unfold Lu;rw[Qr,nR];grind;rw[kn.s so hs,VB];have en1:=λs=>rz hbt s;refine⟨?_,λdd hdd=>?_,λhnn=>?_⟩
  .have l1:=qR so (row.take i) [];rw[A6]at l1;have l2:=kr.l;unfold HI Ib;rw[Ab];refine Fk (m:=5000) ?_ (by decide);change _<=0+_ at l1;ext
  .refine⟨⟨nA kn λs _=>?_,fr⟩,_,_,_,rfl⟩;rw[en1];unfold MI;rw[if_neg];rintro⟨c1,c2⟩;change so=s at c1;subst c1;rw[qU.mpr c2]at hdd;cases hdd
  .have hz:=qU.mp hnn;rw[aa (E':=Ib (row.take (i+1))) hz (by rw[en1];unfold MI;rw[if_pos ⟨rfl,hz⟩])];refine⟨⟨zA kn hs λs c=>?_,λx u h=>?_⟩,_,_,_,rfl⟩
   .rw[en1];unfold MI;rw[if_neg (λc2=>c c2.1.symm)]
   .rw[DK (Je (an so) h)];exact fr x u h
 .intro τ M';ext1⟨⟨kn,fr⟩,u1,u2,u3,e1'⟩;rw[Ab,BD]at kn;exact Dn.of (q M' (nA kn he) fz fr)
end
abbrev z8 (C:Av)(ds:List D)(M:Mp)(Q:Ef):Prop:=Jd ds λx y z=>∃(A:KA) (E:Str->List (Str×Nat)) (row:List (Str×Str×Nat)) (ms ks ks':List Int) (i:Nat) (m:Int),x=.ref A.o/\y=.int i/\z=.int m/\NR E row/\FT C M A E row ms ks/\i<row.length/\Mk m/\K4 ks/\Tf i m ks ks'/\∀M',FT C M' A E row ms ks'->Ja A M M'->Q .non M'
section
theorem wH:Om T T.x56 2 (z8 T.C_Known):=by
 refine Cz.p3 T.x56.d.F ["self", "number", "mark", "bit", "named"] λx y z M Q hr nN h=>?_;obtain⟨A,E,row,ms,ks,ks',i,m,e1',e2',e3',kr,kn,hi,hm,hk,hc,q⟩:_:=h;have hb:=Af hi;generalize row[i]=b at hb;obtain⟨so,z,pl⟩:=b;obtain⟨hs4,wd,hz,hpl⟩:=kr.k _ (AE hb);have hb2:FC (row.map bD) (i:Int)=some (bD (so,z,pl)):=Ot (by rw[AJ,hb];rfl);obtain⟨en,el,ew⟩:=kr.e so;refine⟨_,(qC (CA 3 nN (Bl Hn (G3 T.cl_Known T.na_Known_row (qv 0)) (qv 1))) (qC (CA 4 nN (FO (Kp hr) (G3 T.cl_Known T.na_Known_spans (qv 0)) (Bl BJ (qv 3) Ak) (λ_ _=>rfl))) (qO (Ye (Kp hr) (qv 4) (Bl BJ (qv 3) Ak) (Aw T.x22.d (zy T) nofun (qA (FO (Kp hr) (qv 4) (Bl BJ (qv 3) Ak) (λ_ _=>rfl)) (qA (Bl BJ (qv 3) Ak) (qA (qv 2) qN)))) rfl)))),?_⟩
 have s64:YE (Lc row ks so z wd):=by
  refine⟨λv hv=>?_,by rw[Z9];exact(ew _ hz).1,by rw[Z9];exact(ew _ hz).2⟩;obtain⟨j,_,rfl⟩:=Ao.mp hv;rw[Ch];cases e:ks[row.idxOf (so,z,j)]? with
  |none=>exact .inr (.inr rfl)
  |some v=>exact hk v (AE e)
 obtain⟨w1,w2⟩:=c7 kn hs4 hc hb;rw[<- pi kr.nd hc hb hpl en hz]at w1 w2;right;rw[kn.o,Ho,oM,B3,On kn.q,B3,hb2,B3,Ho,Ys,B3];simp only[bD];grind;rw[Q9 kn.d,B3,VC hs4,B3]
 (try grind)
 rw[Q9 (kn.s so hs4),B3,iW en hz,B3]
 (try grind)
 refine⟨_,pl,m,rfl,rfl,rfl,s64,by rw[Z9];exact hpl,hm,?_⟩
 (try grind)
 rw[kn.s so hs4];exact⟨B5 (by unfold HI;rw[Ab];ext),Dn.of (q _ w1 w2)⟩
end
theorem X4 {M:Mp}{p:Av}{xs:List D}{y:D}{Q:Ef}(h:M p=some (.lst xs)):HJ (.ref p) [y] M Q=(xs.length<Am/\Q .non (put M p (.lst (xs++[y])))):=by
 unfold HJ;rw[Qr,ZE,h]
abbrev Zeb (C:Av)(ds:List D)(M:Mp)(Q:Ef):Prop:=Fw ds λx z=>∃(A:KA) (E:Str->List (Str×Nat)) (row:List (Str×Str×Nat)) (ms:List Int) (m:Int),x=.ref A.o/\z=.int m/\NR E row/\FT C M A E row ms ms/\ms.length<row.length/\Mk m/\K4 ms/\∀M',FT C M' A E row (ms++[m]) (ms++[m])->Ja A M M'->Q .non M'
section
theorem wS:Om T T.x51 3 (Zeb T.C_Known):=by
 refine Cz.p2 T.x51.d.F ["self", "mark"] λx z M Q hr nN h=>?_;obtain⟨A,E,row,ms,m,e1',e2',kr,kn,hl,hm,hk,q⟩:_:=h;refine⟨_,(qC (EZ (Fe T.cl_Known T.x56.d (wH T) nofun (qv 0) (qA (B9 Ko T.B.len BZ (qA (G3 T.cl_Known T.na_Known_marks (qv 0)) qN)) (qA (qv 1) qN)))) (qO (EZ (Kc AN Bg Bf QB (G3 T.cl_Known T.na_Known_marks (qv 0)) (qA (qv 1) qN))))),?_⟩;right;rw[kn.o,Ho];refine⟨LC (by nofun) (by nofun) (by nofun),?_⟩;rw[Ho,Qz,B3,QY kn.m,B3];refine⟨A,E,row,ms,ms,ms++[m],ms.length,m,rfl,by rw[Ab],rfl,kr,kn,hl,hm,hk,tJ ms m,λM' kn' ko=>?_⟩;rw[kn'.o,Ho,Qz,B3,X4 kn'.m];obtain⟨a,b⟩:=oI kn' (ms++[m]);rw[AM]at a b;have h5:=kr.l;have:(6000:Nat)<=Am:=by decide
 exact⟨IT kn'.m,by rw[Ab];ext,Dn.of (q _ a (ko.trans b))⟩
end
abbrev Zdb (C:Av)(ds:List D)(M:Mp)(Q:Ef):Prop:=Ga ds λx=>∃(A:KA) (E:Str->List (Str×Nat)) (row:List (Str×Str×Nat)) (ms:List Int) (m:Int),x=.ref A.o/\NR E row/\FT C M A E row (ms++[m]) (ms++[m])/\ms.length<row.length/\K4 (ms++[m])/\∀M',FT C M' A E row ms ms->Ja A M M'->Q .non M'
section
theorem kM:Om T T.x52 3 (Zdb T.C_Known):=by
 refine Cz.p1 T.x52.d.F ["self"] λx M Q hr nN h=>?_;obtain⟨A,E,row,ms,m,e1',kr,kn,hl,hk,q⟩:_:=h;refine⟨_,(qC (EZ (TY AN LP LO ga (G3 T.cl_Known T.na_Known_marks (qv 0)))) (qO (EZ (Fe T.cl_Known T.x56.d (wH T) nofun (qv 0) (qA (B9 Ko T.B.len BZ (qA (G3 T.cl_Known T.na_Known_marks (qv 0)) qN)) (qA Ak qN)))))),?_⟩;right;rw[kn.o,Ho,Qz,B3,j2,kn.m];refine⟨IT kn.m,ms.map D.int,.int m,by rw[AM];rfl,?_⟩;obtain⟨a,b⟩:=oI kn ms;rw[a.o,Ho];refine⟨LC (by nofun) (by nofun) (by nofun),?_⟩;rw[Ho,Qz,B3,QY a.m,B3];exact⟨A,E,row,ms,ms++[m],ms,ms.length,2,rfl,by rw[Ab],rfl,kr,a,hl,.inr (.inr rfl),hk,xm ms m,λM' kn' ko=>Dn.of (q M' kn' (b.trans ko))⟩
end
noncomputable def HD (n:Nat)(ms:List Int):List Int:=(ms++Ay (n-ms.length) 0).take n
theorem Yo {a b:List Int}(ha:K4 a)(hb:K4 b):K4 (a++b):=λm hm=>(AY.mp hm).elim (ha m) (hb m)
theorem iR (n:Nat):K4 (Ay n 0):=λm hm=>.inl (EH hm)
theorem sF {a:List Int}(h:K4 a)(n:Nat):K4 (a.take n):=λm hm=>h m (Gm hm)
theorem Z0 (h:K4 ms)(n):K4 (HD n ms):=sF (Yo h (iR _)) n
theorem Ym (n)(ms):(HD n ms).length=n:=by
 unfold HD;rw[A6,As,Bn];ext
abbrev Zfh (C:Av)(ds:List D)(M:Mp)(Q:Ef):Prop:=Fw ds λx y=>∃(A:KA) (E:Str->List (Str×Nat)) (row:List (Str×Str×Nat)) (ms:List Int) (n:Nat),x=.ref A.o/\y=.int n/\NR E row/\FT C M A E row ms ms/\K4 ms/\n<=row.length/\ms.length<=row.length/\∀M',FT C M' A E row (HD n ms) (HD n ms)->Ja A M M'->Q .non M'
section
theorem vX:Om T T.x53 4 (Zfh T.C_Known):=by
 refine Cz.p2 T.x53.d.F ["self", "many"] λx z M Q hr nN h=>?_;obtain⟨A,E,row,ms,n,e1',e2',kr,kn,hk,hn,hl,q⟩:_:=h;refine⟨_,(Fa (R9 AQ (AV KY (B9 Ko T.B.len BZ (qA (G3 T.cl_Known T.na_Known_marks (qv 0)) qN)) (qv 1)) (qO (EZ (Fe T.cl_Known T.x51.d (wS T) nofun (qv 0) (qA Ak qN))))) (qO (R9 AQ (AV KZ (B9 Ko T.B.len BZ (qA (G3 T.cl_Known T.na_Known_marks (qv 0)) qN)) (qv 1)) (qO (EZ (Kb T.cl_Known T.x52.d (kM T) nofun (qv 0))))))),?_⟩
 (try simp only[Md,Mb,Mc])
 refine⟨λτ M'=>(FT T.C_Known M' A E row (ms++Ay (n-ms.length) 0) (ms++Ay (n-ms.length) 0)/\Ja A M M')/\τ=[some (.ref A.o),some (.int n)],?_,?_⟩
 .refine⟨λk τ M'=>∃j,(k=n-(ms.length+j)/\j<=n-ms.length/\FT T.C_Known M' A E row (ms++Ay j 0) (ms++Ay j 0)/\Ja A M M')/\τ=[some (.ref A.o),some (.int n)],⟨_,0,⟨rfl,DO _,by rw[IH,CT];exact kn,Ja.refl A M⟩,rfl⟩,?_⟩;intro k τ M' hI';refine An λG' kk'=>?_;obtain⟨j,⟨e1',hj,kn',ko⟩,e2'⟩:=hI';refine kk' ?_;clear kk';subst e1' e2';grind;rw[kn'.o,Ho,Qz,B3,QY kn'.m,B3]
  (try grind)
  rw[Bn];refine Cy (λc=>?_) λc=>?_
  .refine⟨LC (by nofun) (by nofun) (by nofun),A,E,row,ms++Ay j 0,0,rfl,rfl,kr,kn',by rw[As,Bn];ext,.inl rfl,Yo hk (iR j),λM2 k2 o2=>⟨n-(ms.length+(j+1)),by ext,j+1,rfl,by ext,?_,ko.trans o2⟩⟩;rw[N4,<- Bq];exact k2
  .have e:j=n-ms.length:=by ext
   subst e;exact⟨kn',ko⟩
 rintro τ M' ⟨⟨kn',ko⟩,rfl⟩;have e1:(ms++Ay (n-ms.length) 0).length=max n ms.length:=by rw[As,Bn];ext
 have hk1:K4 (ms++Ay (n-ms.length) 0):=Yo hk (iR _);unfold HD at q;generalize ms++Ay (n-ms.length) 0=ms1 at kn' e1 hk1 q;refine⟨λk τ M2=>(n+k<=ms1.length/\FT T.C_Known M2 A E row (ms1.take (n+k)) (ms1.take (n+k))/\Ja A M' M2)/\τ=[some (.ref A.o),some (.int n)],⟨ms1.length-n,⟨by ext,by rw[BW (by ext)];exact kn',Ja.refl A M'⟩,rfl⟩,?_⟩;intro k τ M2 hI';refine An λG' kk'=>?_;obtain⟨⟨hk2,kn2,ko2⟩,e1'⟩:=hI';refine kk' ?_;clear kk';subst e1';grind;rw[kn2.o,Ho,Qz,B3,QY kn2.m,B3]
 (try grind)
 rw[A6];refine Cy (λc=>?_) λc=>?_
 .obtain⟨k',rfl⟩:∃k',k=k'+1:=⟨k-1,by ext⟩;have hlt:n+k' < ms1.length:=by ext
  have e:ms1.take (n+(k'+1))=ms1.take (n+k')++[ms1[n+k']'hlt]:=Jz hlt;have hm:=sF hk1 (n+(k'+1));rw[e]at kn2 hm;exact⟨LC (by nofun) (by nofun) (by nofun),A,E,row,ms1.take (n+k'),_,rfl,kr,kn2,by rw[A6];ext,hm,λM3 k3 o3=>⟨k',by ext,by ext,k3,ko2.trans o3⟩⟩
 .have e:k=0:=by ext
  subst e;exact Dn.of (q M2 kn2 (ko.trans ko2))
end
noncomputable def Zr (ms:List Int):Sn:=(ms.length,Km ms,Lf ms)
noncomputable def Q7 (row:List (Str×Str×Nat))(ks:List Int)(E:Str->List (Str×Nat))(s x:Str):Sn:=((E s).lookup x).elim n0 λw=>Zr (Lc row ks s x w)
noncomputable def Zy (row:List (Str×Str×Nat))(ks:List Int)(E:Str->List (Str×Nat))(so:Str):YF:=⟨Q7 row ks E "box",Q7 row ks E so,Q7 row ks E "door"⟩
noncomputable def gM (row:List (Str×Str×Nat))(ks:List Int)(E:Str->List (Str×Nat))(so:Str)(t:Tm):Int:=fL (t.rs (Zy row ks E so)).2.1 (t.rs (Zy row ks E so)).2.2
structure VS (E:Str->List (Str×Nat))(so:Str)(bs es:List (Str×Int))(t:Tm):Prop where
 w:Wd bs es t 1
 n:t.deep<=12
 b:∀x,Tm.box x∈t.leaves->∃w:Nat,bs.lookup x=some (w:Int)/\(x,w)∈E "box"
 l:∀x,Tm.late x∈t.leaves->∃w:Nat,bs.lookup x=some (w:Int)/\(x,w)∈E so
 d:∀x,Tm.door x∈t.leaves->∃w:Nat,es.lookup x=some (w:Int)/\(x,w)∈E "door"
theorem oK :∀{l:List (Str×α)},(l.map (·.1)).Nodup->(z,v)∈l->l.lookup z=some v
 |[],_,h=>nomatch h
 |p::l,nd,h=>by
  rw[AT,Ez]at nd;rw[Bs];rcases Bc.mp h with e|h
  .subst e;simp
  .have ne:z≠p.1:=λe=>nd.1 (e ▸ Fj h);rw[show(z == p.1)=false by simpa using ne];exact oK nd.2 h
theorem fv (kr:NR E row)(ks:List Int){w:Nat}(h:(z,w)∈E s):Q7 row ks E s z=Zr (Lc row ks s z w):=by
 unfold Q7;rw[oK (kr.e s).1 h];rfl
theorem zZ {w:Nat}(h:ms.length=w)(h1:1<=w)(h2:w<=64):Rg (Zr ms)/\(Zr ms).1=w:=by
 have l1:=nH ms;have l2:=mZ ms;refine⟨⟨?_,⟨S6 ms,?_⟩,⟨S5 ms,?_⟩⟩,?_⟩
 .show(1:Int)<=ms.length/\(ms.length:Int)<=64;ext
 .show Km ms<2^(ms.length:Int).toNat
  rw[Br];exact l1
 .show Lf ms<2^(ms.length:Int).toNat
  rw[Br];exact l2
 .show(ms.length:Int)=w;rw[h]
theorem VS.dt {E:Str->List (Str×Nat)}{row:List (Str×Str×Nat)}(kr:NR E row)(g:VS E so bs es t):DT (HI row ks E "box") (HI row ks E so) (HI row ks E "door") bs es (Zy row ks E so) t:=by
 have go:∀{s x:Str} {w:Nat},(x,w)∈E s->(Rg (Q7 row ks E s x)/\(Q7 row ks E s x).1=w)/\DJ (HI row ks E s) (.inr x)=some (Hb (Q7 row ks E s x)):=λ{s x w} h=>by
  have e:=(kr.e s).2.2 _ h;rw[fv kr ks h];exact⟨zZ (Z9 ..) e.1 e.2,iW (kr.e s).1 h⟩
 refine⟨λx hx=>?_,λx hx=>?_,λx hx=>?_⟩
 .obtain⟨w,h1,h2⟩:=g.b x hx;exact⟨_,h1,go h2⟩
 .obtain⟨w,h1,h2⟩:=g.l x hx;exact⟨_,h1,go h2⟩
 .obtain⟨w,h1,h2⟩:=g.d x hx;exact⟨_,h1,go h2⟩
abbrev ZbZ (C:Av)(ds:List D)(M:Mp)(Q:Ef):Prop:=Jd ds λx y z=>∃(A:KA) (E:Str->List (Str×Nat)) (row:List (Str×Str×Nat)) (ms:List Int) (t:Tm) (so:Str) (bs es:List (Str×Int)),x=.ref A.o/\y=t.D/\z=.str so/\Kt so/\NR E row/\FT C M A E row ms ms/\K4 ms/\VS E so bs es t/\Q (.int (gM row ms E so t)) M
section
theorem wV:Om T T.x59 19 (ZbZ T.C_Known):=by
 refine Cz.p3 T.x59.d.F ["self", "guard", "sort"] λx y z M Q hr nN h=>?_;obtain⟨A,E,row,ms,t,so,bs,es,e1',e2',e3',hs,kr,kn,hk,gd,q⟩:_:=h;refine⟨_,(qO (Cr (Bl Hn (Aw T.x20.d (zg T) nofun (qA (Aw T.x23.d (uO T 12) nofun (qA (qv 1) (qA (CC (qA (FO (Kp hr) (G3 T.cl_Known T.na_Known_spans (qv 0)) BV (λ_ _=>rfl)) (qA (FO (Kp hr) (G3 T.cl_Known T.na_Known_spans (qv 0)) (qv 2) (λ_ _=>rfl)) (qA (FO (Kp hr) (G3 T.cl_Known T.na_Known_spans (qv 0)) BV (λ_ _=>rfl)) qN)))) qN))) qN)) Ak))),?_⟩;right;rw[kn.o,Ho,Ys,B3,Q9 kn.d,B3]
 (try grind)
 rw[VC (.inl rfl),B3,Ys,B3,Q9 kn.d,B3,VC hs,B3,B3,Q9 kn.d,B3,VC (.inr (.inl rfl)),B3];have e1:=(gQ gd.w (gd.dt (ks:=ms) kr)).1
 (try grind)
 refine⟨_,_,_,_,_,_,bs,es,Zy row ms E so,rfl,⟨Q9 (kn.s "box" (.inl rfl)),Q9 (kn.s so hs),Q9 (kn.s "door" (.inr (.inl rfl)))⟩,gd.n,⟨1,gd.w⟩,gd.dt kr,_,rfl,e1.2,λp hp=>?_⟩;exact Qs (Sub.put hp) q
end
structure YL (E:Str->List (Str×Nat))(bs es:List (Str×Int))(t u:Tm):Prop where
 a:VS E "one" bs es t
 b:VS E "other" bs es u
abbrev ZbS (C:Av)(ds:List D)(M:Mp)(Q:Ef):Prop:=Fw ds λx y=>∃(A:KA) (E:Str->List (Str×Nat)) (row:List (Str×Str×Nat)) (ms:List Int) (t u:Tm) (bs es:List (Str×Int)),x=.ref A.o/\y=.tup [t.D,u.D]/\NR E row/\FT C M A E row ms ms/\K4 ms/\YL E bs es t u/\Q (.tup [.int (gM row ms E "one" t),.int (gM row ms E "other" u)]) M
section
theorem wX:Om T T.x58 20 (ZbS T.C_Known):=by
 refine Cz.p2 T.x58.d.F ["self", "guards"] λx y M Q hr nN h=>?_;obtain⟨A,E,row,ms,t,u,bs,es,e1',e2',kr,kn,hk,gd,q⟩:_:=h;refine⟨_,(qO (Cr (CC (qA (Fe T.cl_Known T.x59.d (wV T) nofun (qv 0) (qA (Bl BJ (qv 1) Ak) (qA BV qN))) (qA (Fe T.cl_Known T.x59.d (wV T) nofun (qv 0) (qA (Bl BJ (qv 1) Ak) (qA BV qN))) qN))))),?_⟩;right;rw[kn.o,Ho];refine⟨LC (by nofun) (by nofun) (by nofun),A,E,row,ms,t, "one",bs,es,rfl,rfl,rfl,.inr (.inr (.inl rfl)),kr,kn,hk,gd.a,?_⟩
 (try grind)
 refine⟨LC (by nofun) (by nofun) (by nofun),A,E,row,ms,u, "other",bs,es,rfl,rfl,rfl,.inr (.inr (.inr rfl)),kr,kn,hk,gd.b,?_⟩
 (try grind)
 exact Dn.of q
end
noncomputable def QX (row:List (Str×Str×Nat))(E:Str->List (Str×Nat))(t u:Tm)(ms:List Int):Bool:=decide (gM row ms E "one" t=0\/gM row ms E "other" u=0\/(gM row ms E "one" t=1/\gM row ms E "other" u=1))
abbrev ZbY (C:Av)(ds:List D)(M:Mp)(Q:Ef):Prop:=Jd ds λx n y=>∃(A:KA) (E:Str->List (Str×Nat)) (row:List (Str×Str×Nat)) (ms:List Int) (t u:Tm) (bs es:List (Str×Int)) (k:Nat),x=.ref A.o/\n=.int k/\y=.tup [t.D,u.D]/\NR E row/\FT C M A E row ms ms/\K4 ms/\YL E bs es t u/\k<=row.length/\ms.length<=row.length/\∀M',FT C M' A E row (HD k ms) (HD k ms)->Ja A M M'->Q (.bl (QX row E t u (HD k ms))) M'
section
theorem wW:Om T T.x55 21 (ZbY T.C_Known):=by
 refine Cz.p3 T.x55.d.F ["self", "many", "guards", "held"] λx n y M Q hr nN h=>?_;obtain⟨A,E,row,ms,t,u,bs,es,k,e1',e2',e3',kr,kn,hk,gd,h1,h2,q⟩:_:=h;refine⟨_,(qC (EZ (Fe T.cl_Known T.x53.d (vX T) nofun (qv 0) (qA (qv 1) qN))) (qC (CA 3 nN (Fe T.cl_Known T.x58.d (wX T) nofun (qv 0) (qA (qv 2) qN))) (qO (Cr (mC (JN OQ Ak (qv 3) (by with_unfolding_all rfl)) (OO (JN (X2 (Js hr)) (qv 3) (CC (qA Ak (qA Ak qN)))))))))),?_⟩;right;rw[kn.o,Ho];refine⟨LC (by nofun) (by nofun) (by nofun),A,E,row,ms,k,rfl,rfl,kr,kn,hk,h1,h2,λM' kn' ko=>?_⟩
 (try grind)
 rw[kn'.o,Ho];refine⟨LC (by nofun) (by nofun) (by nofun),A,E,row,_,t,u,bs,es,rfl,rfl,kr,kn',Z0 hk k,gd,?_⟩
 (try grind)
 have z:=q M' kn' ko;unfold QX at z;refine Cy (λc=>?_) λc=>?_
 .rw[decide_eq_true (c.elim .inl λh=>.inr (.inl h))]at z;exact Dn.of z
 .rw[<- RB];rw[decide_eq_decide.mpr ⟨λh=>h.elim (λh=>absurd (.inl h) c) λh=>h.elim (λh=>absurd (.inr h) c) id,λh=>.inr (.inr h)⟩]at z;exact Dn.of z
end
theorem ZN (h:ms.length<=n):HD n ms=ms++Ay (n-ms.length) 0:=by
 unfold HD;exact BW (by rw[As,Bn];ext)
theorem sm (ms:List Int):HD ms.length ms=ms:=by rw[ZN (AH _),Ky,IH,CT]
theorem Yl {a b:Nat}{ms:List Int}(ha:ms.length<=a)(hb:ms.length<=b):HD b (HD a ms)=HD b ms:=by
 rw[ZN hb];unfold HD;have e:(ms++Ay (a-ms.length) (0:Int)).take a=ms++Ay (a-ms.length) 0:=ZN ha;rw[e,As,Bn,Bq,List.replicate_append_replicate,List.take_append,BW hb,List.take_replicate];congr 2
 ext
noncomputable def Vg (st:Nat->Bool)(b L:Nat):Nat->Nat->Nat->Nat×Nat
 |0,lo,hi=>(lo,hi)
 |f+1,lo,hi=>if st hi=true then(lo,hi)else Vg st b L f (hi+1) (min (b+2*(hi+1-b)) L)
noncomputable def Vn (st:Nat->Bool):Nat->Nat->Nat->Nat
 |0,_,hi=>hi
 |f+1,lo,hi=>if lo<hi then(if st ((lo+hi) / 2)=true then Vn st f lo ((lo+hi) / 2)else Vn st f ((lo+hi) / 2+1) hi)else hi
noncomputable def Zx (st:Nat->Bool)(b L:Nat):Nat:=Vn st (L+1) (Vg st b L (L+1) b b).1 (Vg st b L (L+1) b b).2
abbrev Zec (C:Av)(ds:List D)(M:Mp)(Q:Ef):Prop:=Fw ds λx y=>∃(A:KA) (E:Str->List (Str×Nat)) (row:List (Str×Str×Nat)) (ms:List Int) (t u:Tm) (bs es:List (Str×Int)) (st:Nat->Bool),x=.ref A.o/\y=.tup [t.D,u.D]/\NR E row/\FT C M A E row ms ms/\K4 ms/\YL E bs es t u/\ms.length<=row.length/\(∀k,QX row E t u (HD k ms)=st k)/\st row.length=true/\∀M' N,Zx st ms.length row.length=N->ms.length<=N->N<=row.length->st N=true->FT C M' A E row (HD N ms) (HD N ms)->Ja A M M'->Q .non M'
section
theorem Zek:Om T T.x54 22 (Zec T.C_Known):=by
 refine Cz.p2 T.x54.d.F ["self", "guards", "begin", "low", "high", "middle"] λx y M Q hr nN h=>?_;obtain⟨A,E,row,ms,t,u,bs,es,st,e1',e2',kr,kn,hk,gd,n1,hst,hL,q⟩:_:=h;have r5:=kr.l;refine⟨_,(qC (CA 2 nN (B9 Ko T.B.len BZ (qA (G3 T.cl_Known T.na_Known_marks (qv 0)) qN))) (qC (CA 3 nN (qv 2)) (qC (CA 4 nN (qv 2)) (Fa (R9 AQ (Mh (HA (Fe T.cl_Known T.x55.d (wW T) nofun (qv 0) (qA (qv 4) (qA (qv 1) qN))))) (qC (CA 3 nN (BB Hl (qv 4) Ak)) (qO (CA 4 nN (B9 (yV rfl) T.B.min boot_min (qA (BB Hl (qv 2) (BB Ue Ak (BB Mo (qv 3) (qv 2)))) (qA (B9 Ko T.B.len BZ (qA (G3 T.cl_Known T.na_Known_row (qv 0)) qN)) qN))))))) (Fa (R9 AQ (AV KY (qv 3) (qv 4)) (qC (CA 5 nN (BB Kq (BB Hl (qv 3) (qv 4)) Ak)) (qO (Ep (HA (Fe T.cl_Known T.x55.d (wW T) nofun (qv 0) (qA (qv 5) (qA (qv 1) qN)))) (qO (CA 4 nN (qv 5))) (qO (CA 3 nN (BB Hl (qv 5) Ak))))))) (qO (EZ (Fe T.cl_Known T.x53.d (vX T) nofun (qv 0) (qA (qv 4) qN))))))))),?_⟩;right;rw[kn.o,Ho,Qz,B3,QY kn.m,B3,Ab]
 (try grind)
 generalize hG:D.tup [t.D,u.D]=G;unfold Zx at q;generalize hP:Vg st ms.length row.length (row.length+1) ms.length ms.length=P0 at q;refine⟨λτ M'=>∃lo hi c:Nat,((ms.length<=lo/\lo<=hi/\hi<=row.length/\P0=(lo,hi)/\st hi=true)/\(ms.length<=c/\c<=row.length)/\FT T.C_Known M' A E row (HD c ms) (HD c ms)/\Ja A M M')/\τ=[some (.ref A.o),some G,some (.int ms.length),some (.int lo),some (.int hi),none],?_,?_⟩
 .refine⟨λk τ M'=>∃lo hi c:Nat,((ms.length<=lo/\lo<=hi/\hi<=row.length/\row.length-hi+1<=k/\Vg st ms.length row.length k lo hi=P0)/\(ms.length<=c/\c<=row.length)/\FT T.C_Known M' A E row (HD c ms) (HD c ms)/\Ja A M M')/\τ=[some (.ref A.o),some G,some (.int ms.length),some (.int lo),some (.int hi),none],⟨row.length+1,ms.length,ms.length,ms.length,⟨⟨AH _,AH _,n1,by ext,hP⟩,⟨AH _,n1⟩,by rw[sm];exact kn,Ja.refl A M⟩,rfl⟩,?_⟩;intro k τ M' hI';refine An λG' kk'=>?_;obtain⟨lo,hi,c,⟨⟨h1,h3,h4,hf,hu⟩,⟨c1,c2⟩,kn',ko⟩,e1'⟩:=hI';refine kk' ?_;clear kk';subst e1';obtain⟨k,rfl⟩:∃k',k=k'+1:=⟨k-1,by ext⟩;rw[Vg]at hu;grind;rw[kn'.o,Ho];subst hG;refine⟨LC (by nofun) (by nofun) (by nofun),A,E,row,_,t,u,bs,es,hi,rfl,rfl,rfl,kr,kn',Z0 hk c,gd,h4,by rw[Ym];exact c2,λM2 k2 o2=>?_⟩;rw[Yl c1 (by ext)]at k2;rw[Yl c1 (by ext),hst];cases es0:st hi with
  |true=>
   rw[es0,if_pos rfl]at hu
   (try grind)
   exact⟨lo,hi,hi,⟨⟨h1,h3,h4,hu.symm,es0⟩,⟨by ext,h4⟩,k2,ko.trans o2⟩,rfl⟩
  |false=>
   rw[es0,if_neg Aj]at hu
   have hlt:hi<row.length:=by
    rcases GZ hi row.length with h|h
    .exact h
    .rw[show hi=row.length by ext,hL]at es0;cases es0
   (try grind)
   have ho:(min (ms.length+2*(hi+1-ms.length)) row.length:Nat)=(if (row.length:Int)<ms.length+2*(hi+1-ms.length)then(row.length:Int)else ms.length+2*(hi+1-ms.length)):=by
    split<;>ext
   refine⟨?_,?_⟩
   .exact .inl ⟨by ext,by ext⟩
   rw[k2.o,Ho,oM,B3,QY k2.q,B3,Ab,<- ho];exact⟨k,by ext,hi+1,min (ms.length+2*(hi+1-ms.length)) row.length,hi,⟨⟨by ext,by ext,by ext,by ext,hu⟩,⟨by ext,h4⟩,k2,ko.trans o2⟩,rfl⟩
 intro τ M';ext1⟨lo,hi,c,⟨⟨h1,h3,h4,hp,hs⟩,⟨c1,c2⟩,kn',ko⟩,e1'⟩;subst hp;dsimp only at q;generalize hR:Vn st (row.length+1) lo hi=N at q;refine⟨λτ M'=>∃c:Nat,((ms.length<=c/\c<=row.length)/\FT T.C_Known M' A E row (HD c ms) (HD c ms)/\Ja A M M'/\ms.length<=N/\N<=row.length/\st N=true)/\∃x,τ=[some (.ref A.o),some G,some (.int ms.length),some (.int N),some (.int N),x],?_,?_⟩
 .refine⟨λk τ M'=>∃lo hi c:Nat,((ms.length<=lo/\lo<=hi/\hi<=row.length/\hi-lo+1<=k/\Vn st k lo hi=N/\st hi=true)/\(ms.length<=c/\c<=row.length)/\FT T.C_Known M' A E row (HD c ms) (HD c ms)/\Ja A M M')/\∃x,τ=[some (.ref A.o),some G,some (.int ms.length),some (.int lo),some (.int hi),x],⟨_,lo,hi,c,⟨⟨h1,h3,h4,by ext,hR,hs⟩,⟨c1,c2⟩,kn',ko⟩,_,rfl⟩,?_⟩;clear hs hR hP c1 c2 kn' ko h1 h3 h4;intro k τ M';ext1⟨lo,hi,c,⟨⟨h1,h3,h4,hf,hu,hs⟩,⟨c1,c2⟩,kn',ko⟩,x,e1'⟩;obtain⟨k,rfl⟩:∃k',k=k'+1:=⟨k-1,by ext⟩;rw[Vn]at hu;grind;subst hG;refine Cy (λc=>?_) λc=>?_
  .have clt:lo<hi:=by ext
   rw[if_pos clt]at hu;have em:((lo:Int)+hi) / 2=((lo+hi) / 2:Nat):=by ext
   rw[em];refine⟨by unfold UN;ext,?_⟩;rw[kn'.o,Ho];refine⟨LC (by nofun) (by nofun) (by nofun),A,E,row,_,t,u,bs,es,(lo+hi) / 2,rfl,rfl,rfl,kr,kn',Z0 hk _,gd,by ext,by rw[Ym];exact c2,λM2 k2 o2=>?_⟩;rw[Yl c1 (by ext)]at k2;rw[Yl c1 (by ext),hst];cases es0:st ((lo+hi) / 2)with
   |true=>
    rw[es0,if_pos rfl]at hu
    (try grind)
    exact⟨k,by ext,lo,(lo+hi) / 2,(lo+hi) / 2,⟨⟨h1,by ext,by ext,by ext,hu,es0⟩,⟨by ext,by ext⟩,k2,ko.trans o2⟩,_,rfl⟩
   |false=>
    rw[es0,if_neg Aj]at hu
    (try grind)
    exact⟨k,by ext,(lo+hi) / 2+1,hi,(lo+hi) / 2,⟨⟨by ext,by ext,h4,by ext,hu,hs⟩,⟨by ext,by ext⟩,k2,ko.trans o2⟩,_,rfl⟩
  .have e:lo=hi:=by ext
   rw[if_neg (by ext)]at hu;subst hu;subst e;exact⟨_,⟨⟨c1,c2⟩,kn',ko,h1,h4,hs⟩,_,rfl⟩
 intro τ M2;ext1⟨c',⟨⟨c1',c2'⟩,kn2,ko2,N1,N2,sN⟩,x,e1'⟩;grind;rw[kn2.o,Ho];refine⟨LC (by nofun) (by nofun) (by nofun),A,E,row,_,N,rfl,rfl,kr,kn2,Z0 hk _,N2,by rw[Ym];exact c2',λM3 k3 o3=>?_⟩;rw[Yl c1' N1]at k3;exact Dn.of (q M3 N rfl N1 N2 sN k3 (ko2.trans o3))
end
abbrev Zfg (C:Av)(ds:List D)(M:Mp)(Q:Ef):Prop:=Ga ds λx=>∃(A:KA) (E:Str->List (Str×Nat)) (row:List (Str×Str×Nat)) (a:List Int) (k:Nat),x=.ref A.o/\NR E row/\FT C M A E row (a++Ay k 1) (a++Ay k 1)/\K4 a/\(a++Ay k 1).length<=row.length/\((a=[]/\∀M',FT C M' A E row [] []->Ja A M M'->Q (.bl false) M')\/∃b,a=b++[0]/\∀M',FT C M' A E row (b++[1]) (b++[1])->Ja A M M'->Q (.bl true) M')
theorem qY (k:Nat):K4 (Ay k 1):=λm hm=>.inr (.inl (EH hm))
theorem mK (xs:List Int)(m:Int):FC ((xs++[m]).map D.int) (-1)=some (.int m):=by
 rw[AM];exact rc _ _
section
theorem ZfA:Om T T.x57 4 (Zfg T.C_Known):=by
 refine Cz.p1 T.x57.d.F ["self"] λx M Q hr nN h=>?_;obtain⟨A,E,row,a,k,e1',kr,kn,hk,hl,q⟩:_:=h;refine⟨_,(Fa (R9 AQ ((X8 (AV KZ (B9 Ko T.B.len BZ (qA (G3 T.cl_Known T.na_Known_marks (qv 0)) qN)) Ak) (Yg (AV CJ (Bl Hn (G3 T.cl_Known T.na_Known_marks (qv 0)) (Q0 ZJ Ak)) Ak)))).pt (qO (EZ (Kb T.cl_Known T.x52.d (kM T) nofun (qv 0))))) (qC (Ep (AV CJ (B9 Ko T.B.len BZ (qA (G3 T.cl_Known T.na_Known_marks (qv 0)) qN)) Ak) (qO (Cr SO)) qE) (qC (EZ (Kb T.cl_Known T.x52.d (kM T) nofun (qv 0))) (qC (EZ (Fe T.cl_Known T.x51.d (wS T) nofun (qv 0) (qA Ak qN))) (qO (Cr SO)))))),?_⟩
 (try simp only[Md,Mb,Mc])
 refine⟨λτ M'=>(FT T.C_Known M' A E row a a/\Ja A M M')/\τ=[some (.ref A.o)],?_,?_⟩
 .refine⟨λj τ M'=>(j<=k/\FT T.C_Known M' A E row (a++Ay j 1) (a++Ay j 1)/\Ja A M M')/\τ=[some (.ref A.o)],⟨k,⟨AH _,kn,Ja.refl A M⟩,rfl⟩,?_⟩;intro j τ M';ext1⟨⟨hj,kn',ko⟩,e1'⟩;grind;rw[kn'.o,Ho,Qz,B3,QY kn'.m,B3];rw[Ab];refine Cy (λc=>?_) λc=>?_
  .rw[Ho,Qz,B3,fN kn'.m,B3];cases j with
   |zero=>
    rw[IH,CT]at c kn' ⊢;rcases q with⟨rfl,-⟩|⟨b,rfl,-⟩
    .exact absurd c (by simp)
    rw[mK,B3]
    (try grind)
    exact⟨kn',ko⟩
   |succ j=>
    rw[N4,<- Bq]at c kn' ⊢;rw[mK,B3]
    (try grind)
    rw[kn'.o,Ho];exact⟨LC (by nofun) (by nofun) (by nofun),A,E,row,_,1,rfl,kr,kn',by rw[As,Bn]at hl ⊢;ext,Yo (Yo hk (qY j)) (qY 1),λM2 k2 o2=>⟨j,by ext,by ext,k2,ko.trans o2⟩⟩
  .have e:a++Ay j 1=[]:=AD (by ext);rw[e]at kn';rw[(List.append_eq_nil_iff.mp e).1];exact⟨kn',ko⟩
 rintro τ M' ⟨⟨kn',ko⟩,rfl⟩;grind;rw[kn'.o,Ho,Qz,B3,QY kn'.m,B3]
 (try grind)
 rcases q with⟨rfl,q⟩|⟨b,rfl,q⟩
 .exact Dn.of (q M' kn' ko)
 .rw[if_neg (by rw[As];show¬((b.length+1:Nat):Int)=0;ext)];have l1:b.length<row.length:=by rw[As,As]at hl;change b.length+1+_<=_ at hl;ext
  refine⟨LC (by nofun) (by nofun) (by nofun),A,E,row,b,0,rfl,kr,kn',l1,hk,λM2 k2 o2=>?_⟩;rw[k2.o,Ho];exact⟨LC (by nofun) (by nofun) (by nofun),A,E,row,b,1,rfl,rfl,kr,k2,l1,.inr (.inl rfl),λm hm=>hk m (CK _ hm),λM3 k3 o3=>Dn.of (q M3 k3 ((ko.trans o2).trans o3))⟩
end
noncomputable def Vm (row:List (Str×Str×Nat))(ms:List Int)(E:Str->List (Str×Nat))(s:Str):List (Str×Int):=(E s).map λn=>(n.1,Km (Lc row ms s n.1 n.2))
abbrev Zcg (C:Av)(ds:List D)(M:Mp)(Q:Ef):Prop:=Fw ds λx y=>∃(A:KA) (E:Str->List (Str×Nat)) (row:List (Str×Str×Nat)) (ms:List Int) (s:Str),x=.ref A.o/\y=.str s/\Kt s/\NR E row/\M A.o=some (.obj C (ML A))/\M A.d=some (.dic (IV A))/\M (A.at s)=some (.dic (HI row ms E s))/\Q (.dic (E9 (Vm row ms E s))) (JU M (A.at s))
section
theorem bE:Om T T.x61 3 (Zcg T.C_Known):=by
 refine Cz.p2 T.x61.d.F ["self", "sort", "named"] λx y M Q hr nN h=>?_;obtain⟨A,E,row,ms,so,e1',e2',hs,kr,k1,k2,k3,q⟩:_:=h;refine⟨_,(qC (X7 (i:=2) nN rfl (FX rfl) (KW (FO (Kp hr) (G3 T.cl_Known T.na_Known_spans (qv 0)) (qv 1) (λ_ _=>rfl)))) (qO (Cr (CB (aI rfl) T.B.dict O5 (qA (RI (caps:=[("named",2)]) (j:=2) ⟨rfl,by rfl,by rfl,by rfl,rfl,by rfl,by nofun⟩ rfl rfl (FX (Cd rfl)) (by decide) (by decide) (λ_ _ _ _ _ _ _=>(CC (qA (qv 0) (qA (Bl BJ (FO (Kp hr) (qv 1) (qv 0) (λ_ _=>rfl)) Ak) qN))))) qN))))),?_⟩;right;rw[k1,Ho,Ys,B3,Q9 k2,B3,VC hs,B3]
 (try grind)
 rw[k3]
 (try grind)
 have e12:=(kr.e so).2.1
 have ek:E1 (λp:Co×D=>kD p.1) (HI row ms E so)=(E so).map λn=>.str n.1:=by
  unfold HI;rw[BI];rfl
 rw[ek];refine Eg.of (ks:=E so) (g:=λn=>.str n.1) (f:=λn=>.tup [.str n.1,.int (Km (Lc row ms so n.1 n.2))]) (GR (by ext)) trivial (λn hn R r=>?_) ?_
 .walk_at "cap";rw[iW (kr.e so).1 hn,B3];unfold MH
  (try grind)
  exact r
 refine⟨E9 (Vm row ms E so),?_,GR (by unfold E9 Vm;rw[Ab,Ab];ext),?_⟩
 .simp[G5,E9,Vm,kD]
 rw[aS _ (jF _ (by unfold Vm;rw[BI];exact(kr.e so).1))];exact Dn.of q
end
noncomputable def Zu (row:List (Str×Str×Nat))(ms:List Int)(E:Str->List (Str×Nat))(s:Str):D:=.dic (E9 (Vm row ms E s))
noncomputable def Op (row:List (Str×Str×Nat))(ms:List Int)(E:Str->List (Str×Nat)):D:=.tup [.str "both",Zu row ms E "box",Zu row ms E "door",Zu row ms E "one",Zu row ms E "other"]
abbrev Zc0 (C:Av)(ds:List D)(M:Mp)(Q:Ef):Prop:=Ga ds λx=>∃(A:KA) (E:Str->List (Str×Nat)) (row:List (Str×Str×Nat)) (ms:List Int),x=.ref A.o/\NR E row/\FT C M A E row ms ms/\Q (Op row ms E) (JU (JU (JU (JU M A.b) A.e) A.f) A.g)
theorem IA {M:Mp}{p q:Av}(h:p≠q):JU M q p=M p:=if_neg h
theorem FT.one {C:Av}{M:Mp}{A:KA}{E:Str->List (Str×Nat)}{row:List (Str×Str×Nat)}{ms ks:List Int}(kn:FT C M A E row ms ks){s:Str}(hs:Kt s):A.o≠A.at s:=λe=>by
 have hd:=kn.o;rw[e,kn.s s hs]at hd;cases hd
section
theorem Zc5:Om T T.x60 4 (Zc0 T.C_Known):=by
 refine Cz.p1 T.x60.d.F ["self"] λx M Q hr nN h=>?_;obtain⟨A,E,row,ms,e1',kr,kn,q⟩:_:=h;refine⟨_,(qO (Cr (CC (qA BV (qA (Fe T.cl_Known T.x61.d (bE T) nofun (qv 0) (qA BV qN)) (qA (Fe T.cl_Known T.x61.d (bE T) nofun (qv 0) (qA BV qN)) (qA (Fe T.cl_Known T.x61.d (bE T) nofun (qv 0) (qA BV qN)) (qA (Fe T.cl_Known T.x61.d (bE T) nofun (qv 0) (qA BV qN)) qN)))))))),?_⟩;have sb:Kt "box":=.inl rfl;have sd:Kt "door":=.inr (.inl rfl);have so:Kt "one":=.inr (.inr (.inl rfl));have st:Kt "other":=.inr (.inr (.inr rfl));have nd:=kn.nd;simp only[Ez,BA,AR,or_false,not_or]at nd;obtain⟨⟨n1,n2,n3⟩,⟨n4,n5⟩,n6,-⟩:_:=nd;have o1:=kn.one sb;have o2:=kn.one sd;have o3:=kn.one so;have d1:=kn.dne sb;have d2:=kn.dne sd;have d3:=kn.dne so;have k1:=kn.s _ sb;have k2:=kn.s _ sd;have k3:=kn.s _ so;have k4:=kn.s _ st;simp only[Ug,Uo,Uh,Uu]at o1 o2 o3 d1 d2 d3 k1 k2 k3 k4;have no:∀{B:KA},BH (Al "low_words") (ML B)=none:=λ{B}=>LC (by nofun) (by nofun) (by nofun);right;rw[kn.o,Ho];refine⟨no,A,E,row,ms, "box",rfl,rfl,sb,kr,kn.o,kn.d,by rw[Ug];exact k1,?_⟩;rw[Ug,IA o1,kn.o,Ho];refine⟨no,A,E,row,ms, "door",rfl,rfl,sd,kr,by rw[IA o1];exact kn.o,by rw[IA d1];exact kn.d,by rw[Uo,IA (Bj n1)];exact k2,?_⟩;rw[Uo,IA o2,IA o1,kn.o,Ho];refine⟨no,A,E,row,ms, "one",rfl,rfl,so,kr,by rw[IA o2,IA o1];exact kn.o,by rw[IA d2,IA d1];exact kn.d,by rw[Uh,IA (Bj n4),IA (Bj n2)];exact k3,?_⟩;rw[Uh,IA o3,IA o2,IA o1,kn.o,Ho];refine⟨no,A,E,row,ms, "other",rfl,rfl,st,kr,by rw[IA o3,IA o2,IA o1];exact kn.o,by rw[IA d3,IA d2,IA d1];exact kn.d,by rw[Uu,IA (Bj n6),IA (Bj n5),IA (Bj n3)];exact k4,?_⟩;rw[Uu];exact Dn.of q
end
def QH (ms:List Int):Prop:=∀m∈ms,m=0\/m=1
theorem nG:∀{ms:List Int},QH ms->Km ms=Lf ms
 |[],_=>rfl
 |m::ms,h=>by
  rw[m9,kl,nG λx hx=>h x (AF _ hx)];rcases h m AG with rfl|rfl<;>rfl
noncomputable def GK (s z:Str)(w:Nat):List (Str×Str×Nat):=(Bk w).map λi=>(s,z,w-1-i)
theorem uo (s z:Str)(w:Nat):(GK s z w).length=w:=by unfold GK;rw[Ab,BX]
theorem aD {w:Nat} :b∈GK s z w↔b.1=s/\b.2.1=z/\b.2.2<w:=by
 constructor
 .intro h;obtain⟨i,hi,rfl⟩:=Ao.mp h;have hi:=Ca.mp hi;exact⟨rfl,rfl,by show w-1-i<w;ext⟩
 .rintro⟨rfl,rfl,h⟩;refine Ao.mpr ⟨w-1-b.2.2,Ca.mpr (by ext),?_⟩;rw[show w-1-(w-1-b.2.2)=b.2.2 by ext]
theorem rf (s z:Str)(w:Nat):(GK s z w).Nodup:=by
 unfold GK Fh;rw[CW];refine Wh (λ{i j} hi hj h c=>?_) List.pairwise_lt_range;have hi:=Ca.mp hi;have hj:=Ca.mp hj;have:=congrArg (λx:Str×Str×Nat=>x.2.2) c;change w-1-i=w-1-j at this;ext
theorem iV :∀(l:List (Str×Str×Nat)) (acc:List (Str×Nat)),(∀b∈l,¬(b.1=t/\b.2.1∉acc.map (·.1)))->l.foldl (MI t) acc=acc
 |[],acc,_=>rfl
 |b::l,acc,h=>by
  rw[DI,show MI t acc b=acc from if_neg (h b AG)];exact iV l acc λb hb=>h b (AF _ hb)
theorem pb {w:Nat}(acc:List (Str×Nat))(hw:1<=w):(GK s z w).foldl (MI t) acc=if s=t/\z∉acc.map (·.1)then acc++[(z,w)]else acc:=by
 by_cases h:s=t/\z∉acc.map (·.1)
 .rw[if_pos h];obtain⟨n,rfl⟩:∃n,w=n+1:=⟨w-1,by ext⟩;unfold GK;rw[Es,AT,DI]
  have e:MI t acc (s,z,n+1-1-0)=acc++[(z,n+1)]:=by
   unfold MI;rw[if_pos h];rfl
  rw[e];refine iV _ _ λb hb c=>c.2 ?_;obtain⟨i,hi,rfl⟩:=Ao.mp hb;show z∈(acc++[(z,n+1)]).map (·.1);simp
 .rw[if_neg h];refine iV _ _ λb hb c=>h ?_;obtain⟨h1,h2,-⟩:=aD.mp hb;rw[h1,h2]at c;exact c
noncomputable def Fv (g:List (Str×Str×Nat)):List (Str×Str×Nat):=g.flatMap λp=>GK p.1 p.2.1 p.2.2
noncomputable def LA (p:Str×Str×Nat):Str×Str:=(p.1,p.2.1)
noncomputable def Q3 (g:List (Str×Str×Nat))(s:Str):List (Str×Nat):=(g.filter λp=>decide (p.1=s)).map (·.2)
theorem hU {s:Str}:∀(g:List (Str×Str×Nat)) (acc:List (Str×Nat)),(∀p∈g,1<=p.2.2/\(p.1=s->p.2.1∉acc.map (·.1)))->(g.map LA).Nodup->(Fv g).foldl (MI s) acc=acc++Q3 g s
 |[],acc,_,_=>(CT acc).symm
 |p::g,acc,h,nd=>by
  obtain⟨h1,h2⟩:=h p AG;rw[AT,Ez]at nd;show(GK p.1 p.2.1 p.2.2++Fv g).foldl (MI s) acc=_;rw[JB,pb _ h1];unfold Q3;by_cases e:p.1=s
  .rw[if_pos ⟨e,h2 e⟩,Jk,if_pos (decide_eq_true e),AT];rw[hU g (acc++[(p.2.1,p.2.2)]) (λq hq=>⟨(h q (AF _ hq)).1,λeq hm=>?_⟩) nd.2,Bq]
   .rfl
   .rw[AM]at hm;rcases AY.mp hm with hm|hm
    .exact(h q (AF _ hq)).2 eq hm
    .have e2:q.2.1=p.2.1:=by simpa using hm
     exact nd.1 (Ao.mpr ⟨q,hq,by unfold LA;rw[eq,e,e2]⟩)
  .rw[if_neg (λc=>e c.1),Jk,if_neg (by simpa using e)];exact hU g acc (λq hq=>h q (AF _ hq)) nd.2
theorem iN :b∈Fv g↔∃w,(b.1,b.2.1,w)∈g/\b.2.2<w:=by
 constructor
 .intro h;obtain⟨p,hp,hb⟩:=QS.mp h;obtain⟨e1,e2,e3⟩:=aD.mp hb;exact⟨p.2.2,by rw[e1,e2];exact hp,e3⟩
 .rintro⟨w,h,hw⟩;exact QS.mpr ⟨_,h,aD.mpr ⟨rfl,rfl,hw⟩⟩
theorem oT:∀(g:List (Str×Str×Nat)),(g.map LA).Nodup->(Fv g).Nodup
 |[],_=>HU
 |p::g,nd=>by
  rw[AT,Ez]at nd;show(GK p.1 p.2.1 p.2.2++Fv g).Nodup;rw[D4];refine⟨rf ..,oT g nd.2,λa ha b hb e=>nd.1 ?_⟩;subst e;obtain⟨e1,e2,-⟩:=aD.mp ha;obtain⟨w,hw,-⟩:=iN.mp hb;exact Ao.mpr ⟨_,hw,by unfold LA;rw[e1,e2]⟩
theorem rF:∀(g:List (Str×Str×Nat)),(∀p∈g,p.2.2<=64)->(Fv g).length<=64*g.length
 |[],_=>AH _
 |p::g,h=>by
  have:=rF g λq hq=>h q (AF _ hq);have:=h p AG;show(GK p.1 p.2.1 p.2.2++Fv g).length<=_;rw[As,uo,AK];ext
theorem Yn {g:List (Str×Str×Nat)}{s z:Str}{w:Nat}:(z,w)∈Q3 g s↔(s,z,w)∈g:=by
 unfold Q3;constructor
 .intro h;obtain⟨p,hp,e⟩:=Ao.mp h;obtain⟨h1,h2⟩:=AX.mp hp;have h2:=of_decide_eq_true h2;rw[<- e,<- h2];exact h1
 .exact λh=>Ao.mpr ⟨_,AX.mpr ⟨h,decide_eq_true rfl⟩,rfl⟩
structure UF (g:List (Str×Str×Nat)):Prop where
 nd:(g.map LA).Nodup
 w:∀p∈g,Kt p.1/\1<=p.2.2/\p.2.2<=64
 l:g.length<=72
 e:∀s,(Q3 g s).length<=12
theorem UF.en {g:List (Str×Str×Nat)}(h:UF g)(s:Str):Ib (Fv g) s=Q3 g s:=by
 unfold Ib;rw[hU g [] (λp hp=>⟨(h.w p hp).2.1,λ_ hm=>by cases hm⟩) h.nd,FE]
theorem UF.kr {g:List (Str×Str×Nat)}(h:UF g):NR (Ib (Fv g)) (Fv g):=by
 refine⟨oT g h.nd,λb hb=>?_,λs=>?_,?_⟩
 .obtain⟨w,hw,hl⟩:=iN.mp hb;exact⟨(h.w _ hw).1,w,by rw[h.en];exact Yn.mpr hw,hl⟩
 .rw[h.en];refine⟨?_,h.e s,λn hn=>(h.w _ ((Yn).mp hn)).2⟩;have nd:=h.nd;unfold Q3;unfold Fh at nd ⊢;rw[CW,CW];rw[CW]at nd;refine(J3 _ nd).imp_of_mem λ{a b} ha hb hab e=>hab ?_;have e1:=of_decide_eq_true (AX.mp ha).2;have e2:=of_decide_eq_true (AX.mp hb).2;unfold LA;rw[e1,e2,e]
 .have:=rF g λp hp=>(h.w p hp).2.2;have:=h.l;ext
theorem u5 {ws:List (Str×Nat)}(h:ws.lookup x=some n):(x,n)∈ws:=by
 induction ws with
 |nil=>cases h
 |cons p ws ih=>
  rw[Bs]at h;split at h
  .next e=>cases h;rw[eq_of_beq e];exact AG
  .exact AF _ (ih h)
theorem se (h:UF g)(hb:QH ms)(hl:ms.length=(Fv g).length){w:Nat}(hz:(z,w)∈Ib (Fv g) s):QH (Lc (Fv g) ms s z w):=λm hm=>by
 obtain⟨j,hj,rfl⟩:=Ao.mp hm;have hj:=Ca.mp hj;rw[h.en]at hz;have mem:(s,z,j)∈Fv g:=iN.mpr ⟨w,Yn.mp hz,hj⟩;have hi:(Fv g).idxOf (s,z,j)<ms.length:=by rw[hl];exact FY mem
 rw[Ch,Af hi];exact hb _ (F5 hi)
theorem sf {g:List (Str×Str×Nat)}(h:UF g){ms:List Int}(hb:QH ms)(hl:ms.length=(Fv g).length){bs es:List (Str×Int)}{t u:Tm}(gd:YL (Ib (Fv g)) bs es t u):QX (Fv g) (Ib (Fv g)) t u ms=true:=by
 have kn:∀s x,GV (Q7 (Fv g) ms (Ib (Fv g)) s x):=λs x=>by
  unfold Q7;cases e:(Ib (Fv g) s).lookup x with
  |none=>rfl
  |some w=>exact nG (se h hb hl (u5 e))
 have bit:∀so t,VS (Ib (Fv g)) so bs es t->gM (Fv g) ms (Ib (Fv g)) so t=0\/gM (Fv g) ms (Ib (Fv g)) so t=1:=λso t gk=>by
  have k:=(gQ gk.w (gk.dt h.kr)).2 λx=>⟨kn "box" x,kn so x,kn "door" x⟩;unfold gM fL;rw[k,if_pos rfl];ext
 unfold QX;refine decide_eq_true ?_;rcases bit "one" t gd.a with e|e
 .exact .inl e
 .rcases bit "other" u gd.b with f|f
  .exact .inr (.inl f)
  .exact .inr (.inr ⟨e,f⟩)
noncomputable def sg (s:Str)(ws:List (Str×Int))(ss:List Str):List (Str×Str×Nat):=ss.map λz=>(s,z,((ws.lookup z).getD 0).toNat)
noncomputable def Dp (ws ds:List (Str×Int))(g1 g2:Tm):List (Str×Str×Nat):=sg "box" ws (KU (He g1) (He g2))++sg "door" ds (KU (GS g1) (GS g2))++sg "box" ws (La (He g1) (He g2))++sg "door" ds (La (GS g1) (GS g2))++sg "one" ws (Mj g1)++sg "other" ws (Mj g2)
theorem qS (s)(ws:List (Str×Int)):∀ss,(∀z∈ss,∃w,ws.lookup z=some w/\1<=w/\w<=64)->Ev s ws ss=(Fv (sg s ws ss)).map bD
 |[],_=>rfl
 |z::ss,h=>by
  obtain⟨w,e,w1,w2⟩:=h z AG;have ih:=qS s ws ss λz hz=>h z (AF _ hz);show Ki s z ((ws.lookup z).getD 0)++Ev s ws ss=(GK s z ((ws.lookup z).getD 0).toNat++Fv (sg s ws ss)).map bD;rw[AM,ih,e];congr 1
  unfold Ki GK;rw[BI];refine EA λi hi=>?_;have hi:=Ca.mp hi;have hi:i<w.toNat:=hi;show D.tup [.str s,.str z,.int (w-1-i)]=D.tup [.str s,.str z,.int ((w.toNat-1-i:Nat):Int)];rw[show((w.toNat-1-i:Nat):Int)=w-1-i by ext]
theorem kx (a b):Fv (a++b)=Fv a++Fv b:=OH
theorem oO :p∈sg s ws ss↔p.2.1∈ss/\p=(s,p.2.1,((ws.lookup p.2.1).getD 0).toNat):=by
 unfold sg;constructor
 .intro h;obtain⟨z,hz,rfl⟩:=Ao.mp h;exact⟨hz,rfl⟩
 .exact λh=>Ao.mpr ⟨_,h.1,h.2.symm⟩
theorem Qu :x∈KU xs ys↔x∈xs/\x∈ys:=by
 unfold KU;rw[GU,FF,decide_eq_true_eq]
theorem Qv :x∈La xs ys↔(x∈ys/\x∉xs)\/(x∈xs/\x∉ys):=by
 unfold La;rw[GU,Dj,FF,FF,decide_eq_true_eq,decide_eq_true_eq]
section
variable {wk:Wk}{g1 g2:Tm}
theorem qM (h:p∈Dp wk.ws wk.ds g1 g2):(p.1 = "box"/\p.2.1∈KU (He g1) (He g2)\/p.1 = "door"/\p.2.1∈KU (GS g1) (GS g2)\/p.1 = "box"/\p.2.1∈La (He g1) (He g2)\/p.1 = "door"/\p.2.1∈La (GS g1) (GS g2)\/p.1 = "one"/\p.2.1∈Mj g1\/p.1 = "other"/\p.2.1∈Mj g2)/\p.2.2=(((if p.1 = "door" then wk.ds else wk.ws).lookup p.2.1).getD 0).toNat:=by
 have nb:¬(Al "box" = "door"):=by nofun
 have no:¬(Al "one" = "door"):=by nofun
 have nt:¬(Al "other" = "door"):=by nofun
 simp only[Dp,Dj,oO]at h;rcases h with((((⟨h,e⟩|⟨h,e⟩)|⟨h,e⟩)|⟨h,e⟩)|⟨h,e⟩)|⟨h,e⟩
 .rw[e];exact⟨.inl ⟨rfl,h⟩,by rw[if_neg nb]⟩
 .rw[e];exact⟨.inr (.inl ⟨rfl,h⟩),by rw[if_pos rfl]⟩
 .rw[e];exact⟨.inr (.inr (.inl ⟨rfl,h⟩)),by rw[if_neg nb]⟩
 .rw[e];exact⟨.inr (.inr (.inr (.inl ⟨rfl,h⟩))),by rw[if_pos rfl]⟩
 .rw[e];exact⟨.inr (.inr (.inr (.inr (.inl ⟨rfl,h⟩)))),by rw[if_neg no]⟩
 .rw[e];exact⟨.inr (.inr (.inr (.inr (.inr ⟨rfl,h⟩)))),by rw[if_neg nt]⟩
theorem sP (k1:E7 wk g1)(k2:E7 wk g2)(h:p∈Dp wk.ws wk.ds g1 g2):Kt p.1/\p.2.1∈(if p.1 = "door" then wk.ds else wk.ws).map (·.1)/\∃n,(if p.1 = "door" then wk.ds else wk.ws).lookup p.2.1=some n/\1<=n/\n<=64:=by
 have nb:¬(Al "box" = "door"):=by nofun
 have no:¬(Al "one" = "door"):=by nofun
 have nt:¬(Al "other" = "door"):=by nofun
 have B:∀{g x},E7 wk g->x∈He g->x∈wk.ws.map (·.1)/\∃n,wk.ws.lookup x=some n/\1<=n/\n<=64:=λk hx=>k.b _ (.inl (GU.mp hx));have L:∀{g x},E7 wk g->x∈Mj g->x∈wk.ws.map (·.1)/\∃n,wk.ws.lookup x=some n/\1<=n/\n<=64:=λk hx=>k.b _ (.inr (GU.mp hx));have O:∀{g x},E7 wk g->x∈GS g->x∈wk.ds.map (·.1)/\∃n,wk.ds.lookup x=some n/\1<=n/\n<=64:=λk hx=>k.d _ (GU.mp hx);obtain⟨h,-⟩:=qM h;rcases h with⟨e,h⟩|⟨e,h⟩|⟨e,h⟩|⟨e,h⟩|⟨e,h⟩|⟨e,h⟩<;>rw[e]
 .rw[if_neg nb];exact⟨.inl rfl,B k1 (Qu.mp h).1⟩
 .rw[if_pos rfl];exact⟨.inr (.inl rfl),O k1 (Qu.mp h).1⟩
 .rw[if_neg nb];exact⟨.inl rfl,(Qv.mp h).elim (λc=>B k2 c.1) λc=>B k1 c.1⟩
 .rw[if_pos rfl];exact⟨.inr (.inl rfl),(Qv.mp h).elim (λc=>O k2 c.1) λc=>O k1 c.1⟩
 .rw[if_neg no];exact⟨.inr (.inr (.inl rfl)),L k1 h⟩
 .rw[if_neg nt];exact⟨.inr (.inr (.inr rfl)),L k2 h⟩
theorem o7 (k1:E7 wk g1)(k2:E7 wk g2):RU wk.ws wk.ds g1 g2=(Fv (Dp wk.ws wk.ds g1 g2)).map bD:=by
 have go:=qS;have B:∀{g x},E7 wk g->x∈He g->∃n,wk.ws.lookup x=some n/\1<=n/\n<=64:=λk hx=>(k.b _ (.inl (GU.mp hx))).2;have L:∀{g x},E7 wk g->x∈Mj g->∃n,wk.ws.lookup x=some n/\1<=n/\n<=64:=λk hx=>(k.b _ (.inr (GU.mp hx))).2;have O:∀{g x},E7 wk g->x∈GS g->∃n,wk.ds.lookup x=some n/\1<=n/\n<=64:=λk hx=>(k.d _ (GU.mp hx)).2;unfold RU Dp;rw[go "box" wk.ws _ λz h=>B k1 (Qu.mp h).1,go "door" wk.ds _ λz h=>O k1 (Qu.mp h).1,go "box" wk.ws _ λz h=>(Qv.mp h).elim (λc=>B k2 c.1) λc=>B k1 c.1,go "door" wk.ds _ λz h=>(Qv.mp h).elim (λc=>O k2 c.1) λc=>O k1 c.1,go "one" wk.ws _ λz h=>L k1 h,go "other" wk.ws _ λz h=>L k2 h];simp only[kx,AM]
theorem i3 (s)(ws)(ss:List Str):(sg s ws ss).map LA=ss.map λz=>(s,z):=by
 unfold sg;rw[BI];rfl
theorem Vt (s:Str){ss:List Str}(h:ss.Nodup):(ss.map λz=>(s,z)).Nodup:=by
 unfold Fh at h ⊢;rw[CW];exact h.imp λh e=>h (congrArg Sh e)
theorem qP (ok:wk.Ok)(k1:E7 wk g1)(k2:E7 wk g2):UF (Dp wk.ws wk.ds g1 g2):=by
 have n1:¬(Al "box" = "door"):=by nofun
 have n2:¬(Al "box" = "one"):=by nofun
 have n3:¬(Al "box" = "other"):=by nofun
 have n4:¬(Al "door" = "one"):=by nofun
 have n5:¬(Al "door" = "other"):=by nofun
 have n6:¬(Al "one" = "other"):=by nofun
 have n7:¬(Al "door" = "box"):=λe=>n1 e.symm;have sn:∀xs ys,(KU xs ys).Nodup:=λxs ys=>R5 _;have un:∀xs ys,(La xs ys).Nodup:=λxs ys=>R5 _;have lw:(wk.ws.map (·.1)).length<=12:=by unfold Wk.ws;rw[Ab,Ab];exact ok.b.1
 have ld:(wk.ds.map (·.1)).length<=12:=by rw[Ab];have:=ok.d.1;ext
 have nd:((Dp wk.ws wk.ds g1 g2).map LA).Nodup:=by
  unfold Dp;simp only[AM,i3];have app:∀{a b:List (Str×Str)},a.Nodup->b.Nodup->(∀x∈a,x∉b)->(a++b).Nodup:=λha hb h=>B7.mpr ⟨ha,hb,λx hx y hy e=>h x hx (e ▸ hy)⟩
  have mm:∀{s:Str} {ss:List Str} {x:Str×Str},x∈ss.map (λz=>(s,z))↔x.1=s/\x.2∈ss:=λ{s ss x}=>by
   rw[Ao];exact⟨λ⟨z,hz,e⟩=>by rw[<- e];exact⟨rfl,hz⟩,λ⟨h1,h2⟩=>⟨x.2,h2,by rw[<- h1]⟩⟩
  refine app (app (app (app (app (Vt _ (sn _ _)) (Vt _ (sn _ _)) ?_) (Vt _ (un _ _)) ?_) (Vt _ (un _ _)) ?_) (Vt _ (R5 _)) ?_) (Vt _ (R5 _)) ?_
  .intro x h h';exact n1 ((mm.mp h).1.symm.trans (mm.mp h').1)
  .intro x h h';obtain⟨e,m⟩:=mm.mp h';rcases AY.mp h with h|h
   .obtain⟨-,m'⟩:=mm.mp h;obtain⟨a,b⟩:=Qu.mp m';rcases Qv.mp m with⟨-,c⟩|⟨-,c⟩
    .exact c a
    .exact c b
   .exact n1 (e.symm.trans (mm.mp h).1)
  .intro x h h';obtain⟨e,m⟩:=mm.mp h';rcases AY.mp h with h|h
   .rcases AY.mp h with h|h
    .exact n7 (e.symm.trans (mm.mp h).1)
    .obtain⟨-,m'⟩:=mm.mp h;obtain⟨a,b⟩:=Qu.mp m';rcases Qv.mp m with⟨-,c⟩|⟨-,c⟩
     .exact c a
     .exact c b
   .exact n7 (e.symm.trans (mm.mp h).1)
  .intro x h h';have e:=(mm.mp h').1;simp only[Dj,mm]at h;rcases h with((h|h)|h)|h
   .exact n2 (h.1.symm.trans e)
   .exact n4 (h.1.symm.trans e)
   .exact n2 (h.1.symm.trans e)
   .exact n4 (h.1.symm.trans e)
  .intro x h h';have e:=(mm.mp h').1;simp only[Dj,mm]at h;rcases h with(((h|h)|h)|h)|h
   .exact n3 (h.1.symm.trans e)
   .exact n5 (h.1.symm.trans e)
   .exact n3 (h.1.symm.trans e)
   .exact n5 (h.1.symm.trans e)
   .exact n6 (h.1.symm.trans e)
 have es:∀s,(Q3 (Dp wk.ws wk.ds g1 g2) s).length<=12:=λs=>by
  have e1:((Q3 (Dp wk.ws wk.ds g1 g2) s).map (·.1)).Nodup:=by
   unfold Q3;unfold Fh at nd ⊢;rw[CW,CW];rw[CW]at nd;refine(J3 _ nd).imp_of_mem λ{a b} ha hb hab e=>hab ?_;have e1:=of_decide_eq_true (AX.mp ha).2;have e2:=of_decide_eq_true (AX.mp hb).2;unfold LA;rw[e1,e2,e]
  have e2:=Rc _ ((if s = "door" then wk.ds else wk.ws).map (·.1)) e1 λx hx=>by
   obtain⟨n,hn,rfl⟩:=Ao.mp hx;exact(sP k1 k2 ((Yn (s:=s) (z:=n.1) (w:=n.2)).mp hn)).2.1
  rw[Ab]at e2;refine A7 e2 ?_;split
  .exact ld
  .exact lw
 have sl:∀s ws ss,(sg s ws ss).length=ss.length:=λs ws ss=>Ab ..;refine⟨nd,λp hp=>?_,?_,es⟩
 .obtain⟨h1,-,n,e,n1,n2⟩:=sP k1 k2 hp;rw[(qM hp).2,e];exact⟨h1,by show 1<=n.toNat;ext,by show n.toNat<=64;ext⟩
 .have mU:∀{xs ys zs:List Str},(∀x∈xs,x∈zs)->(∀x∈ys,x∈zs)->(La xs ys).length<=zs.length:=λh1 h2=>Rc _ _ (un _ _) λx hx=>(Qv.mp hx).elim (λc=>h2 x c.1) λc=>h1 x c.1;have mS:∀{xs ys zs:List Str},(∀x∈xs,x∈zs)->(KU xs ys).length<=zs.length:=λh1=>Rc _ _ (sn _ _) λx hx=>h1 x (Qu.mp hx).1;have b1:∀x∈He g1,x∈wk.ws.map (·.1):=λx hx=>(k1.b _ (.inl (GU.mp hx))).1;have b2:∀x∈He g2,x∈wk.ws.map (·.1):=λx hx=>(k2.b _ (.inl (GU.mp hx))).1;have d1:∀x∈GS g1,x∈wk.ds.map (·.1):=λx hx=>(k1.d _ (GU.mp hx)).1;have d2:∀x∈GS g2,x∈wk.ds.map (·.1):=λx hx=>(k2.d _ (GU.mp hx)).1;have c1:=mS (ys:=He g2) b1;have c2:=mS (ys:=GS g2) d1;have c3:=mU b1 b2;have c4:=mU d1 d2;have c5:=k1.l.2.1;have c6:=k2.l.2.1;unfold Dp;simp only[As,sl];ext
theorem iu (ok:wk.Ok)(o1:NO wk.ws wk.ds g1 1)(o2:NO wk.ws wk.ds g2 1):YL (Ib (Fv (Dp wk.ws wk.ds g1 g2))) wk.ws wk.ds g1 g2:=by
 have k1:=E7.of ok o1;have k2:=E7.of ok o2;have pc:=qP ok k1 k2
 have go:∀{s x:Str} {ws:List (Str×Int)} {ss:List Str} {n:Int},sg s ws ss ⊆ Dp wk.ws wk.ds g1 g2->x∈ss->ws.lookup x=some n->1<=n->∃w:Nat,ws.lookup x=some (w:Int)/\(x,w)∈Ib (Fv (Dp wk.ws wk.ds g1 g2)) s:=λ{s x ws ss n} hs hx e h1=>by
  refine⟨n.toNat,by rw[e,show((n.toNat:Nat):Int)=n by ext],?_⟩;rw[pc.en];exact Yn.mpr (hs (oO.mpr ⟨hx,by show(s,x,n.toNat)=_;rw[e];rfl⟩))
 have s1:sg "box" wk.ws (KU (He g1) (He g2)) ⊆ Dp wk.ws wk.ds g1 g2:=λp hp=>by simp[Dp,hp]
 have s2:sg "door" wk.ds (KU (GS g1) (GS g2)) ⊆ Dp wk.ws wk.ds g1 g2:=λp hp=>by simp[Dp,hp]
 have s3:sg "box" wk.ws (La (He g1) (He g2)) ⊆ Dp wk.ws wk.ds g1 g2:=λp hp=>by simp[Dp,hp]
 have s4:sg "door" wk.ds (La (GS g1) (GS g2)) ⊆ Dp wk.ws wk.ds g1 g2:=λp hp=>by simp[Dp,hp]
 have s5:sg "one" wk.ws (Mj g1) ⊆ Dp wk.ws wk.ds g1 g2:=λp hp=>by simp[Dp,hp]
 have s6:sg "other" wk.ws (Mj g2) ⊆ Dp wk.ws wk.ds g1 g2:=λp hp=>by simp[Dp,hp]
 have nB:∀{g:Tm} {x:Str},Tm.box x∈g.leaves->x∈g.names "box":=λh=>CL.mpr ⟨_,h,by simp[Tm.nameOf]⟩;have nL:∀{g:Tm} {x:Str},Tm.late x∈g.leaves->x∈g.names "late":=λh=>CL.mpr ⟨_,h,by simp[Tm.nameOf]⟩;have nD:∀{g:Tm} {x:Str},Tm.door x∈g.leaves->x∈g.names "door":=λh=>CL.mpr ⟨_,h,by simp[Tm.nameOf]⟩;refine⟨⟨o1.2,o1.1.2,λx h=>?_,λx h=>?_,λx h=>?_⟩,⟨o2.2,o2.1.2,λx h=>?_,λx h=>?_,λx h=>?_⟩⟩
 .obtain⟨-,n,e,h1,-⟩:=k1.b x (.inl (nB h));by_cases m:x∈He g2
  .exact go s1 (Qu.mpr ⟨GU.mpr (nB h),m⟩) e h1
  .exact go s3 (Qv.mpr (.inr ⟨GU.mpr (nB h),m⟩)) e h1
 .obtain⟨-,n,e,h1,-⟩:=k1.b x (.inr (nL h));exact go s5 (GU.mpr (nL h)) e h1
 .obtain⟨-,n,e,h1,-⟩:=k1.d x (nD h);by_cases m:x∈GS g2
  .exact go s2 (Qu.mpr ⟨GU.mpr (nD h),m⟩) e h1
  .exact go s4 (Qv.mpr (.inr ⟨GU.mpr (nD h),m⟩)) e h1
 .obtain⟨-,n,e,h1,-⟩:=k2.b x (.inl (nB h));by_cases m:x∈He g1
  .exact go s1 (Qu.mpr ⟨m,GU.mpr (nB h)⟩) e h1
  .exact go s3 (Qv.mpr (.inl ⟨GU.mpr (nB h),m⟩)) e h1
 .obtain⟨-,n,e,h1,-⟩:=k2.b x (.inr (nL h));exact go s6 (GU.mpr (nL h)) e h1
 .obtain⟨-,n,e,h1,-⟩:=k2.d x (nD h);by_cases m:x∈GS g1
  .exact go s2 (Qu.mpr ⟨m,GU.mpr (nD h)⟩) e h1
  .exact go s4 (Qv.mpr (.inl ⟨GU.mpr (nD h),m⟩)) e h1
end
noncomputable def Zp (ms:List Int):Option (List Int):=match ms.reverse.dropWhile (λm=>decide (m=1))with
 |[]=>none
 |_::r=>some (r.reverse++[1])
noncomputable def Ra (c:List Int×Int):D:=.tup [.tup (c.1.map D.int),.int c.2]
noncomputable def Vk (N:List Int->Nat)(g g':List Int->Int)(bt:List Int->D):Nat->List Int->List (List Int×Int)->D
 |0,_,_=>.tup [.str "unsure"]
 |f+1,ms,cs=>
  let ks:=HD (N ms) ms
  if g ks=1/\g' ks=1 then bt ks
  else if f=0 then .tup [.str "unsure"]
  else match Zp ks with
   |none=>.tup [.str "never",.lst ((cs++[(ks,if g ks=0 then 0 else 1)]).map Ra)]
   |some ms'=>Vk N g g' bt f ms' (cs++[(ks,if g ks=0 then 0 else 1)])
noncomputable def Zs (row:List (Str×Str×Nat))(t u:Tm)(ms:List Int):Nat:=Zx (λk=>QX row (Ib row) t u (HD k ms)) ms.length row.length
noncomputable def XA (row:List (Str×Str×Nat))(t u:Tm):D:=Vk (Zs row t u) (λms=>gM row ms (Ib row) "one" t) (λms=>gM row ms (Ib row) "other" u) (λms=>Op row ms (Ib row)) 65 [] []
abbrev Zf0:Du:=λds M Q=>Jd ds λx y z=>Gr y λa=>Gr z λb=>∃(wk:Wk) (r1 r2:Str×Tm×List (Str×Tm)),x=wk.D/\wk.Ok/\wk.rs.find? (D9 a)=some r1/\wk.rs.find? (D9 b)=some r2/\∀M',(∀p o,M p=some o->M' p=some o)->Q (XA (Fv (Dp wk.ws wk.ds r1.2.1 r2.2.1)) r1.2.1 r2.2.1) M'
theorem oJ {C:Av}{M:Mp}{A:KA}{E:Str->List (Str×Nat)}{row:List (Str×Str×Nat)}{ms ks:List Int}{c:Av}{v:MO}(kn:FT C M A E row ms ks)(h:∀x∈[A.o,A.q,A.m,A.d,A.b,A.e,A.f,A.g],x≠c):FT C (L3.put M c v) A E row ms ks:=by
 have hs:∀ s,A.at s≠c:=λs=>h _ (by
  have:=gU A s;simp only [BA,AR,or_false] at this ⊢;rcases this with e|e|e|e|e<;>simp [e])
 exact⟨by rw[DK (h _ (by simp))];exact kn.o,by rw[DK (h _ (by simp))];exact kn.q,by rw[DK (h _ (by simp))];exact kn.m,by rw[DK (h _ (by simp))];exact kn.d,λs' h'=>by rw[DK (hs s')];exact kn.s s' h',kn.nd,kn.qm⟩
theorem FT.off {C:Av}{M:Mp}{A:KA}{E:Str->List (Str×Nat)}{row:List (Str×Str×Nat)}{ms ks:List Int}{c:Av}(kn:FT C M A E row ms ks)(hc:M c=none):∀x∈[A.o,A.q,A.m,A.d,A.b,A.e,A.f,A.g],x≠c:=λx hx=>by
 have k1:=kn.s "box" (.inl rfl);have k2:=kn.s "door" (.inr (.inl rfl));have k3:=kn.s "one" (.inr (.inr (.inl rfl)));have k4:=kn.s "other" (.inr (.inr (.inr rfl)));rw[Ug]at k1;rw[Uo]at k2;rw[Uh]at k3;rw[Uu]at k4;simp only[BA,AR,or_false]at hx;rcases hx with rfl|rfl|rfl|rfl|rfl|rfl|rfl|rfl
 .exact Je hc kn.o
 .exact Je hc kn.q
 .exact Je hc kn.m
 .exact Je hc kn.d
 .exact Je hc k1
 .exact Je hc k2
 .exact Je hc k3
 .exact Je hc k4
theorem iE {ms:List Int}(h:QH ms):K4 ms:=λm hm=>(h m hm).elim .inl λe=>.inr (.inl e)
theorem qJ {n:Nat}{ms:List Int}(h:QH ms)(hn:ms.length<=n):QH (HD n ms):=λm hm=>by
 rw[ZN hn]at hm;rcases AY.mp hm with e|e
 .exact h m e
 .exact .inl (EH e)
theorem rH:∀{r:List Int},QH r->∃k,(r=Ay k 1/\r.dropWhile (λm=>decide (m=1))=[])\/∃t,r=Ay k 1++0::t/\r.dropWhile (λm=>decide (m=1))=0::t
 |[],_=>⟨0,.inl ⟨rfl,rfl⟩⟩
 |x::r,h=>by
  rcases h x AG with rfl|rfl
  .exact⟨0,.inr ⟨r,rfl,rfl⟩⟩
  .obtain⟨k,c⟩:=rH λm hm=>h m (AF _ hm);rcases c with⟨e,d⟩|⟨t,e,d⟩
   .exact⟨k+1,.inl ⟨by rw[CY,<- e],by rw[OI];exact d⟩⟩
   .exact⟨k+1,.inr ⟨t,by rw[CY,ED,<- e],by rw[OI];exact d⟩⟩
theorem uf {ms:List Int}(h:QH ms):∃a k,ms=a++Ay k 1/\((a=[]/\Zp ms=none)\/∃b,a=b++[0]/\Zp ms=some (b++[1])):=by
 obtain⟨k,c⟩:=rH λm hm=>h m (QQ.mp hm);unfold Zp;rcases c with⟨e,d⟩|⟨t,e,d⟩
 .exact⟨[],k,by rw[<- N3 ms,e,Mz];rfl,.inl ⟨rfl,by rw[d]⟩⟩
 .exact⟨t.reverse++[0],k,by rw[<- N3 ms,e,List.reverse_append,Mz,Gz],.inr ⟨_,rfl,by rw[d]⟩⟩
theorem af (cs:List (List Int×Int))(ks:List Int)(v:Int):E1 Ra cs++[D.tup [D.tup (E1 D.int ks),D.int v]]=E1 Ra (cs++[(ks,v)]):=by rw[AM];rfl
section
theorem Zft:Od T T.x62 24 Zf0:=by
 refine Cz.p3 T.x62.d.F ["works", "one", "other", "guards", "known", "cubes", "held"] λx y z M Q hr nN h1=>?_;obtain⟨a,rfl,h2⟩:=D8 h1;obtain⟨b,e1',wk,r1,r2,e2',ok,e1,e2,q⟩:_:=D8 h2;have o1:=(aJ ok e1).2.g;have o2:=(aJ ok e2).2.g;have ea:=o7 (E7.of ok o1) (E7.of ok o2);have pc:=qP ok (E7.of ok o1) (E7.of ok o2);have gd:=iu ok o1 o2;have kr:=pc.kr;have hL:∀ms,QH ms->ms.length<=(Fv (Dp wk.ws wk.ds r1.2.1 r2.2.1)).length->QX (Fv (Dp wk.ws wk.ds r1.2.1 r2.2.1)) (Ib (Fv (Dp wk.ws wk.ds r1.2.1 r2.2.1))) r1.2.1 r2.2.1 (HD (Fv (Dp wk.ws wk.ds r1.2.1 r2.2.1)).length ms)=true:=λms hb hl=>sf pc (qJ hb hl) (Ym ..) gd;clear pc;generalize hrow:Fv (Dp wk.ws wk.ds r1.2.1 r2.2.1)=row at q ea gd kr hL;unfold XA at q;have en:∀s,Kt s->Ib row s=Ib row s:=λ_ _=>rfl;obtain⟨E,hE⟩:∃E,Ib row=E:=⟨_,rfl⟩;have hN:∀ms,Zs row r1.2.1 r2.2.1 ms=Zx (λk=>QX row E r1.2.1 r2.2.1 (HD k ms)) ms.length row.length:=λms=>by rw[<- hE];rfl
 generalize Zs row r1.2.1 r2.2.1=N at q hN;rw[hE]at gd kr hL q;have en:∀s,Kt s->E s=Ib row s:=λ_ _=>by rw[hE]
 clear hE;refine⟨_,(qC (CA 3 nN (CC (qA (Bl BJ (Aw T.x43.d (UC T) nofun (qA (qv 0) (qA (qv 1) qN))) Ak) (qA (Bl BJ (Aw T.x43.d (UC T) nofun (qA (qv 0) (qA (qv 2) qN))) Ak) qN)))) (qC (CA 4 nN (Xp T.mk_Known T.x50.d (ZcE T) nofun T.mgc_Known (qA (Aw T.x46.d (Χ T) nofun (qA (qv 0) (qA (qv 1) (qA (qv 2) qN)))) qN))) (qC (CA 5 nN (IZ qN)) (qO (R9 AQ (HA SO) (qC (EZ (Fe T.cl_Known T.x54.d (Zek T) nofun (qv 4) (qA (qv 3) qN))) (qC (CA 6 nN (Fe T.cl_Known T.x58.d (wX T) nofun (qv 4) (qA (qv 3) qN))) (qC (Ep (AV (X2 (Js hr)) (qv 6) (CC (qA Ak (qA Ak qN)))) (qO (Cr (Kb T.cl_Known T.x60.d (Zc5 T) nofun (qv 4)))) qE) (qC (EZ (Kc AN Bg Bf QB (qv 5) (qA (CC (qA (CB Rb T.B.tuple EE (qA (G3 T.cl_Known T.na_Known_marks (qv 4)) qN)) (qA (fE (qv 6) (qA Ak qN)) qN))) qN))) (qC (Ep (AV KZ (B9 Ko T.B.len BZ (qA (qv 5) qN)) (Ii T.m_MOST_CUBES)) (qO (Cr (CC (qA BV qN)))) qE) (qO (Ep (Mh (HA (Kb T.cl_Known T.x57.d (ZfA T) nofun (qv 4)))) (qO (Cr (CC (qA BV (qA (KW (qv 5)) qN))))) qE)))))))))))),?_⟩;clear h1 h2;right;refine⟨wk,r1,rfl,e1,?_⟩;unfold Lw;grind;refine⟨wk,r2,rfl,e2,?_⟩;grind;refine⟨wk,r1,r2,rfl,ok,e1,e2,λp hp o ho=>?_⟩;rw[ea]at ho ⊢;refine⟨put M p (.lst (row.map bD)),o,p,E,row,rfl,rfl,rfl,ho,Dq,kr,en,λM1 A ao aq kn fz fr=>?_⟩;subst ao;generalize r1.2.1=t at gd hL q hN ⊢;generalize r2.2.1=u at gd hL q hN ⊢;grind;intro c hc;have off:=kn.off hc
 have kp:∀x u,M x=some u->x≠c/\x∉[A.m,A.b,A.e,A.f,A.g]/\M1 x=some u:=λx v h=>by
  have h0:put M p (.lst (row.map bD)) x=some v:=by rw[DK (Je hp h)];exact h
  have h1:=fr x v h0;exact⟨Je hc h1,λhx=>(nomatch (fz x hx).symm.trans h0),h1⟩
 have kc:c∉[A.m,A.b,A.e,A.f,A.g]:=λhx=>off c (by simp only[BA,AR,or_false]at hx ⊢;rcases hx with e | e | e | e | e<;>simp[e]) rfl;generalize hG:D.tup [t.D,u.D]=G;refine⟨λk τ M'=>∃ms cs x,((k+cs.length=64)/\QH ms/\ms.length<=row.length/\FT T.C_Known M' A E row ms ms/\M' c=some (.lst (cs.map Ra))/\(∀x u,M x=some u->M' x=some u)/\∀M',(∀p o,M p=some o->M' p=some o)->Q (Vk N (λms=>gM row ms E "one" t) (λms=>gM row ms E "other" u) (λms=>Op row ms E) (k+1) ms cs) M')/\τ=[some wk.D,some (.str a),some (.str b),some G,some (.ref A.o),some (.ref c),x],⟨64,[],[],_,⟨rfl,λm hm=>(nomatch hm),DO _,oJ kn off,Dq,λx v h=>by rw[DK (kp x v h).1];exact(kp x v h).2.2,q⟩,rfl⟩,?_⟩;intro k τ M' hI';refine An λG' kk'=>?_;obtain⟨ms,cs,x,⟨hk,hb,hl,kn',hcs,hs,hq⟩,e1'⟩:=hI';refine kk' ?_;clear kk';subst e1';grind;rw[kn'.o,Ho];subst hG;refine⟨LC (by nofun) (by nofun) (by nofun),A,E,row,ms,t,u,wk.ws,wk.ds,λk=>QX row E t u (HD k ms),rfl,rfl,kr,kn',iE hb,gd,hl,λ_=>rfl,hL ms hb hl,λM2 N0 eN n1 n2 n3 k2 o2=>?_⟩;rw[<- hN]at eN;subst eN;have b2:=qJ (n:=N ms) hb n1;grind;rw[k2.o,Ho];refine⟨LC (by nofun) (by nofun) (by nofun),A,E,row,_,t,u,wk.ws,wk.ds,rfl,rfl,kr,k2,iE b2,gd,?_⟩;grind;have hc2:M2 c=some (.lst (cs.map Ra)):=by rw[o2 c kc];exact hcs
 have hs2:∀x u,M x=some u->M2 x=some u:=λx v h=>by rw[o2 x (kp x v h).2.1];exact hs x v h
 rw[Vk]at hq;generalize hks:HD (N ms) ms=ks at k2 b2 hq ⊢;have lk:ks.length<=row.length:=by rw[<- hks,Ym];exact n2
 have j0:¬(gM row ks E "one" t=1/\gM row ks E "other" u=1)->¬gM row ks E "one" t=0->gM row ks E "other" u=0:=λc1 c2=>by
  have z:QX row E t u (HD (N ms) ms)=true:=n3;rw[hks]at z;rcases of_decide_eq_true z with z|z|z
  .exact absurd z c2
  .exact z
  .exact absurd z c1
 refine Cy (λc1=>?_) λc1=>?_
 .rw[if_pos c1]at hq;refine⟨LC (by nofun) (by nofun) (by nofun),A,E,row,ks,rfl,kr,k2,Dn.of (hq _ λx v h=>?_)⟩;have nx:=(kp x v h).2.1;simp only[BA,AR,or_false,not_or]at nx;rw[IA nx.2.2.2.2,IA nx.2.2.2.1,IA nx.2.2.1,IA nx.2.1];exact hs2 x v h
 .rw[if_neg c1]at hq;refine⟨IT hc2,?_⟩;rw[Qz,B3,QY k2.m,B3];obtain⟨a2,kk,ek,tr⟩:=uf b2;have lc:(cs.map Ra).length<Am:=B5 (by rw[Ab];ext)
  obtain⟨v0,hv,ev⟩:∃v:Int,(v=0/\gM row ks E "one" t=0\/v=1/\gM row ks E "one" t≠0/\gM row ks E "other" u=0)/\(if gM row ks E "one" t=0 then(0:Int)else 1)=v:=by
   by_cases z:gM row ks E "one" t=0
   .exact⟨0,.inl ⟨rfl,z⟩,if_pos z⟩
   .exact⟨1,.inr ⟨rfl,z,j0 c1 z⟩,if_neg z⟩
  rw[ev]at hq;refine⟨_,_,rfl,v0,hv,?_⟩;rw[X4 hc2,af];refine⟨lc,?_⟩;have k3:=oJ (v:=.lst (E1 Ra (cs++[(ks,v0)]))) k2 off;have c3:put M2 c (.lst (E1 Ra (cs++[(ks,v0)]))) c=_:=Dq;have s3:∀x u,M x=some u->put M2 c (.lst (E1 Ra (cs++[(ks,v0)]))) x=some u:=λx v h=>by rw[DK (kp x v h).1];exact hs2 x v h
  generalize put M2 c (.lst (E1 Ra (cs++[(ks,v0)])))=M3 at k3 c3 s3 ⊢;rw[QY c3,B3,Ab,As];refine Cy (λd=>?_) λd=>?_
  .rw[if_pos (by change(64:Int)<((cs.length+1:Nat):Int)at d;ext)]at hq;exact Dn.of (hq M3 s3)
  .have k0:¬k=0:=by change¬(64:Int)<((cs.length+1:Nat):Int)at d;ext
   rw[if_neg k0]at hq;rw[k3.o,Ho];rw[ek]at k3;have lk2:=lk;have mk2:=b2;rw[ek]at lk2 mk2;rw[As]at lk2;refine⟨LC (by nofun) (by nofun) (by nofun),A,E,row,a2,kk,rfl,kr,k3,iE λm hm=>mk2 m (CK _ hm),lk2,?_⟩;rcases tr with⟨ta,tt⟩|⟨b1,ta,tt⟩
   .rw[tt]at hq;refine .inl ⟨ta,λM4 k4 o4=>?_⟩;rw[o4 c kc,c3];refine Dn.of (hq _ λx v h=>?_);rw[IA (kp x v h).1,o4 x (kp x v h).2.1];exact s3 x v h
   .rw[tt]at hq;refine .inr ⟨b1,ta,λM4 k4 o4=>⟨k-1,by ext,b1++[1],cs++[(ks,v0)],_,⟨by rw[As];change k-1+(cs.length+1)=64;ext,λm hm=>?_,?_,k4,by rw[o4 c kc];exact c3,λx v h=>by rw[o4 x (kp x v h).2.1];exact s3 x v h,?_⟩,rfl⟩⟩
    .rcases AY.mp hm with hm|hm
     .exact mk2 m (CK _ (by rw[ta];exact CK _ hm))
     .exact .inr (AO.mp hm)
    .rw[ta,As]at lk2;rw[As];change b1.length+1+_<=_ at lk2;change b1.length+1<=_;ext
    .rw[show k-1+1=k by ext];exact hq
end
abbrev w9:Du:=λds M Q=>Fw ds λx y=>Gr y λz=>∃(wk:Wk) (r:Str×Tm×List (Str×Tm)),x=wk.D/\wk.rs.find? (D9 z)=some r/\r.2.2.length<=6/\∀p,M p=none->Q (.ref p) (put M p (.lst ((QZ (r.2.2.map (·.1))).map D.str)))
theorem uP:Od T T.x63 2 w9:=by
 refine Cz.p2 T.x63.d.F ["works", "name"] λx y M Q hr nN h1=>?_;obtain⟨z,e1',wk,r,e2',hf,hl,q⟩:_:=D8 h1;refine⟨_,(qO (Cr (B9 uq T.B.sorted Ro (qA (FP (caps:=[]) ⟨rfl,by rfl,by rfl,by rfl,rfl,by rfl,by nofun⟩ rfl (Rf (Bl BJ (Aw T.x43.d (UC T) nofun (qA (qv 0) (qA (qv 1) qN))) Ak)) (λ_ _ _ _ _ _=>(Bl BJ (qv 0) Ak))) qN)))),?_⟩;right;refine⟨wk,r,rfl,hf,?_⟩;simp only[Lw];grind;refine Eg.of (g:=Ls) (f:=λw=>.str w.1) (GR (by ext)) trivial (λw hw R q=>?_) ?_
 .simp only[Ls];walk_at "cap";exact q
 rw[show r.2.2.map (λw=>D.str w.1)=(r.2.2.map (·.1)).map D.str by rw[BI];rfl,Qx,B3];exact⟨by rw[Ab];ext,λp hp=>Dn.of (q p hp)⟩
theorem vg {xs ys:List Str}(h:∀x,x∈xs↔x∈ys):Iv xs=Iv ys:=
 G1 (λa b _ _ p q=>aL p q) (Di UB VH _) (Di UB VH _) ((K9 (R5 xs) (R5 ys)).mpr λa=>by rw[GU,GU];exact h a)
theorem gT {xs zs:List Str}(h:∀x∈xs,x∈zs):(fm xs).length<=zs.length:=by
 rw[<- iX];exact Rc _ _ (R5 xs) λx hx=>h x (GU.mp hx)
noncomputable def ET (f:Str)(g:Tm)(ts:List Tm):List Str:=g.names f++(ts.map (Tm.names f)).flatten
structure OW (zs:List Str)(g:Tm)(ts:List Tm):Prop where
 z:zs.length<=20
 l:ts.length<=6
 t:∀t∈g::ts,(t.deep<=12/\t.parts<=100)/\∀f,∀n∈t.names f,n∈zs
theorem OW.few {zs:List Str}{g t:Tm}{ts:List Tm}(h:OW zs g ts)(ht:t∈g::ts):∀f,Ms f->(fm (t.names f)).length<64:=λf _=>by
 have:=gT ((h.t t ht).2 f);have:=h.z;ext
theorem ud {M M':Mp}{p:Av}{o:MO}(s:Sub M M'):Sub (put M p o) (put M' p o):=λb u e=>by
 by_cases h:b=p
 .subst h;rw[Dq]at e ⊢;exact e
 .rw[DK h]at e ⊢;exact s b u e
abbrev Zfb:Du:=λds M Q=>Fw ds λx y=>∃(r:Str×Tm×List (Str×Tm)) (k:Int) (f:Str) (zs:List Str),x=Lw r/\y=.int k/\((k=0/\f = "box")\/(k=1/\f = "late"))/\OW zs r.2.1 (r.2.2.map (·.2))/\∀p,M p=none->Q (.ref p) (put M p (.lst ((Iv (ET f r.2.1 (r.2.2.map (·.2)))).map D.str)))
theorem vY:Od T T.x66 17 Zfb:=by
 refine Cz.p2 T.x66.d.F ["rule", "number", "names", "write"] λx y M Q hr nN h=>?_;obtain⟨r,k,f,zs,e1',e2',hk,ok,q⟩:_:=h;refine⟨_,(Fa (CA 2 nN (Bl BJ (Aw T.x17.d (aN T) nofun (qA (Bl BJ (qv 0) Ak) qN)) (qv 1))) (Fa (MM AQ rfl (Rf (Bl BJ (qv 0) Ak)) (Qy (i:=3) nN rfl (Cd rfl)) (qO (EZ (Kc AN Cq Cp R8 (qv 2) (qA (Bl BJ (Aw T.x17.d (aN T) nofun (qA (Bl BJ (qv 3) Ak) qN)) (qv 1)) qN))))) (qO (Cr (mD rfl T.B.sorted T.B.set (qv 2)))))),?_⟩
 (try simp only[Md,Mb,Mc])
 have two:∀t,t∈r.2.1::r.2.2.map (·.2)->∀(M0:Mp) (R:D->Mp->Prop),(∀M1 p,Sub M0 M1->M0 p=none->M1 p=some (.lst ((Iv (t.names f)).map D.str))->R (.ref p) M1)->(t.deep<=12/\t.parts<=1000/\(∀f,Ms f->(fm (t.names f)).length<64)/\∀p0 p1 p2,M0 p0=none->M0 p1=none->M0 p2=none->¬p1=p0->¬p2=p0->¬p2=p1->Cw (FC [D.ref p0,.ref p1,.ref p2] k) λv=>R v (put (put (put M0 p0 (LZ "box" t)) p1 (LZ "late" t)) p2 (LZ "door" t))):=λt ht M0 R hR=>by
  refine⟨(ok.t t ht).1.1,A7 (ok.t t ht).1.2 (by decide),ok.few ht,λp0 p1 p2 m0 m1 m2 n1 n2 n3=>?_⟩;have sb:Sub M0 (put (put (put M0 p0 (LZ "box" t)) p1 (LZ "late" t)) p2 (LZ "door" t)):=Sub.puts (Sub.puts (Sub.put m0) m1) m2;rcases hk with⟨rfl,rfl⟩|⟨rfl,rfl⟩
  .exact hR _ p0 sb m0 (by rw[DK (Bj n2),DK (Bj n1),Dq];rfl)
  .exact hR _ p1 sb m1 (by rw[DK (Bj n3),Dq];rfl)
 refine⟨λτ M2=>∃p,(Sub M M2/\M p=none/\M2 p=some (.lst ((Iv (r.2.1.names f)).map D.str)))/\τ=[some (Lw r),some (.int k),some (.ref p),none],?_,?_⟩
 .simp only[Lw];grind;exact two r.2.1 AG M (λv M1=>∃p,(Sub M M1/\M p=none/\M1 p=some (.lst ((Iv (r.2.1.names f)).map D.str)))/\[some (D.tup [.str r.1,r.2.1.D,.tup (r.2.2.map Ls)]),some (.int k),some v,none]=[some (D.tup [.str r.1,r.2.1.D,.tup (r.2.2.map Ls)]),some (.int k),some (.ref p),none]) λM1 p h1 h2 h3=>⟨p,⟨h1,h2,h3⟩,rfl⟩
 intro τ M2;ext1⟨p,⟨sb,hp,hM⟩,e1'⟩;have hz:=ok.z;have hl:=ok.l;rw[Ab]at hl
 have srl:∀t∈r.2.1::r.2.2.map (·.2),(Iv (t.names f)).length<=20:=λt ht=>by
  rw[iX];exact A7 (gT ((ok.t t ht).2 f)) hz
 refine⟨λτ M3=>∃(l:List Str) (v:Option D),(Sub M M3/\M3 p=some (.lst (l.map D.str))/\l.length<=140/\∀n,n∈l↔n∈ET f r.2.1 (r.2.2.map (·.2)))/\τ=[some (Lw r),some (.int k),some (.ref p),v],?_,?_⟩
 .simp only[Lw];grind;refine⟨λi τ M3=>∃(l:List Str) (v:Option D),(Sub M M3/\M3 p=some (.lst (l.map D.str))/\l.length<=20+20*i/\∀n,n∈l↔n∈ET f r.2.1 ((r.2.2.take i).map (·.2)))/\τ=[some (Lw r),some (.int k),some (.ref p),v],⟨Iv (r.2.1.names f),none,⟨sb,hM,srl _ AG,λn=>by rw[GU];simp[ET]⟩,rfl⟩,λ_ _ _ _=>trivial,?_,?_⟩
  .intro i d τ M3 hd;ext1⟨l,v,⟨sb,hM,hll,hmem⟩,e1'⟩;obtain⟨w0,hw0,rfl⟩:=Ps hd;obtain⟨hi,_⟩:=Ai.mp hw0;have hin:w0.2∈r.2.1::r.2.2.map (·.2):=AF _ (Fj (AE hw0));have et:r.2.2.take (i+1)=r.2.2.take i++[w0]:=by rw[BE,hw0];rfl
   simp only[Ls];grind;refine⟨IT hM,two w0.2 hin M3 (λv M1=>Gi (.ref p) [v] M1 λ_ M1=>∃(l:List Str) (v:Option D),(Sub M M1/\M1 p=some (.lst (l.map D.str))/\l.length<=20+20*(i+1)/\∀n,n∈l↔n∈ET f r.2.1 ((r.2.2.take (i+1)).map (·.2)))/\[some (Lw r),some (.int k),some (.ref p),some (D.tup [.str w0.1,w0.2.D])]=[some (Lw r),some (.int k),some (.ref p),v]) λM1 p1 h1 h2 h3=>?_⟩;have h4:=srl _ hin;rw[oC (h1 p _ hM) (On h3)];refine⟨GR (by rw[Ab,Ab];ext),l++Iv (w0.2.names f),_,⟨Sub.puts (sb.trans h1) hp,by rw[Dq,AM],by rw[As];ext,λn=>?_⟩,rfl⟩;rw[Dj,hmem,GU,et];simp[ET,or_assoc]
  .intro τ M3;ext1⟨l,v,⟨h1,h2,h3,h4⟩,e1'⟩;rw[Ab]at h3 h4;rw[BD]at h4;exact⟨l,v,⟨h1,h2,by ext,h4⟩,rfl⟩
 intro τ M3;ext1⟨l,v,⟨sb,hM,hll,hmem⟩,e1'⟩;grind;rw[On hM,B3,Qx,B3]
 have few:=A7 (gT λx hx=>by
  have:=(hmem x).mp hx;unfold ET at this;rcases AY.mp this with h|h
  .exact(ok.t _ AG).2 f x h
  .obtain ⟨ns,hns,hx⟩:=QR.mp h;obtain ⟨t,ht,rfl⟩:=Ao.mp hns;exact (ok.t t (AF _ ht)).2 f x hx) hz
 refine⟨by have:1000<Be:=(by decide);ext,by ext,λa ha=>?_⟩
 have haM:M a=none:=by
  cases e:M a with
  |none=>rfl
  |some o=>rw[sb a o e]at ha;cases ha
 rw[vg hmem];exact Qs (ud sb) (q a haM)
abbrev ZeZ:Du:=λds M Q=>Fw ds λx y=>Gr y λz=>∃(wk:Wk) (r:Str×Tm×List (Str×Tm)) (zs:List Str),x=wk.D/\wk.rs.find? (D9 z)=some r/\OW zs r.2.1 (r.2.2.map (·.2))/\∀p,M p=none->Q (.ref p) (put M p (.lst ((Iv (ET "box" r.2.1 (r.2.2.map (·.2)))).map D.str)))
theorem Zfs:Od T T.x64 18 ZeZ:=by
 refine Cz.p2 T.x64.d.F ["works", "name"] λx y M Q hr nN h1=>?_;obtain⟨z,e1',wk,r,zs,e2',hf,ok,q⟩:_:=D8 h1;refine⟨_,(qO (Cr (Aw T.x66.d (vY T) nofun (qA (Aw T.x43.d (UC T) nofun (qA (qv 0) (qA (qv 1) qN))) (qA Ak qN))))),?_⟩;right;exact⟨wk,r,rfl,hf,r,0, "box",zs,rfl,rfl,.inl ⟨rfl,rfl⟩,ok,λp hp=>Dn.of (q p hp)⟩
abbrev Λ:Du:=λds M Q=>Fw ds λx y=>Gr y λz=>∃(wk:Wk) (r:Str×Tm×List (Str×Tm)) (zs:List Str),x=wk.D/\wk.rs.find? (D9 z)=some r/\OW zs r.2.1 (r.2.2.map (·.2))/\∀p,M p=none->Q (.ref p) (put M p (.lst ((Iv (ET "late" r.2.1 (r.2.2.map (·.2)))).map D.str)))
theorem Ε:Od T T.x65 18 Λ:=by
 refine Cz.p2 T.x65.d.F ["works", "name"] λx y M Q hr nN h1=>?_;obtain⟨z,e1',wk,r,zs,e2',hf,ok,q⟩:_:=D8 h1;refine⟨_,(qO (Cr (Aw T.x66.d (vY T) nofun (qA (Aw T.x43.d (UC T) nofun (qA (qv 0) (qA (qv 1) qN))) (qA Ak qN))))),?_⟩;right;exact⟨wk,r,rfl,hf,r,1, "late",zs,rfl,rfl,.inr ⟨rfl,rfl⟩,ok,λp hp=>Dn.of (q p hp)⟩
theorem qT (xs:List Str):(QZ xs).length=xs.length:=(DS _ _).length_eq
theorem fM (h:M p=some (.lst xs)):Bi M (.ref p)=some xs:=by simp[Bi,h]
noncomputable def RV:D->Str
 |.tup (.str s::_)=>s
 |_=>""
theorem sG (N:List Int->Nat)(g g':List Int->Int)(row:List (Str×Str×Nat))(E:Str->List (Str×Nat)):∀(f:Nat) (ms:List Int) (cs:List (List Int×Int)),∃s l,Vk N g g' (λms=>Op row ms E) f ms cs=.tup (.str s::l)
 |0,_,_=>⟨_,_,rfl⟩
 |f+1,ms,cs=>by
  rw[Vk];split
  .exact⟨_,_,rfl⟩
  .split
   .exact⟨_,_,rfl⟩
   .split
    .exact⟨_,_,rfl⟩
    .exact sG N g g' row E f _ _
noncomputable def K0 (f:Str)(r1 r2:Str×Tm×List (Str×Tm)):List Str:=KU (QZ (r1.2.2.map (·.1))) (Iv (ET f r2.2.1 (r2.2.2.map (·.2))))
noncomputable def XT (wk:Wk)(r1 r2:Str×Tm×List (Str×Tm)):Bool:=!(K0 "box" r1 r2).isEmpty && !decide (RV (XA (Fv (Dp wk.ws wk.ds r1.2.1 r2.2.1)) r1.2.1 r2.2.1) = "never")
theorem Wk.Ok.rd {wk:Wk}(ok:wk.Ok){r:Str×Tm×List (Str×Tm)}(h:r∈wk.rs):OW (wk.ws.map (·.1)++wk.ds.map (·.1)) r.2.1 (r.2.2.map (·.2)):=by
 have rk:=(ok.r.2 r h).2
 have go:∀{t:Tm} {n:Int},NO wk.ws wk.ds t n->(t.deep<=12/\t.parts<=100)/\∀f,∀n∈t.names f,n∈wk.ws.map (·.1)++wk.ds.map (·.1):=λ{t n} h=>by
  refine⟨⟨h.1.2,h.1.1⟩,λf x hx=>?_⟩;obtain⟨l,hl,e⟩:=CL.mp hx;obtain⟨a,ha⟩:=h.2.leaf l hl;cases l with
  |box y=>
   have e:(if f = "box" then some y else none)=some x:=e;split at e
   .cases e;cases ha with
    |box c=>exact CK _ (VL c)
    |over _ ho=>exact absurd rfl (Tm.over_len ho).2
   .cases e
  |late y=>
   have e:(if f = "late" then some y else none)=some x:=e;split at e
   .cases e;cases ha with
    |late c=>exact CK _ (VL c)
    |over _ ho=>exact absurd rfl (Tm.over_len ho).2
   .cases e
  |door y=>
   have e:(if f = "door" then some y else none)=some x:=e;split at e
   .cases e;cases ha with
    |door c=>exact AS _ (VL c)
    |over _ ho=>exact absurd rfl (Tm.over_len ho).2
   .cases e
  |_=>cases e
 refine⟨?_,by rw[Ab];exact rk.l,λt ht=>?_⟩
 .unfold Wk.ws;have:=ok.b.1;have:=ok.d.1;rw[As,Ab,Ab,Ab];ext
 .rcases Bc.mp ht with rfl|ht
  .exact go rk.g
  .obtain⟨w,hw,rfl⟩:=Ao.mp ht;obtain⟨n,-,tk⟩:=rk.w w hw;exact go tk
theorem qX {wk:Wk}(ok:wk.Ok)(h:r∈wk.rs)(f:Str)(hf:f = "box"\/f = "late"):(Iv (ET f r.2.1 (r.2.2.map (·.2)))).length<=12:=by
 have lw:(wk.ws.map (·.1)).length<=12:=by unfold Wk.ws;rw[Ab,Ab];exact ok.b.1
 refine A7 (Rc _ (wk.ws.map (·.1)) (R5 _) λx hx=>?_) lw;have rk:=(ok.r.2 r h).2
 have go:∀{t:Tm} {n:Int},NO wk.ws wk.ds t n->x∈t.names f->x∈wk.ws.map (·.1):=λ{t n} h hx=>by
  obtain⟨m,e⟩:=uB h.2 (x:=x) (by rcases hf with rfl|rfl<;>simp[hx]);exact VL e
 have hx:=GU.mp hx;unfold ET at hx;rcases AY.mp hx with hx|hx
 .exact go rk.g hx
 .obtain⟨ns,hns,hx⟩:=QR.mp hx;obtain⟨t,ht,rfl⟩:=Ao.mp hns;obtain⟨w,hw,rfl⟩:=Ao.mp ht;obtain⟨n,-,tk⟩:=rk.w w hw;exact go tk hx
abbrev tj:Du:=λds M Q=>Jd ds λx y z=>Gr y λa=>Gr z λb=>∃(wk:Wk) (r1 r2:Str×Tm×List (Str×Tm)),x=wk.D/\wk.Ok/\wk.rs.find? (D9 a)=some r1/\wk.rs.find? (D9 b)=some r2/\∀v,(XT wk r1 r2=false/\v=.non\/XT wk r1 r2=true/\∃l,v=.tup l)->Q v M
theorem qe:Od T T.x67 26 tj:=by
 refine Cz.p3 T.x67.d.F ["works", "ahead", "behind", "boxes", "answer"] λx y z M Q hr nN h1=>?_;obtain⟨a,rfl,h2⟩:=D8 h1;obtain⟨b,e1',wk,r1,r2,e2',ok,e1,e2,q⟩:_:=D8 h2;clear h1 h2;have m1:=DA e1;have m2:=DA e2;have w6:=(ok.r.2 r1 m1).2.l;refine⟨_,(qC (CA 3 nN (Aw T.x47.d (aF T) nofun (qA (Aw T.x63.d (uP T) nofun (qA (qv 0) (qA (qv 1) qN))) (qA (Aw T.x64.d (Zfs T) nofun (qA (qv 0) (qA (qv 2) qN))) qN)))) (qC (Ep (AV CJ (B9 Ko T.B.len BZ (qA (qv 3) qN)) Ak) (qO (Cr TV)) qE) (qC (CA 4 nN (Aw T.x62.d (Zft T) nofun (qA (qv 0) (qA (qv 1) (qA (qv 2) qN))))) (qC (Ep (AV CJ (Bl BJ (qv 4) Ak) BV) (qO (Cr TV)) qE) (qO (Cr (CC (qA (Bl Hn (qv 3) Ak) (qA (qv 4) qN))))))))),?_⟩;right;refine⟨wk,r1,rfl,e1,w6,λp hp=>?_⟩;refine⟨wk,r2,_,rfl,e2,ok.rd m2,λp' hp'=>?_⟩;have hne:p≠p':=λe=>by rw[e,Dq]at hp';cases hp'
 have hM:M p'=none:=by rw[DK (Bj hne)]at hp';exact hp'
 have sb:=(Sub.put (o:=.lst ((QZ (r1.2.2.map (·.1))).map D.str)) hp).puts (o:=.lst ((Iv (ET "box" r2.2.1 (r2.2.2.map (·.2)))).map D.str)) hM;refine⟨_,_,fM (by rw[DK hne,Dq]),rfl,by rw[qT,Ab];ext,qX ok m2 "box" (.inl rfl),?_⟩;have cl:XT wk r1 r2=(!(K0 "box" r1 r2).isEmpty && !decide (RV (XA (Fv (Dp wk.ws wk.ds r1.2.1 r2.2.1)) r1.2.1 r2.2.1) = "never")):=rfl;change if ((K0 "box" r1 r2).length:Int)=0 then _ else _
 refine Cy (λc=>?_) λc=>?_
 .have:K0 "box" r1 r2=[]:=AD (by ext);rw[this]at cl;exact Qs sb (q .non (.inl ⟨cl,rfl⟩))
 refine⟨wk,r1,r2,rfl,ok,e1,e2,λM' hM'=>?_⟩;have sb2:=sb.trans hM';obtain⟨w0,l0,e0⟩:=sG (Zs (Fv (Dp wk.ws wk.ds r1.2.1 r2.2.1)) r1.2.1 r2.2.1) (λms=>gM (Fv (Dp wk.ws wk.ds r1.2.1 r2.2.1)) ms (Ib (Fv (Dp wk.ws wk.ds r1.2.1 r2.2.1))) "one" r1.2.1) (λms=>gM (Fv (Dp wk.ws wk.ds r1.2.1 r2.2.1)) ms (Ib (Fv (Dp wk.ws wk.ds r1.2.1 r2.2.1))) "other" r2.2.1) (Fv (Dp wk.ws wk.ds r1.2.1 r2.2.1)) (Ib (Fv (Dp wk.ws wk.ds r1.2.1 r2.2.1))) 65 [] [];have e0:XA (Fv (Dp wk.ws wk.ds r1.2.1 r2.2.1)) r1.2.1 r2.2.1=.tup (.str w0::l0):=e0;rw[e0]at cl ⊢;grind;change if w0=Al "never" then _ else Cw (FC ((K0 "box" r1 r2).map D.str) 0) _
 generalize K0 "box" r1 r2=ml at cl c ⊢;cases ml with
 |nil=>exact absurd rfl c
 |cons z ml=>
  refine Cy (λd=>?_) λd=>?_
  .rw[show RV (.tup (.str w0::l0))=w0 from rfl,decide_eq_true d]at cl;exact Qs sb2 (q .non (.inl ⟨cl,rfl⟩))
  .rw[show RV (.tup (.str w0::l0))=w0 from rfl,decide_eq_false d]at cl;rw[show FC ((z::ml).map D.str) 0=some (.str z)from Ot (j:=0) rfl,B3];exact Qs sb2 (q _ (.inr ⟨cl,_,rfl⟩))
inductive Pl:Nat->D->Prop
 |flat {n:Nat} {d:D}:El d=true->Pl n d
 |tup {n:Nat} {xs:List D}:(∀d∈xs,Pl n d)->Pl (n+1) (.tup xs)
theorem r6 (h:El d=true):Kn d d=true:=by
 cases d<;>first | exact absurd h Aj | simp[Kn]
theorem jK :∀{xs:List D},(∀d∈xs,f d d=some true)->Gb f xs xs=some true
 |[],_=>rfl
 |x::r,h=>by
  unfold Gb;rw[h x AG,jK λd hd=>h d (AF _ hd)];rfl
theorem Pl.cmp (h:Pl n d):EN M n d d=some true:=by
 induction h with
 | @flat n d h=>cases n<;>(unfold EN;rw[h,IS,if_pos rfl,r6 h])
 |tup _ ih=>unfold EN;show(if false=true then _ else _)=_;rw[if_neg Aj];exact jK ih
noncomputable def Ua (wk:Wk)(a b:Str):Bool:=(wk.rs.find? (D9 a)).any λr1=>(wk.rs.find? (D9 b)).any λr2=>XT wk r1 r2
noncomputable abbrev Wk.nms (wk:Wk):List Str:=wk.rs.map (·.1)
theorem aM {wk:Wk}{z:Str}(h:z∈wk.nms):∃r,wk.rs.find? (D9 z)=some r:=by
 obtain⟨r,hr,rfl⟩:=Ao.mp h;cases e:wk.rs.find? (D9 r.1)with
 |some u=>exact⟨u,rfl⟩
 |none=>exact absurd (Gf.mp e r hr) (by simp[D9])
theorem s9 (h:xs.Perm ys):QZ xs=QZ ys:=G1 (λa b _ _ p q=>aL p q) (Di UB VH _) (Di UB VH _) (((DS _ _).trans h).trans (DS _ _).symm)
theorem iZ (zs:List Str):Gb (EN M 40) (zs.map D.str) (zs.map D.str)=some true:=jK λd hd=>by
 obtain⟨z,-,rfl⟩:=Ao.mp hd;exact Pl.cmp (.flat rfl)
noncomputable def NA (p:Str×Str):L3.D:=.tup [.str p.1,.str p.2]
theorem nX (xs:List α)(k:Nat):L3.cutD (xs.map f) none (some (k:Int))=(xs.take k).map f:=by
 unfold L3.cutD;rw[HT.sIx_nat,HT.sIx_none,Ll,MT,Ab,<- KG,List.take_eq_take_min];by_cases h:k<=xs.length
 .rw[F4 h,F4 h]
 .rw[GA (show xs.length<=k by ext),KD,BD,BW (by ext)]
theorem rP (xs:List α)(k:Nat):L3.cutD (xs.map f) (some (k:Int)) none=(xs.drop k).map f:=by
 unfold L3.cutD;rw[HT.sIx_nat,HT.sIx_none,Ab,<- List.map_drop,<- KG];congr 1
 by_cases h:k<=xs.length
 .rw[F4 h,BW (by rw[Ht];ext)]
 .rw[GA (by ext),JS,List.drop_of_length_le (by ext),List.take_nil]
theorem hV (h:τ[j]? = some (some (.ref p)))(hM:M p=some (.lst xs)):PU j t E τ M=t E (τ.set j (some (.lst xs))) (JU M p):=by
 unfold PU;rw[h,O2,B3,Qr,hM]
theorem XV (zs:List Str):(zs.map D.str).all El=true:=by
 induction zs with
 |nil=>rfl
 |cons z r ih=>rw[AT,F6,ih];rfl
theorem XU (x)(zs:List Str):((zs.map D.str).any λz=>Kn z (.str x))=decide (x∈zs):=by
 induction zs with
 |nil=>rfl
 |cons z r ih=>
  rw[AT,Fp,ih,im];by_cases h:z=x
  .simp[h]
  .have h':¬x=z:=λe=>h e.symm;simp[h,h']
abbrev Ze8:Du:=λds M Q=>Fw ds λx y=>∃(wk:Wk) (zs:List Str),x=wk.D/\y=.lst (zs.map D.str)/\wk.Ok/\zs.Perm wk.nms/\Q .non M
theorem Zeh:Od T T.x69 2 Ze8:=by
 refine Cz.p2 T.x69.d.F ["works", "order"] λx y M Q hr nN h=>?_;obtain⟨wk,zs,e1',e2',ok,pm,q⟩:_:=h;refine⟨_,(qO (Ep (AV (Vq (Js hr)) (B9 tI T.B.sorted Ro (qA (qv 1) qN)) (B9 tI T.B.sorted Ro (qA (Aw T.x44.d (bH T) nofun (qA (qv 0) qN)) qN))) (qO Oq) qE)),?_⟩;right;have l8:=ok.r.1;have ll:zs.length<=8:=by rw[pm.length_eq,Ab];exact l8
 rw[Qx,B3];refine⟨by ext,wk,rfl,ok,?_⟩;rw[show wk.rs.map (λr=>D.str r.1)=wk.nms.map D.str by rw[BI];rfl,Qx,B3];refine⟨by rw[Ab];ext,?_⟩;rw[s9 pm,iZ,B3,if_neg QV];exact Dn.of q
abbrev zl:Du:=λds M Q=>Jd ds λx y z=>Gr y λa=>∃(wk:Wk) (zs:List Str),x=wk.D/\z=.lst (zs.map D.str)/\wk.Ok/\a∈wk.nms/\(∀b∈zs,b∈wk.nms)/\zs.length<=8/\Q (.lst ((zs.filter (Ua wk a)).map D.str)) M
theorem ze:Od T T.x70 27 zl:=by
 refine Cz.p3 T.x70.d.F ["works", "ahead", "names"] λx y z M Q hr nN h1=>?_;obtain⟨a,e1',wk,zs,e2',e3',ok,ha,hz,hl,q⟩:_:=D8 h1;clear h1;refine⟨_,(qO (Cr (HK (caps:=[("works",0),("ahead",1)]) ⟨rfl,by rfl,by rfl,by rfl,rfl,by rfl,by nofun⟩ rfl (Kr (qv 2)) (λ_ _ _ _ _ _=>(qv 0)) (λ_ _ _ _ _ _=>(AV gi (Aw T.x67.d (qe T) nofun (qA (qv 1) (qA (qv 2) (qA (qv 0) qN)))) TV))))),?_⟩;right;refine Eg.filt (GR (by ext)) trivial (λb hb R r=>?_) (λb hb R r=>?_) (Dn.of q)
 .obtain⟨r1,e1⟩:=aM ha;obtain⟨r2,e2⟩:=aM (hz b hb);walk_at "cap";refine⟨wk,r1,r2,rfl,ok,e1,e2,λv hv=>?_⟩;have ec:Ua wk a b=XT wk r1 r2:=by unfold Ua;rw[e1,e2];rfl
  rw[ec]at r;rcases hv with⟨c,rfl⟩|⟨c,l,rfl⟩<;>rw[c]at r<;>exact r
 .walk_at "cap";exact r
noncomputable def C5 (wk:Wk):List Str->List (Str×Str)
 |[]=>[]
 |a::l=>(l.filter (Ua wk a)).map (λb=>(a,b))++C5 wk l
theorem tU (wk:Wk):∀zs,(C5 wk zs).length<=zs.length*zs.length
 |[]=>AH _
 |a::l=>by
  have:=tU wk l;have h:=CP (Ua wk a) l;show((l.filter (Ua wk a)).map (λb=>(a,b))++C5 wk l).length<=(l.length+1)*(l.length+1);rw[As,Ab,Nat.add_mul,UX];ext
theorem jI (h:zs.length<=8):(C5 wk zs).length<=64:=A7 (tU wk zs) (A7 (Nat.mul_le_mul h h) (by decide))
abbrev Zf3:Du:=λds M Q=>Fw ds λx y=>∃(wk:Wk) (zs:List Str),x=wk.D/\y=.lst (zs.map D.str)/\wk.Ok/\zs.Perm wk.nms/\Q (.lst ((C5 wk zs).map NA)) M
theorem kH:Od T T.x68 28 Zf3:=by
 refine Cz.p2 T.x68.d.F ["works", "order", "pairs", "place", "ahead"] λx y M Q hr nN h=>?_;obtain⟨wk,zs,e1',e2',ok,pm,q⟩:_:=h;have l8:=ok.r.1;have ll:zs.length<=8:=by rw[pm.length_eq,Ab];exact l8
 have pf:=jI (wk:=wk) ll;refine⟨_,(qC (EZ (Aw T.x69.d (Zeh T) nofun (qA (qv 0) (qA (qv 1) qN)))) (qC (CA 2 nN (IZ qN)) (Fa (MM AQ rfl (yG T.B.enumerate (qA (qv 1) qN)) (Vz (is:=[3,4]) rfl (Mq (LD (i:=3) nN rfl (Cd rfl)) (Mq (LD (i:=4) nN rfl (FX rfl)) Ur))) (qO (EZ (Kc AN Cq Cp R8 (qv 2) (qA (FP (caps:=[("ahead",4)]) ⟨rfl,by rfl,by rfl,by rfl,rfl,by rfl,by nofun⟩ rfl (Kr (Aw T.x70.d (ze T) nofun (qA (qv 0) (qA (qv 4) (qA (Jp Yi (qv 1) (Us (BB Hl (qv 3) Ak)) Yd) qN))))) (λ_ _ _ _ _ _=>(CC (qA (qv 1) (qA (qv 0) qN))))) qN))))) (Ut 2 (qO (Cr (qv 2))))))),?_⟩;right;refine⟨wk,zs,rfl,rfl,ok,pm,?_⟩
 (try grind)
 intro p hp;refine⟨λτ M'=>M'=put M p (.lst ((C5 wk zs).map NA))/\∃a b,τ=[some wk.D,some (.lst (zs.map D.str)),some (.ref p),a,b],?_,?_⟩
 .grind;refine⟨λk τ M'=>∃ps,(ps++C5 wk (zs.drop k)=C5 wk zs/\M'=put M p (.lst (ps.map NA)))/\∃a b,τ=[some wk.D,some (.lst (zs.map D.str)),some (.ref p),a,b],⟨[],⟨rfl,rfl⟩,none,none,rfl⟩,λ_ _ _ _=>trivial,?_,?_⟩
  .intro k y τ M' hy;ext1⟨ps,⟨hps,e1'⟩,a,b,e2'⟩;obtain⟨d,hd,rfl⟩:=iG hy;obtain⟨z,hz,rfl⟩:=Ps hd;have hk:=(Ai.mp hz).1;have e1:zs.drop k=z::zs.drop (k+1):=by rw[Gw hk,(Ai.mp hz).2]
   have mz:=AE hz;grind;rw[show(k:Int)+1=((k+1:Nat):Int) by ext,rP];refine⟨wk,zs.drop (k+1),rfl,rfl,ok,pm.mem_iff.mp mz,λb hb=>pm.mem_iff.mp (List.mem_of_mem_drop hb),by rw[Ht];ext,?_⟩;rw[e1]at hps;have hps:ps++(((zs.drop (k+1)).filter (Ua wk z)).map (λb=>(z,b))++C5 wk (zs.drop (k+1)))=C5 wk zs:=hps;rw[<- Bq]at hps;have fl:=congrArg Ej hps;rw[As,As,Ab]at fl;refine Eg.of (f:=λb=>NA (z,b)) (GR (by ext)) trivial (λb hb R r=>?_) ?_
   .walk_at "cap";exact r
   .rw[gE];refine⟨GR (by rw[Ab,Ab];ext),_,⟨hps,?_⟩,_,_,rfl⟩;rw[AM,BI];rfl
  .intro τ M';ext1⟨ps,⟨hps,e1'⟩,a,b,e2'⟩;rw[iH,Ab,JS,show C5 wk []=[]from rfl,CT]at hps;rw[hps];exact⟨rfl,a,b,rfl⟩
 intro τ M';ext1⟨e1',a,b,e2'⟩;rw[hV (p:=p) rfl Dq,Yk hp];simp only[BR,Ci];grind;exact Dn.of q
noncomputable def fI (ps:List (Str×Str))(a b:Str):Bool:=decide ((a,b)∈ps\/(b,a)∈ps)
noncomputable def fH (q:Str×Str):D->Bool
 |.tup [.str x,.str y]=>decide (x=q.1/\y=q.2)
 |_=>false
theorem ei (p q:Str×Str):EN M 40 (NA p) (NA q)=some (fH q (NA p)):=by
 show Gb (EN M 39) [.str p.1,.str p.2] [.str q.1,.str q.2]=some (decide (p.1=q.1/\p.2=q.2));show some (decide (p.1=q.1) && (decide (p.2=q.2) && true))=_;rw[TB,RB]
theorem eh (ps:List (Str×Str))(q:Str×Str):(ps.map NA).any (fH q)=decide (q∈ps):=by
 induction ps with
 |nil=>rfl
 |cons p ps ih=>rw[AT,Fp,ih];show(decide (p.1=q.1/\p.2=q.2) || decide (q∈ps))=_;rw[<- Bool.decide_or];refine decide_eq_decide.mpr ?_;rw[BA,Prod.ext_iff];exact⟨λh=>h.imp (λc=>⟨c.1.symm,c.2.symm⟩) id,λh=>h.imp (λc=>⟨c.1.symm,c.2.symm⟩) id⟩
theorem rZ {M:Mp}{ps:List (Str×Str)}{a b:Str}{Q:Ef}(q:Q (.bl (decide ((a,b)∈ps))) M):W7 (.tup [.str a,.str b]) (.lst (ps.map NA)) M Q:=by
 refine⟨fH (a,b),λz hz=>?_,?_⟩
 .obtain⟨p,-,rfl⟩:=Ao.mp hz;exact ei p (a,b)
 .rw[eh];exact q
abbrev Zfe:Du:=λds M Q=>Jd ds λx y z=>Gr y λa=>Gr z λb=>∃ps:List (Str×Str),x=.lst (ps.map NA)/\ps.length<=100/\Q (.bl (fI ps a b)) M
theorem Φ:Od T T.x71 1 Zfe:=by
 refine Cz.p3 T.x71.d.F ["pairs", "one", "other"] λx y z M Q hr nN h1=>?_;obtain⟨a,rfl,h2⟩:=D8 h1;obtain⟨b,e1',ps,e2',hl,q⟩:_:=D8 h2;clear h1 h2;refine⟨_,(qO (Cr (mC (JN (nI (Js hr)) (CC (qA (qv 1) (qA (qv 2) qN))) (qv 0) (by with_unfolding_all rfl)) (OO (JN (nI (Js hr)) (CC (qA (qv 2) (qA (qv 1) qN))) (qv 0) (by with_unfolding_all rfl)))))),?_⟩;right;refine rZ ?_;unfold fI at q;by_cases c:(a,b)∈ps
 .rw[decide_eq_true (.inl c)]at q;rw[decide_eq_true c];exact Dn.of q
 .rw[decide_eq_false c];refine rZ ?_;rw[decide_eq_decide.mpr (show((a,b)∈ps\/(b,a)∈ps)↔(b,a)∈ps from⟨λh=>h.resolve_left c,.inr⟩)]at q;exact Dn.of q
noncomputable def Ud (zs:List Str)(z:Str):List Str:=zs.take (zs.idxOf z)
theorem pX :∀{zs:List Str},z∈zs->NK z zs=some (zs.idxOf z)
 |[],h=>nomatch h
 |a::l,h=>by
  unfold NK;by_cases e:a=z
  .rw[if_pos e,e,List.idxOf_cons_self]
  .rw[if_neg e,pX ((Bc.mp h).resolve_left λc=>e c.symm),List.idxOf_cons,show(a == z)=false by simpa using e];rfl
abbrev zk:Du:=λds M Q=>Fw ds λx y=>Gr y λz=>∃zs:List Str,x=.lst (zs.map D.str)/\z∈zs/\zs.length<=100/\Q (.lst ((Ud zs z).map D.str)) M
theorem vG:Od T T.x73 1 zk:=by
 refine Cz.p2 T.x73.d.F ["names", "name"] λx y M Q hr nN h1=>?_;obtain⟨z,e1',zs,e2',hz,hl,q⟩:_:=D8 h1;clear h1;refine⟨_,(qO (Cr (Jp Yi (qv 0) Yd (Us (Kc AN K6 K5 (qW (XN hr)) (qv 0) (qA (qv 1) qN)))))),?_⟩;right;rw[Qx,B3,pX hz,B3,nX];exact Dn.of q
noncomputable def dA (wk:Wk)(ps:List (Str×Str))(z:Str):List Str:=(Ud wk.nms z).filter λo=>fI ps o z
abbrev Μ:Du:=λds M Q=>Jd ds λx y z=>Gr z λn=>∃(wk:Wk) (ps:List (Str×Str)),x=wk.D/\y=.lst (ps.map NA)/\wk.Ok/\n∈wk.nms/\ps.length<=100/\Q (.lst ((dA wk ps n).map D.str)) M
theorem ZA (wk:Wk):wk.rs.map (λr=>D.str r.1)=wk.nms.map D.str:=by rw[BI];rfl
theorem Ζ:Od T T.x72 3 Μ:=by
 refine Cz.p3 T.x72.d.F ["works", "clashes", "name"] λx y z M Q hr nN h1=>?_;obtain⟨n,e1',wk,ps,e2',e3',ok,hn,hl,q⟩:_:=D8 h1;clear h1;have l8:=ok.r.1;refine⟨_,(qO (Cr (HK (caps:=[("clashes",1),("name",2)]) ⟨rfl,by rfl,by rfl,by rfl,rfl,by rfl,by nofun⟩ rfl (Kr (Aw T.x73.d (vG T) nofun (qA (Aw T.x44.d (bH T) nofun (qA (qv 0) qN)) (qA (qv 2) qN)))) (λ_ _ _ _ _ _=>(qv 0)) (λ_ _ _ _ _ _=>(HA (Aw T.x71.d (Φ T) nofun (qA (qv 1) (qA (qv 0) (qA (qv 2) qN))))))))),?_⟩;right;refine⟨wk,rfl,ok,wk.nms,by rw[ZA],hn,by rw[Ab];ext,?_⟩
 (try grind)
 refine Eg.filt (GR (by unfold Ud;rw[A6,Ab];ext)) trivial (λb hb R r=>?_) (λb hb R r=>?_) (Dn.of q)
 .walk_at "cap";exact⟨ps,rfl,hl,r⟩
 .walk_at "cap";exact r
noncomputable def RQ (wk:Wk)(f:Str)(a b:Str):List Str:=((wk.rs.find? (D9 a)).bind λr1=>(wk.rs.find? (D9 b)).map λr2=>K0 f r1 r2).getD []
theorem nc (h1:wk.rs.find? (D9 a)=some r1)(h2:wk.rs.find? (D9 b)=some r2):RQ wk f a b=K0 f r1 r2:=by unfold RQ;rw[h1,h2];rfl
noncomputable def NG (wk:Wk)(zs:List Str)(ps:List (Str×Str))(n o:Str):Bool:=(decide (o∈Ud zs n) && !(RQ wk "late" o n).isEmpty) || decide (o∈dA wk ps n)
noncomputable def Vj (wk:Wk)(zs:List Str)(ps:List (Str×Str))(n:Str):List Str:=wk.nms.filter (NG wk zs ps n)
abbrev Θ:Du:=λds M Q=>T0 ds λx y z u=>Gr u λn=>∃(wk:Wk) (zs:List Str) (ps:List (Str×Str)),x=wk.D/\y=.lst (zs.map D.str)/\z=.lst (ps.map NA)/\wk.Ok/\zs.Perm wk.nms/\n∈wk.nms/\ps.length<=100/\Q (.lst ((Vj wk zs ps n).map D.str)) M
local macro_rules | `(tactic| simp_all_arith! [$xs,*])=>`(tactic| simp_all_arith [VD,Ux,Yp,Yq,ZV,VA,↓ZF,↓ZG,↓ZH,bn,↓gN,↓gO,↓gP,pC,XV,XU,$xs,*])
theorem Α:Od T T.x76 20 Θ:=by
 refine Cz.p4 T.x76.d.F ["works", "order", "clashes", "name", "ahead", "late", "rivals", "needed", "other", "feeds"] λx y z u M Q hr nN h1=>?_;obtain⟨n,e1',wk,zs,ps,e2',e3',e4',ok,pm,hn,hl,q⟩:_:=D8 h1;clear h1;have l8:=ok.r.1;have ll:zs.length<=8:=by rw[pm.length_eq,Ab];exact l8
 obtain⟨rn,en⟩:=aM hn;have mn:=DA en;refine⟨_,(qC (CA 4 nN (Aw T.x73.d (vG T) nofun (qA (qv 1) (qA (qv 3) qN)))) (qC (CA 5 nN (KW (Aw T.x65.d (Ε T) nofun (qA (qv 0) (qA (qv 3) qN))))) (qC (CA 6 nN (Aw T.x72.d (Ζ T) nofun (qA (qv 0) (qA (qv 2) (qA (qv 3) qN))))) (qC (CA 7 nN (IZ qN)) (Fa (MM AQ rfl (Kr (Aw T.x44.d (bH T) nofun (qA (qv 0) qN))) (Qy (i:=8) nN rfl (Cd rfl)) (Fa (CA 9 nN (Qa (JN OQ (qv 8) (qv 4) (by with_unfolding_all rfl)) (OO (JN KZ (B9 Ko T.B.len BZ (qA (Aw T.x47.d (aF T) nofun (qA (Aw T.x63.d (uP T) nofun (qA (qv 0) (qA (qv 8) qN))) (qA (qv 5) qN))) qN)) Ak)))) (qO (Ep ((Vs (HA (qv 9)) (X9 (AV OQ (qv 8) (qv 6) (by with_unfolding_all rfl))))).pt (qO (EZ (Kc AN Bg Bf QB (qv 7) (qA (qv 8) qN)))) qE)))) (Ut 7 (qO (Cr (qv 7))))))))),?_⟩;right;refine⟨zs,rfl,pm.mem_iff.mpr hn,by ext,?_⟩
 (try grind)
 refine⟨wk,rn,_,rfl,en,ok.rd mn,λp hp=>?_⟩;rw[Dq];dsimp only;rw[Yk hp];refine⟨wk,ps,rfl,rfl,ok,hn,hl,λp hp=>?_⟩;generalize eL:D.lst ((Iv (ET "late" rn.2.1 (rn.2.2.map (·.2)))).map D.str)=L;generalize eA:D.lst ((Ud zs n).map D.str)=A1;generalize eR:D.lst ((dA wk ps n).map D.str)=R1;generalize D.lst (zs.map D.str)=Z1;generalize D.lst (ps.map NA)=P1;refine⟨λτ M'=>(Sub M M'/\M' p=some (.lst ((Vj wk zs ps n).map D.str)))/\∃a b,τ=[some wk.D,some Z1,some P1,some (.str n),some A1,some L,some R1,some (.ref p),a,b],?_,?_⟩
 .grind;refine⟨wk,rfl,ok,?_⟩;rw[ZA];refine⟨λk τ M'=>(Sub M M'/\M' p=some (.lst (((wk.nms.take k).filter (NG wk zs ps n)).map D.str)))/\∃a b,τ=[some wk.D,some Z1,some P1,some (.str n),some A1,some L,some R1,some (.ref p),a,b],⟨⟨Sub.put hp,Dq⟩,none,none,rfl⟩,λ_ _ _ _=>trivial,?_,?_⟩
  .intro k y τ M' hy;ext1⟨⟨sb,hM⟩,a,b,e1'⟩;obtain⟨o,ho,rfl⟩:=Ps hy;have mo:=AE ho;have hk:=(Ai.mp ho).1;rw[Ab]at hk;obtain⟨ro,eo⟩:=aM mo;have w6:=(ok.r.2 ro (DA eo)).2.l;have em:=nc (f:="late") eo en;grind;refine⟨λτ M2=>(Sub M M2/\M2 p=some (.lst (((wk.nms.take k).filter (NG wk zs ps n)).map D.str)))/\τ=[some wk.D,some Z1,some P1,some (.str n),some A1,some L,some R1,some (.ref p),some (.str o),some (.bl (decide (o∈Ud zs n) && !(RQ wk "late" o n).isEmpty))],?_,?_⟩
   .subst eA;subst eL;grind;refine Cy (λc=>?_) λc=>?_
    .refine⟨wk,ro,rfl,eo,w6,λp1 hp1=>?_⟩;have ne:p≠p1:=λe=>by rw[e,hp1]at hM;cases hM
     have hM1:M p1=none:=by
      cases e:M p1 with
      |none=>rfl
      |some u=>rw[sb p1 u e]at hp1;cases hp1
     refine⟨_,_,rfl,rfl,by rw[qT,Ab];ext,qX ok mn "late" (.inr rfl),⟨sb.puts hM1,by rw[DK ne];exact hM⟩,?_⟩;rw[em,decide_eq_true c,IQ];change[_,_,_,_,_,_,_,_,_,some (D.bl (decide (0<((K0 "late" ro rn).length:Int))))]=_;cases K0 "late" ro rn with
     |nil=>rfl
     |cons z l=>rw[decide_eq_true (show(0:Int)<((z::l).length:Nat) by rw[AK];ext)];rfl
    .rw[decide_eq_false c];exact⟨⟨sb,hM⟩,rfl⟩
   rintro τ M2 ⟨⟨sb2,hM2⟩,rfl⟩;subst eR;grind;have et:wk.nms.take (k+1)=wk.nms.take k++[o]:=by rw[BE,ho];rfl
   have fl:(((wk.nms.take k).filter (NG wk zs ps n)).map D.str).length<Am:=B5 (by rw[Ab];have:=CP (NG wk zs ps n) (wk.nms.take k);rw[A6]at this;ext)
   have yes:∀{R:Prop},NG wk zs ps n o=true->R->HJ (.ref p) [.str o] M2 λx M1=>(Sub M M1/\M1 p=some (.lst (((wk.nms.take (k+1)).filter (NG wk zs ps n)).map D.str)))/\R:=λhb r=>by
    rw[X4 hM2];refine⟨fl,⟨sb2.puts hp,?_⟩,r⟩;rw[Dq,et,EY,Jk,if_pos hb,AM];rfl
   refine Cy (λc=>⟨IT hM2,yes ?_ ⟨_,_,rfl⟩⟩) λc=>Cy (λd=>⟨IT hM2,yes ?_ ⟨_,_,rfl⟩⟩) λd=>⟨⟨sb2,?_⟩,_,_,rfl⟩
   .unfold NG;rw[decide_eq_true c.1,c.2];rfl
   .unfold NG;rw[decide_eq_true d,Vf]
   .have hb:¬NG wk zs ps n o=true:=λh=>by
     unfold NG at h;rw[decide_eq_false d,LW,Bo,decide_eq_true_eq,Bool.not_eq_true']at h;exact c h
    rw[et,EY,Jk,if_neg hb,MX,CT];exact hM2
  .intro τ M';ext1⟨h,a,b,e1'⟩;rw[Ab,BD]at h;exact⟨h,a,b,rfl⟩
 intro τ M';ext1⟨⟨sb,hM⟩,a,b,e1'⟩;rw[hV (p:=p) rfl hM];simp only[BR,Ci];grind;refine Qs (λx o e=>?_) q;have ne:x≠p:=λc=>by rw[c,hp]at e;cases e
 rw[IA ne];exact sb x o e
noncomputable def L0 (kvs:List (Str×List Str)):List (Co×D):=kvs.map λkv=>(.inr kv.1,.lst (kv.2.map D.str))
noncomputable def MJ (wk:Wk)(zs:List Str)(ps:List (Str×Str)):List (Str×List Str):=wk.nms.map λn=>(n,Vj wk zs ps n)
theorem nE (h:(kvs.map (·.1)).Nodup):((L0 kvs).map (·.1)).Nodup:=by
 unfold L0;rw[BI];unfold Fh at h ⊢;rw[CW]at h ⊢;exact h.imp λh e=>h (Fc e)
theorem hJ {wk:Wk}(ok:wk.Ok):(wk.nms.map λn=>n).Nodup:=by
 rw[Vc];exact(B7.mp ok.nd).2.1
abbrev Zf1:Du:=λds M Q=>Jd ds λx y z=>∃(wk:Wk) (zs:List Str) (ps:List (Str×Str)),x=wk.D/\y=.lst (zs.map D.str)/\z=.lst (ps.map NA)/\wk.Ok/\zs.Perm wk.nms/\ps.length<=100/\Q (.dic (L0 (MJ wk zs ps))) M
theorem wB:Od T T.x75 21 Zf1:=by
 refine Cz.p3 T.x75.d.F ["works", "order", "clashes"] λx y z M Q hr nN h=>?_;obtain⟨wk,zs,ps,e1',e2',e3',ok,pm,hl,q⟩:_:=h;have l8:=ok.r.1;refine⟨_,(qO (Cr (CB (aI rfl) T.B.dict O5 (qA (FP (caps:=[("works",0),("order",1),("clashes",2)]) ⟨rfl,by rfl,by rfl,by rfl,rfl,by rfl,by nofun⟩ rfl (Kr (Aw T.x44.d (bH T) nofun (qA (qv 0) qN))) (λ_ _ _ _ _ _=>(CC (qA (qv 0) (qA (Aw T.x76.d (Α T) nofun (qA (qv 1) (qA (qv 2) (qA (qv 3) (qA (qv 0) qN))))) qN))))) qN)))),?_⟩;right;refine⟨wk,rfl,ok,?_⟩;rw[ZA];refine Eg.of (f:=λn=>.tup [.str n,.lst ((Vj wk zs ps n).map D.str)]) (GR (by rw[Ab];ext)) trivial (λn hn R r=>?_) ?_
 .walk_at "cap";exact⟨wk,zs,ps,rfl,rfl,rfl,ok,pm,hn,hl,r⟩
 refine⟨L0 (MJ wk zs ps),?_,GR (by unfold L0 MJ;rw[Ab,Ab,Ab];ext),?_⟩
 .simp only[G5,L0,MJ,BI];rfl
 .rw[aS _ (nE (by unfold MJ;rw[BI];exact(hJ ok)))];exact Dn.of q
abbrev tu:Du:=λds M Q=>Fw ds λx y=>∃(wk:Wk) (zs:List Str),x=wk.D/\y=.lst (zs.map D.str)/\wk.Ok/\zs.Perm wk.nms/\Q (.dic (L0 (MJ wk zs (C5 wk zs)))) M
theorem qf:Od T T.x74 30 tu:=by
 refine Cz.p2 T.x74.d.F ["works", "order"] λx y M Q hr nN h=>?_;obtain⟨wk,zs,e1',e2',ok,pm,q⟩:_:=h;have l8:=ok.r.1;refine⟨_,(qO (Cr (Aw T.x75.d (wB T) nofun (qA (qv 0) (qA (qv 1) (qA (Aw T.x68.d (kH T) nofun (qA (qv 0) (qA (qv 1) qN))) qN)))))),?_⟩;right;exact⟨wk,zs,rfl,rfl,ok,pm,wk,zs,_,rfl,rfl,rfl,ok,pm,A7 (jI (by rw[pm.length_eq,Ab];exact l8)) (by decide),Dn.of q⟩
theorem ab {M:Mp}{y:D}{xs:List D}(h:Bi M y=some xs):Hj M y=some xs:=by
 cases y<;>first | exact h | cases h
abbrev ε:Du:=λds M Q=>Fw ds λx y=>∃(xs ys:List Str),x=.lst (xs.map D.str)/\Bi M y=some (ys.map D.str)/\xs.length<=100/\Q (.bl (xs.all λz=>decide (z∈ys))) M
theorem χ:Od T T.x78 1 ε:=by
 refine Cz.p2 T.x78.d.F ["names", "come"] λx y M Q hr nN h=>?_;obtain⟨xs,ys,e1',hy,hl,q⟩:_:=h;refine⟨_,(qO (Cr (B9 (mQ rfl) T.B.all boot_all (qA (FP (caps:=[("come",1)]) ⟨rfl,by rfl,by rfl,by rfl,rfl,by rfl,by nofun⟩ rfl (Kr (qv 0)) (λ_ _ _ _ _ _=>(JN OQ (qv 0) (qv 1) (by with_unfolding_all rfl)))) qN)))),?_⟩;right;refine Eg.of (f:=λz=>.bl (decide (z∈ys))) (GR (by ext)) trivial (λn hn R r=>?_) ?_
 .walk_at "cap";rw[ab hy,B3,XU];exact⟨XV _,r⟩
 rw[show xs.map (λz=>D.bl (decide (z∈ys)))=(xs.map λz=>decide (z∈ys)).map D.bl by rw[BI];rfl,jS,B3,PJ];exact Dn.of q
noncomputable def T7 (c:List Str)(kv:Str×List Str):Bool:=decide (kv.1∉c) && kv.2.all λz=>decide (z∈c)
noncomputable def Qk (kvs:List (Str×List Str))(c:List Str):List Str:=(kvs.filter (T7 c)).map (·.1)
noncomputable def T9 (kvs:List (Str×List Str)):Nat->List Str->List Str
 |0,c=>c
 |f+1,c=>if (Qk kvs c).isEmpty then c else T9 kvs f (c++[(Qk kvs c).headD ""])
noncomputable def OS (kvs:List (Str×List Str)):List Str:=T9 kvs (kvs.length+1) []
structure bL (kvs:List (Str×List Str)):Prop where
 nd:(kvs.map (·.1)).Nodup
 l:kvs.length<=8/\∀kv∈kvs,kv.2.length<=8
abbrev Zd9:Du:=λds M Q=>Ga ds λx=>∃kvs:List (Str×List Str),x=.dic (L0 kvs)/\bL kvs/\Q (.lst ((OS kvs).map D.str)) M
theorem wM:Od T T.x77 2 Zd9:=by
 refine Cz.p1 T.x77.d.F ["needed", "come", "free"] λx M Q hr nN h=>?_;obtain⟨kvs,rfl,hk,q⟩:=h;refine⟨_,(qC (X7 (i:=1) nN rfl (FX rfl) (IZ qN)) (qO (R9 AQ (HA SO) (qC (wt (caps:=[("come",1),("needed",0)]) (j:=0) (i:=2) nN rfl rfl ⟨rfl,by rfl,by rfl,by rfl,rfl,by rfl,by nofun⟩ rfl rfl (FX (Cd rfl)) (by decide) (by decide) (λ_ _ _ _ _ _ _=>(qv 0)) (λ_ _ _ _ _ _ _=>((X8 (AV iS (qv 0) (qv 1) (by with_unfolding_all rfl)) (Yg (HA (Aw T.x78.d (χ T) nofun (qA (FO (Kp hr) (qv 2) (qv 0) (λ_ _=>rfl)) (qA (qv 1) qN))))))).pt)) (qC (Ep (AV CJ (B9 Ko T.B.len BZ (qA (qv 2) qN)) Ak) (qO (Cr (KW (qv 1)))) qE) (qO (EZ (Kc AN Bg Bf QB (qv 1) (qA (Bl Hn (qv 2) Ak) qN))))))))),?_⟩;right;intro p hp;unfold OS at q;generalize hR:T9 kvs (kvs.length+1) []=R0 at q;refine⟨λk τ M'=>∃c,(c.Nodup/\(∀z∈c,z∈kvs.map (·.1))/\k+c.length=kvs.length+1/\T9 kvs k c=R0/\M'=put M p (.lst (c.map D.str)))/\∃a,τ=[some (.dic (L0 kvs)),some (.ref p),a],⟨kvs.length+1,[],⟨HU,λz h=>absurd h AR,rfl,hR,rfl⟩,none,rfl⟩,?_⟩;intro k τ M';ext1⟨c,⟨cn,cs,ck,cf,e1'⟩,a,e2'⟩
 have cl:c.length<=kvs.length:=by
  have:=Rc c (kvs.map (·.1)) cn cs;rw[Ab]at this;exact this
 obtain⟨k,rfl⟩:∃k',k=k'+1:=⟨k-1,by ext⟩;rw[T9]at cf;grind;rw[show(L0 kvs).map (λp=>kD p.1)=kvs.map λkv=>D.str kv.1 by unfold L0;rw[BI];rfl];refine Eg.filt (f:=λkv=>D.str kv.1) (pr:=T7 c) (GR (by have:=hk.l.1;ext)) trivial (λkv hkv R r=>?_) (λkv hkv R r=>?_) ?_
 .have hv:DJ (L0 kvs) (.inr kv.1)=some (.lst (kv.2.map D.str)):=aQ (nE hk.nd) (Ao.mpr ⟨kv,hkv,rfl⟩);have l8:=hk.l.2 kv hkv;unfold T7 at r;walk_at "cap";refine Cy (λd=>?_) λd=>?_
  .rw[hv,B3];rw[decide_eq_true d,IQ]at r;exact⟨_,_,rfl,rfl,by ext,r⟩
  .rw[decide_eq_false d,Gh]at r;exact r
 .walk_at "cap";exact r
 .rw[show(kvs.filter (T7 c)).map (λkv=>D.str kv.1)=(Qk kvs c).map D.str by unfold Qk;rw[BI];rfl,Ab];cases ef:Qk kvs c with
  |nil=>rw[ef,show([]:List Str).isEmpty=true from rfl,if_pos rfl]at cf;refine Cy (λ_=>?_) λh=>absurd rfl h;rw[Dq];dsimp only;rw[Yk hp,cf];exact Dn.of q
  |cons z l=>
   rw[ef,show(z::l).isEmpty=false from rfl,if_neg Aj]at cf;refine Cy (λh=>absurd h (by rw[AK];ext)) λ_=>?_;have mz:z∈Qk kvs c:=by rw[ef];exact AG
   obtain⟨kv,hkv,ez⟩:=Ao.mp mz;obtain⟨h1,h2⟩:=AX.mp hkv;unfold T7 at h2;rw[Bo,decide_eq_true_eq,ez]at h2;rw[show FC ((z::l).map D.str) 0=some (.str z)from Ot (j:=0) rfl,B3,X4 Dq,R3];refine⟨IT Dq,B5 (by rw[Ab];have:=hk.l.1;ext),k,GB k,c++[z],⟨?_,λx hx=>?_,by rw[As,Dg];ext,cf,by rw[AM];rfl⟩,_,rfl⟩
   .rw[D4];refine⟨cn,by simp,λa ha b hb e=>h2.1 ?_⟩;rw[AO.mp hb]at e;exact e ▸ ha
   .rcases AY.mp hx with hx|hx
    .exact cs x hx
    .rw[AO.mp hx,<- ez];exact Fj h1
abbrev ZeY:Du:=λds M Q=>Ga ds λx=>∃kvs:List (Str×List Str),x=.dic (L0 kvs)/\bL kvs/\(∀kv∈kvs,kv.1∈OS kvs)/\Q (.lst []) M
theorem Zfr:Od T T.x80 3 ZeY:=by
 refine Cz.p1 T.x80.d.F ["needed", "come", "held", "way", "name"] λx M Q hr nN h=>?_;obtain⟨kvs,e1',hk,hall,q⟩:_:=h;refine⟨_,(qC (X7 (i:=1) nN rfl (FX rfl) (Aw T.x77.d (wM T) nofun (qA (qv 0) qN))) (qC (X7 (i:=2) nN rfl (FX rfl) (P9 (caps:=[("come",1)]) (j:=0) ⟨rfl,by rfl,by rfl,by rfl,rfl,by rfl,by nofun⟩ rfl rfl (Cd rfl) (by decide) (by decide) (λ_ _ _ _ _ _ _=>(qv 0)) (λ_ _ _ _ _ _ _=>(AV iS (qv 0) (qv 1) (by with_unfolding_all rfl))))) (qC (Ep (AV CJ (B9 Ko T.B.len BZ (qA (qv 2) qN)) Ak) (qO (Cr (HC qN))) qE) (qC (CA 3 nN (IZ qN)) (qC (CA 4 nN (Bl Hn (qv 2) Ak)) (Fa (R9 AQ (AV iS (qv 4) (qv 3) (by with_unfolding_all rfl)) (qC (EZ (Kc AN Bg Bf QB (qv 3) (qA (qv 4) qN))) (qO (CA 4 nN (Bl Hn (HK (caps:=[("held",2)]) ⟨rfl,by rfl,by rfl,by rfl,rfl,by rfl,by nofun⟩ rfl (Kr (FO (Kp hr) (qv 0) (qv 4) (λ_ _=>rfl))) (λ_ _ _ _ _ _=>(qv 0)) (λ_ _ _ _ _ _=>(AV OQ (qv 0) (qv 1) (by with_unfolding_all rfl)))) Ak))))) (qO (Cr (Jp Yi (qv 3) (Us (Kc AN K6 K5 (qW (XN hr)) (qv 3) (qA (qv 4) qN))) Yd))))))))),?_⟩;right;refine⟨kvs,rfl,hk,?_⟩
 (try grind)
 rw[show(L0 kvs).map (λp=>kD p.1)=kvs.map λkv=>D.str kv.1 by unfold L0;rw[BI];rfl];refine Eg.filt (f:=λkv=>D.str kv.1) (pr:=λkv=>decide (kv.1∉OS kvs)) (GR (by have:=hk.l.1;ext)) trivial (λkv hkv R r=>?_) (λkv hkv R r=>?_) ?_
 .walk_at "cap";rw[<- decide_not];exact r
 .walk_at "cap";exact r
 .rw[List.filter_eq_nil_iff.mpr λkv hkv=>by rw[decide_eq_true_eq];exact λh=>h (hall kv hkv)];refine Cy (λ_=>Dn.of q) λh=>absurd rfl h
theorem oP {wk:Wk}(ok:wk.Ok)(zs:List Str)(ps:List (Str×Str)):bL (MJ wk zs ps):=by
 have l8:=ok.r.1;refine⟨by unfold MJ;rw[BI];exact hJ ok,by unfold MJ;rw[Ab,Ab];exact l8,λkv hkv=>?_⟩;obtain⟨n,-,rfl⟩:=Ao.mp hkv;show(Vj wk zs ps n).length<=8;unfold Vj;exact A7 (CP _ _) (by rw[Ab];exact l8)
def HN (wk:Wk)(zs:List Str):Prop:=∀n∈wk.nms,n∈OS (MJ wk zs (C5 wk zs))
abbrev pw:Du:=λds M Q=>Fw ds λx y=>∃(wk:Wk) (zs:List Str),x=wk.D/\y=.lst (zs.map D.str)/\wk.Ok/\zs.Perm wk.nms/\HN wk zs/\Q (.lst []) M
theorem rB:Od T T.x79 31 pw:=by
 refine Cz.p2 T.x79.d.F ["works", "order"] λx y M Q hr nN h=>?_;obtain⟨wk,zs,e1',e2',ok,pm,ac,q⟩:_:=h;refine⟨_,(qO (Cr (Aw T.x80.d (Zfr T) nofun (qA (Aw T.x74.d (qf T) nofun (qA (qv 0) (qA (qv 1) qN))) qN)))),?_⟩;right;refine⟨wk,zs,rfl,rfl,ok,pm,_,rfl,oP ok _ _,λkv hkv=>?_,Dn.of q⟩;obtain⟨n,hn,rfl⟩:=Ao.mp hkv;exact ac n hn
abbrev w5:Du:=λds M Q=>Ga ds λx=>∃kvs:List (Str×List Str),x=.dic (L0 kvs)/\bL kvs/\kvs.length<=(OS kvs).length/\Q (.lst ((OS kvs).map D.str)) M
theorem wm:Od T T.x81 3 w5:=by
 refine Cz.p1 T.x81.d.F ["needed", "come"] λx M Q hr nN h=>?_;obtain⟨kvs,e1',hk,hl,q⟩:_:=h;refine⟨_,(qC (CA 1 nN (Aw T.x77.d (wM T) nofun (qA (qv 0) qN))) (qC (Ep (AV KY (B9 Ko T.B.len BZ (qA (qv 1) qN)) (B9 xl T.B.len BZ (qA (qv 0) qN))) (qO Oq) qE) (qO (Cr (qv 1))))),?_⟩;right;refine⟨kvs,rfl,hk,?_⟩
 (try grind)
 rw[show(L0 kvs).length=kvs.length by unfold L0;rw[Ab],if_neg (by ext)];exact Dn.of q
theorem je {wk:Wk}{zs:List Str}(ok:wk.Ok)(ac:HN wk zs):(MJ wk zs (C5 wk zs)).length<=(OS (MJ wk zs (C5 wk zs))).length:=by
 have nd:=hJ ok;rw[Vc]at nd;have:=Rc _ _ nd ac;unfold MJ at this ⊢;rw[Ab];exact this
def Oj (wk:Wk)(zs:List Str):D:=.tup [.tup (zs.map D.str),.tup ((OS (MJ wk zs (C5 wk zs))).map D.str),.tup ((C5 wk zs).map NA)]
abbrev pq:Du:=λds M Q=>Fw ds λx y=>∃(wk:Wk) (zs:List Str),x=wk.D/\y=.lst (zs.map D.str)/\wk.Ok/\zs.Perm wk.nms/\HN wk zs/\Q (Oj wk zs) M
theorem rA:Od T T.x82 31 pq:=by
 refine Cz.p2 T.x82.d.F ["works", "order", "clashes", "come"] λx y M Q hr nN h=>?_;obtain⟨wk,zs,e1',e2',ok,pm,ac,q⟩:_:=h;have l8:=ok.r.1;refine⟨_,(qC (CA 2 nN (Aw T.x68.d (kH T) nofun (qA (qv 0) (qA (qv 1) qN)))) (qC (CA 3 nN (Aw T.x81.d (wm T) nofun (qA (Aw T.x75.d (wB T) nofun (qA (qv 0) (qA (qv 1) (qA (qv 2) qN)))) qN))) (qO (Cr (CC (qA (CB Rb T.B.tuple EE (qA (qv 1) qN)) (qA (CB Rb T.B.tuple EE (qA (qv 3) qN)) (qA (CB Rb T.B.tuple EE (qA (qv 2) qN)) qN)))))))),?_⟩;right;refine⟨wk,zs,rfl,rfl,ok,pm,?_⟩
 (try grind)
 refine⟨wk,zs,_,rfl,rfl,rfl,ok,pm,A7 (jI (by rw[pm.length_eq,Ab];exact l8)) (by decide),_,rfl,oP ok _ _,je ok ac,?_⟩
 (try grind)
 exact Dn.of q
abbrev Zda:Du:=λds M Q=>Fw ds λx y=>OP M x λ_=>EQ y λk=>0<=k/\∀z:Int,Q (.int z) M
theorem UA:Od T T.x83 1 Zda:=by
 refine Cz.p2 T.x83.d.F ["script", "k"] λx y M Q hr nN h1=>?_;obtain⟨ns,hl,hs,h2⟩:=gH h1;obtain⟨k,rfl,hk,q⟩:=CU h2;refine⟨_,(qC (Ep (AV KY (qv 1) (B9 Ko T.B.len BZ (qA (qv 0) qN))) (qO (Cr (Bl Hn (qv 0) (qv 1)))) qE) (qO (Cr Ak))),?_⟩;right;simp only[hs,hl];grind;refine Cy (λc=>?_) λc=>Dn.of (q 0);obtain⟨o,ho,mo⟩:=ZX (xs:=ns.map D.int) (i:=k) hk (by rw[Ab];ext);obtain⟨z,_,rfl⟩:=Ao.mp mo;simp only[ho,B3];exact Dn.of (q z)
noncomputable def CM:Str:="abcdefghijklmnopqrstuvwxyz"
theorem jU:CM.cps.toList.length=26:=by nofun
theorem ZfF:CM.cps.toList.all small=true:=by nofun
theorem xx:CM.cps.toList.Nodup:=by nofun
theorem jO (h0:0<=i)(h1:i<26):∃c,FC CM.cps.toList i=some c/\small c=true:=by
 obtain⟨a,rfl⟩:∃a:Nat,i=(a:Int):=⟨i.toNat,by ext⟩;have la:a<CM.cps.toList.length:=by rw[jU];ext
 exact⟨_,Ot (Af la),Ck.mp ZfF _ (F5 la)⟩
theorem vB (hi:0<=i)(hj:0<=j)(h1:FC CM.cps.toList i=some c)(h2:FC CM.cps.toList j=some c)(i6:i<26)(j6:j<26):i=j:=by
 obtain⟨a,rfl⟩:∃a:Nat,i=(a:Int):=⟨i.toNat,by ext⟩;obtain⟨b,rfl⟩:∃b:Nat,j=(b:Int):=⟨j.toNat,by ext⟩;have la:a<CM.cps.toList.length:=by rw[jU];ext
 have lb:b<CM.cps.toList.length:=by rw[jU];ext
 rw[Ot (Af la)]at h1;rw[Ot (Af lb)]at h2;have:=(Jj xx).mp ((A8 h1).trans (A8 h2).symm);ext
theorem Yr (a b:Str):(a++b).cps.toList=a.cps.toList++b.cps.toList:=by
 show(a.cps++b.cps).toList=_;rw[Ob]
theorem qZ (h1:1<=z.length)(h8:z.length<=8)(hs:∀c∈z.cps.toList,small c=true):JR z:=by
 refine⟨⟨?_,by ext⟩,?_⟩
 .unfold Zz;rw[<- Array.all_toList];refine Ck.mpr λc hc=>?_;have:=hs c hc;unfold small at this;have:=of_decide_eq_true this;exact decide_eq_true (by ext)
 .unfold Gs;rw[Ck.mpr hs,decide_eq_true ⟨h1,h8⟩];rfl
def UI (n k:Int)(z:Str):Prop:=∃c d,FC CM.cps.toList (n / 192%26)=some c/\FC CM.cps.toList ((n / 4992+k)%26)=some d/\small c=true/\small d=true/\z=IX c (n / 24%8%(1+n / 3%8))++(⟨#[d]⟩:Str)++IX c (1+n / 3%8-1-n / 24%8%(1+n / 3%8))
theorem R4 (c)(n):(IX c n).cps.toList=Ay n.toNat c:=rfl
theorem UI.ok (h:UI n k z):JR z:=by
 obtain⟨c,d,_,_,sc,sd,rfl⟩:=h;have hm:=Cc (n / 24%8) (by omega:1+n / 3%8≠0);have hm2:=BM (n / 24%8) (by omega:0<1+n / 3%8)
 have len:(IX c (n / 24%8%(1+n / 3%8))++(⟨#[d]⟩:Str)++IX c (1+n / 3%8-1-n / 24%8%(1+n / 3%8))).length=(1+n / 3%8).toNat:=by
  show KR _=_;rw[<- Bt,Yr,Yr,R4,R4];simp;ext
 refine qZ (by rw[len];ext) (by rw[len];ext) λx hx=>?_;rw[Yr,Yr,R4,R4]at hx;simp only[Dj,Pf,EX]at hx;rcases hx with(⟨_,rfl⟩|hx)|⟨_,rfl⟩
 .exact sc
 .rw[hx];exact sd
 .exact sc
theorem UI.inj (h1:UI n i z)(h2:UI n j z):(n / 4992+i)%26=(n / 4992+j)%26:=by
 obtain⟨c,d,a1,a2,_,_,e1⟩:=h1;obtain⟨c',d',b1,b2,_,_,e2⟩:=h2;rw[a1]at b1;cases b1;have e:=congrArg (λs:Str=>s.cps.toList) (e1.symm.trans e2);simp only[Yr,R4,Bq]at e;have e3:=(List.append_cancel_left e);have:d=d':=by simpa using congrArg List.head? e3
 subst this;exact vB (by ext) (by ext) a2 b2 (by ext) (by ext)
def QD (i m:Int)(z:Str):Prop:=∃c,FC CM.cps.toList i=some c/\small c=true/\z=IX c m
theorem QD.ok (h:QD i m z)(h1:1<=m)(h8:m<=8):JR z:=by
 obtain⟨c,_,sc,rfl⟩:=h
 have len:(IX c m).length=m.toNat:=by
  show KR _=_;rw[<- Bt,R4,Bn]
 refine qZ (by rw[len];ext) (by rw[len];ext) λx hx=>?_;rw[R4]at hx;rw[(Pf.mp hx).2];exact sc
theorem QD.inj (h1:QD i m z)(h2:QD i' m' z)(hi:0<=i/\i<26)(hi':0<=i'/\i' < 26)(hm:1<=m)(hm':1<=m'):i=i'/\m=m':=by
 obtain⟨c,a,_,e1⟩:=h1;obtain⟨c',a',_,e2⟩:=h2;have e:=congrArg (λs:Str=>s.cps.toList) (e1.symm.trans e2);simp only[R4]at e;have el:=congrArg Ej e;rw[Bn,Bn]at el
 have ec:c=c':=by
  obtain⟨k,hk⟩:∃k,m.toNat=k+1:=⟨m.toNat-1,by ext⟩;obtain⟨k',hk'⟩:∃k,m'.toNat=k+1:=⟨m'.toNat-1,by ext⟩;rw[hk,hk',CY,CY]at e;injection e
 subst ec;exact⟨vB hi.1 hi'.1 a a' hi.2 hi'.2,by ext⟩
def Kv (n k:Int)(z:Str):Prop:=if n%3=2 then(if k<5 then QD (n / 192%26) (1+(2*k+n / 192)%5) z else QD ((n / 192%26+1+n / 4992%25)%26) (1+(3*k+n / 192)%4) z)else UI n (7*k) z
theorem Kv.ok (h:Kv n k z):JR z:=by
 unfold Kv at h;split at h
 .split at h
  .exact h.ok (by ext) (by ext)
  .exact h.ok (by ext) (by ext)
 .exact h.ok
theorem Kv.inj (h1:Kv n i z)(h2:Kv n j z)(hi:0<=i/\i<9)(hj:0<=j/\j<9):i=j:=by
 unfold Kv at h1 h2;split at h1
 .next hn=>
  rw[if_pos hn]at h2;split at h1
  .split at h2
   .have:=QD.inj h1 h2 (by ext) (by ext) (by ext) (by ext);ext
   .have:=QD.inj h1 h2 (by ext) (by ext) (by ext) (by ext);ext
  .split at h2
   .have:=QD.inj h1 h2 (by ext) (by ext) (by ext) (by ext);ext
   .have:=QD.inj h1 h2 (by ext) (by ext) (by ext) (by ext);ext
 .next hn=>
  rw[if_neg hn]at h2;have:=UI.inj h1 h2;ext
theorem Yj (hi:i.natAbs<1000)(hj:j.natAbs<1000):OZ i j:=by
 unfold OZ;ext
abbrev γ:Du:=λds M Q=>Fw ds λx y=>EQ x λn=>EQ y λk=>(0<=n/\n<10^9/\0<=k/\k<26)/\∀z,Kv n k z->Q (.str z) M
theorem jZ:Od T T.x85 1 γ:=by
 refine Cz.p2 T.x85.d.F ["number", "k", "letters", "fill", "long", "at", "sign"] λx y M Q hr nN h1=>?_;obtain⟨n,rfl,h2⟩:=CU h1;obtain⟨k,e1',⟨n0,n9,k0,k26⟩,q⟩:_:=CU h2;refine⟨_,(qC (CA 2 nN BV) (qC (CA 3 nN (BB G6 (BB Kq (qv 0) Ak) Ak)) (qC (Ep (AV CJ (BB G6 (qv 0) Ak) Ak) (qC (Ep (AV KY (qv 1) Ak) (qO (Cr (BB aE (Bl XY (qv 2) (qv 3)) (BB Hl Ak (BB G6 (BB Hl (BB Ue Ak (qv 1)) (BB Kq (qv 0) Ak)) Ak))))) qE) (qO (Cr (BB aE (Bl XY (qv 2) (BB G6 (BB Hl (BB Hl (qv 3) Ak) (BB G6 (BB Kq (qv 0) Ak) Ak)) Ak)) (BB Hl Ak (BB G6 (BB Hl (BB Ue Ak (qv 1)) (BB Kq (qv 0) Ak)) Ak)))))) qE) (qC (CA 4 nN (BB Hl Ak (BB G6 (BB Kq (qv 0) Ak) Ak))) (qC (CA 5 nN (BB G6 (BB G6 (BB Kq (qv 0) Ak) Ak) (qv 4))) (qC (CA 6 nN (Bl XY (qv 2) (BB G6 (BB Hl (BB Kq (qv 0) Ak) (BB Ue Ak (qv 1))) Ak))) (qO (Cr (BB uD (BB uD (BB aE (Bl XY (qv 2) (qv 3)) (qv 5)) (qv 6)) (BB aE (Bl XY (qv 2) (qv 3)) (BB Mo (BB Mo (qv 4) Ak) (qv 5)))))))))))),?_⟩;right;have hm:=Cc (n / 24%8) (by omega:1+n / 3%8≠0);have hm2:=BM (n / 24%8) (by omega:0<1+n / 3%8);have hL:("abcdefghijklmnopqrstuvwxyz":Str).length<=Am:=by nofun
 have len:∀(c:Nat) (i:Int),(IX c i).length=i.toNat:=λc i=>by
  show KR _=_;rw[<- Bt,R4,Bn]
 obtain⟨c,hc,sc⟩:=jO (i:=n / 192%26) (by ext) (by ext);refine⟨⟨by decide,by decide⟩,Cy (λh2=>Cy (λh5=>⟨hL,?_⟩) λh5=>⟨⟨by decide,by decide⟩,hL,?_⟩) λh2=>⟨⟨by decide,by decide⟩,⟨by decide,by decide⟩,by ext,⟨by decide,by decide⟩,Yj (by decide) (by ext),hL,?_⟩⟩
 .change Cw (FC CM.cps.toList _) _;rw[hc,B3];refine⟨Yj (by decide) (by ext),⟨by decide,by decide⟩,ZQ ⟨by ext,by ext⟩ (Dn.of (q _ ?_))⟩;unfold Kv;rw[if_pos h2,if_pos h5];exact⟨c,hc,sc,rfl⟩
 .obtain⟨d,hd,sd⟩:=jO (i:=(n / 192%26+1+n / 4992%25)%26) (by ext) (by ext);change Cw (FC CM.cps.toList _) _;rw[hd,B3];refine⟨Yj (by decide) (by ext),⟨by decide,by decide⟩,ZQ ⟨by ext,by ext⟩ (Dn.of (q _ ?_))⟩;unfold Kv;rw[if_pos h2,if_neg h5];exact⟨d,hd,sd,rfl⟩
 .obtain⟨d,hd,sd⟩:=jO (i:=(n / 4992+7*k)%26) (by ext) (by ext);change Cw (FC CM.cps.toList _) _;rw[hd,B3];refine⟨hL,?_⟩;change Cw (FC CM.cps.toList _) _;rw[hc,B3];refine ZQ ⟨hm,by ext⟩ ⟨GR ?_,hL,?_⟩
  .rw[len];show _+1<=_;ext
  change Cw (FC CM.cps.toList _) _;rw[hc,B3];refine ZQ ⟨by ext,by ext⟩ ⟨GR ?_,Dn.of (q _ ?_)⟩
  .rw[Str.length_append,len,len];show _+1+_<=_;ext
  .unfold Kv;rw[if_neg h2];exact⟨c,d,hc,hd,sc,sd,rfl⟩
theorem SQ (n:Nat):(0:Int)<2^n:=PC (by decide)
theorem Yy:∀{ws:List (Str×Int)},(ws.map (·.1)).Nodup->∀{p:Str×Int},p∈ws->ws.lookup p.1=some p.2
 |[],_,p,h=>nomatch h
 |(y,n)::r,nd,p,h=>by
  rw[AT,Ez]at nd;rcases Bc.mp h with rfl|h
  .rw[BH,beq_self_eq_true]
  .have ne:(p.1 == y)=false:=by
    refine PQ.mpr λe=>nd.1 ?_;exact Ao.mpr ⟨p,h,eq_of_beq e⟩
   rw[BH,ne];exact Yy nd.2 h
noncomputable abbrev OK (bs:List (Str×Int×Int)):List (Str×Int):=bs.map λb=>(b.1,b.2.1)
structure Sp (bs:List (Str×Int×Int))(es:List (Str×Int)):Prop where
 b:bs.length<=12/\∀b∈bs,JR b.1/\1<=b.2.1/\b.2.1<=64
 d:es.length<=6/\∀d∈es,JR d.1/\1<=d.2/\d.2<=64
 nb:(bs.map (·.1)).Nodup
 nd:(es.map (·.1)).Nodup
def Sd (bs:List (Str×Int×Int))(es:List (Str×Int))(w:Int)(t:Tm):Prop:=Wd (OK bs) es t w/\t.deep=1/\t.parts=1
abbrev z9:Du:=λds M Q=>T0 ds λx1 x2 x3 x4=>EQ x1 λn=>EQ x2 λwd=>∃(bs:List (Str×Int×Int)) (es:List (Str×Int)),x3=.lst (bs.map EU)/\x4=.lst (es.map GJ)/\Sp bs es/\(1<=wd/\wd<=64)/\0<=n/\∀t,Sd bs es wd t->Q t.D M
theorem aX:Od T T.x86 1 z9:=by
 refine Cz.p4 T.x86.d.F ["number", "want", "boxes", "doors", "fit"] λx1 x2 x3 x4 M Q hr nN h1=>?_;obtain⟨n,rfl,h2⟩:=CU h1;obtain⟨wd,e1',bs,es,e2',e3',sp,⟨w1,w64⟩,n0,q⟩:_:=CU h2;refine⟨_,(qC (tV (caps:=[("want",1)]) (i:=4) nN rfl rfl ⟨rfl,by rfl,by rfl,by rfl,rfl,by rfl,by nofun⟩ rfl (Kr (qv 2)) (λ_ _ _ _ _ _=>(CC (qA BV (qA (Bl BJ (qv 0) Ak) qN)))) (λ_ _ _ _ _ _=>(AV CJ (Bl BJ (qv 0) Ak) (qv 1)))) (qC (CA 4 nN (BB gh (qv 4) (HK (caps:=[("want",1)]) ⟨rfl,by rfl,by rfl,by rfl,rfl,by rfl,by nofun⟩ rfl (Kr (qv 2)) (λ_ _ _ _ _ _=>(CC (qA BV (qA (Bl BJ (qv 0) Ak) qN)))) (λ_ _ _ _ _ _=>(AV CJ (Bl BJ (qv 0) Ak) (qv 1)))))) (qC (CA 4 nN (BB zC (qv 4) (HK (caps:=[("want",1)]) ⟨rfl,by rfl,by rfl,by rfl,rfl,by rfl,by nofun⟩ rfl (Kr (qv 3)) (λ_ _ _ _ _ _=>(CC (qA BV (qA (Bl BJ (qv 0) Ak) qN)))) (λ_ _ _ _ _ _=>(AV CJ (Bl BJ (qv 0) Ak) (qv 1)))))) (qC (EZ (Kc AN Bg Bf QB (qv 4) (qA (CC (qA BV (qA (qv 1) (qA (BB G6 (BB Ue (BB Kq (qv 0) Ak) Ak) (BB Vr Ak (qv 1))) qN)))) qN))) (qO (Cr (Bl Hn (qv 4) (BB G6 (qv 0) (B9 Ko T.B.len BZ (qA (qv 4) qN)))))))))),?_⟩;right;have hp0:=SQ wd.toNat
 have lb:=sp.b.1;have ld':=sp.d.1
 have lkb:∀b∈bs,b.2.1=wd->(OK bs).lookup b.1=some wd:=λb hb e=>by
  have:=Yy (ws:=OK bs) (p:=(b.1,b.2.1)) (by unfold OK;rw[BI];exact sp.nb) (Ao.mpr ⟨b,hb,rfl⟩);rw[e]at this;exact this
 have lkd:∀d∈es,d.2=wd->es.lookup d.1=some wd:=λd hd e=>by
  have:=Yy (p:=d) sp.nd hd;rw[e]at this;exact this
 refine Eg.filt (ks:=bs) (g:=EU) (f:=λb=>(Tm.box b.1).D) (pr:=λb=>decide (b.2.1=wd)) (GR (by ext)) trivial (λd hd R r=>?_) (λd hd R r=>?_) ?_
 .simp only[EU];walk_at "cap";exact r
 .simp only[EU];walk_at "cap";exact r
 have f1:=CP (λb:Str×Int×Int=>decide (b.2.1=wd)) bs;have f2:=CP (λd:Str×Int=>decide (d.2=wd)) es;refine Eg.filt (ks:=bs) (g:=EU) (f:=λb=>(Tm.late b.1).D) (pr:=λb=>decide (b.2.1=wd)) (GR (by ext)) trivial (λd hd R r=>?_) (λd hd R r=>?_) ?_
 .simp only[EU];walk_at "cap";exact r
 .simp only[EU];walk_at "cap";exact r
 refine⟨GR (by rw[Ab,Ab];ext),?_⟩;refine Eg.filt (ks:=es) (g:=GJ) (f:=λb=>(Tm.door b.1).D) (pr:=λb=>decide (b.2=wd)) (GR (by ext)) trivial (λd hd R r=>?_) (λd hd R r=>?_) ?_
 .simp only[GJ];walk_at "cap";exact r
 .simp only[GJ];walk_at "cap";exact r
 refine⟨GR (by rw[Ab,Ab,Ab];ext),λp hp=>⟨⟨by decide,by decide⟩,.inr (by decide),⟨by ext,by ext,by decide⟩,by ext,B5 (by rw[Ab,Ab,Ab];ext),by ext,?_⟩⟩
 have all:∀d∈(((bs.filter λb=>decide (b.2.1=wd)).map λb=>(Tm.box b.1).D)++((bs.filter λb=>decide (b.2.1=wd)).map λb=>(Tm.late b.1).D)++((es.filter λb=>decide (b.2=wd)).map λb=>(Tm.door b.1).D)++[D.tup [D.str "num",D.int wd,D.int (n / 7*6364136223846793005%(1*2^wd.toNat))]]),∃t,Sd bs es wd t/\d=t.D:=λd hd=>by
  simp only[Dj,EX]at hd;rcases hd with((hd|hd)|hd)|hd
  .obtain⟨b,hb,rfl⟩:=Ao.mp hd;obtain⟨hb,e⟩:=AX.mp hb;exact⟨_,⟨.box (lkb b hb (of_decide_eq_true e)),rfl,rfl⟩,rfl⟩
  .obtain⟨b,hb,rfl⟩:=Ao.mp hd;obtain⟨hb,e⟩:=AX.mp hb;exact⟨_,⟨.late (lkb b hb (of_decide_eq_true e)),rfl,rfl⟩,rfl⟩
  .obtain⟨b,hb,rfl⟩:=Ao.mp hd;obtain⟨hb,e⟩:=AX.mp hb;exact⟨_,⟨.door (lkd b hb (of_decide_eq_true e)),rfl,rfl⟩,rfl⟩
  .exact⟨.num wd (n / 7*6364136223846793005%(1*2^wd.toNat)),⟨.num ⟨w1,w64,Cc _ (by ext),by rw[UW];exact BM _ hp0⟩,rfl,rfl⟩,hd⟩
 generalize hL:(((bs.filter λb=>decide (b.2.1=wd)).map λb=>(Tm.box b.1).D)++((bs.filter λb=>decide (b.2.1=wd)).map λb=>(Tm.late b.1).D)++((es.filter λb=>decide (b.2=wd)).map λb=>(Tm.door b.1).D)++[D.tup [D.str "num",D.int wd,D.int (n / 7*6364136223846793005%(1*2^wd.toNat))]])=L at all ⊢;have len:((bs.filter λb=>decide (b.2.1=wd)).map λb=>(Tm.box b.1).D).length+((bs.filter λb=>decide (b.2.1=wd)).map λb=>(Tm.late b.1).D).length+((es.filter λb=>decide (b.2=wd)).map λb=>(Tm.door b.1).D).length+1=L.length:=by rw[<- hL];simp only[As,Dg]
 rw[len];have lp:0<L.length:=by ext
 obtain⟨d,hd,md⟩:=ZX (xs:=L) (i:=n%(L.length:Int)) (Cc _ (by ext)) (BM _ (by ext));rw[hd,B3];obtain⟨t,ht,rfl⟩:=all d md;exact Qs (Sub.put hp) (q t ht)
noncomputable def pN:Nat->Nat
 |0=>1
 |n+1=>2*pN n+2
theorem gz (n:Nat):1<=pN n:=by cases n<;>simp[pN]
theorem hX {x w:Int}(h1:Wd bs es t x)(hk:u.kids=[t])(h:u.over [x]=some w):Wd bs es u w:=by
 refine .over (λi k a hk2 ha=>?_) h;rw[hk]at hk2
 match i with
 |0=>cases hk2;cases ha;exact h1
 |i+1=>cases hk2
theorem jc {x y w:Int}(h1:Wd bs es t x)(h2:Wd bs es u y)(h:(Tm.bin o t u).over [x,y]=some w):Wd bs es (.bin o t u) w:=by
 refine .over (λi k a hk ha=>?_) h
 match i with
 |0=>cases hk;cases ha;exact h1
 |1=>cases hk;cases ha;exact h2
 |i+2=>cases hk
theorem ui {w:Int}(h0:Wd bs es c 1)(h1:Wd bs es t w)(h2:Wd bs es u w):Wd bs es (.pick c t u) w:=by
 refine .over (ws:=[1,w,w]) (λi k a hk ha=>?_) (by simp[Tm.over])
 match i with
 |0=>cases hk;cases ha;exact h0
 |1=>cases hk;cases ha;exact h1
 |2=>cases hk;cases ha;exact h2
 |i+3=>cases hk
structure Pt (bs:List (Str×Int×Int))(es:List (Str×Int))(w:Int)(n:Nat)(t:Tm):Prop where
 w:Wd (OK bs) es t w
 d:t.deep<=n+1
 p:t.parts<=pN n
abbrev YA (n:Nat)(ds:List D)(M:Mp)(Q:Ef):Prop:=Xw ds λx1 x2 x3 x4 x5=>EQ x1 λm=>EQ x2 λwd=>x3=.int n/\n<=2/\∃(bs:List (Str×Int×Int)) (es:List (Str×Int)),x4=.lst (bs.map EU)/\x5=.lst (es.map GJ)/\Sp bs es/\bs≠[]/\(1<=wd/\wd<=64)/\0<=m/\∀t,Pt bs es wd n t->Q t.D M
theorem Sd.tm {w:Int}(h:Sd bs es w t)(n:Nat):Pt bs es w n t:=⟨h.1,by rw[h.2.1];ext,by rw[h.2.2];cases n<;>simp[pN]⟩
theorem vJ {n:Nat}{sq:Du}(G__law_term:Ok P w K mg base (n+1) T.x87.f T.x87.g ["number", "want", "deep", "boxes", "doors"] sq)(hq:∀m,n=m+1->sq=YA m):Od T T.x87 (n+2) (YA n):=by
 refine Cz.p5 T.x87.d.F ["number", "want", "deep", "boxes", "doors", "kind", "rest", "base", "one", "two", "test", "low", "high", "wider", "row", "width", "word"] λx1 x2 x3 x4 x5 M Q hr nN h1=>?_;obtain⟨m,rfl,h2⟩:=CU h1;obtain⟨wd,e1',e2',n2,bs,es,e3',e4',sp,ne,⟨w1,w64⟩,m0,q⟩:_:=CU h2;refine⟨_,(qC (CA 5 nN (BB G6 (qv 0) Ak)) (qC (CA 6 nN (BB Kq (qv 0) Ak)) (qC (Ep (AV CJ (qv 2) Ak) (qO (Cr (Aw T.x86.d (aX T) nofun (qA (qv 0) (qA (qv 1) (qA (qv 3) (qA (qv 4) qN))))))) qE) (qC (Ep (AV KY (qv 5) Ak) (qO (Cr (Aw T.x86.d (aX T) nofun (qA (qv 6) (qA (qv 1) (qA (qv 3) (qA (qv 4) qN))))))) qE) (qC (CA 7 nN (Bl Hn (HC (XZ (.int (.int (.int .nil))))) (qv 2))) (qC (CA 8 nN (BB G6 (qv 6) (qv 7))) (Fa (CA 9 nN (BB Kq (qv 6) (qv 7))) (qC (Ep (AV CJ (qv 5) Ak) (qO (Cr (CC (qA BV (qA (Aw T.x87.d G__law_term nofun (qA (qv 6) (qA (qv 1) (qA (BB Mo (qv 2) Ak) (qA (qv 3) (qA (qv 4) qN)))))) qN))))) qE) (qC (Ep (AV CJ (qv 5) Ak) (qC (CA 10 nN (Aw T.x87.d G__law_term nofun (qA (qv 8) (qA Ak (qA (BB Mo (qv 2) Ak) (qA (qv 3) (qA (qv 4) qN))))))) (qO (Cr (CC (qA BV (qA (qv 10) (qA (Aw T.x86.d (aX T) nofun (qA (qv 9) (qA (qv 1) (qA (qv 3) (qA (qv 4) qN))))) (qA (Aw T.x86.d (aX T) nofun (qA (BB Kq (qv 9) Ak) (qA (qv 1) (qA (qv 3) (qA (qv 4) qN))))) qN)))))))) qE) (Fa (Ep ((X8 (AV CJ (qv 5) Ak) (Yg (AV KZ (qv 1) Ak)))).pt (qC (CA 11 nN (BB Hl Ak (BB G6 (qv 6) (BB Mo (qv 1) Ak)))) (qC (CA 12 nN (Aw T.x87.d G__law_term nofun (qA (qv 8) (qA (BB Mo (qv 1) (qv 11)) (qA (BB Mo (qv 2) Ak) (qA (qv 3) (qA (qv 4) qN))))))) (qO (Cr (CC (qA BV (qA (qv 12) (qA (Aw T.x87.d G__law_term nofun (qA (qv 9) (qA (qv 11) (qA (BB Mo (qv 2) Ak) (qA (qv 3) (qA (qv 4) qN)))))) qN)))))))) qE) (Fa (tV (caps:=[("want",1)]) (i:=13) nN rfl rfl ⟨rfl,by rfl,by rfl,by rfl,rfl,by rfl,by nofun⟩ rfl (Kr (qv 3)) (λ_ _ _ _ _ _=>(qv 0)) (λ_ _ _ _ _ _=>(AV Xz (Bl BJ (qv 0) Ak) (qv 1)))) (Fa (Ep ((X8 (AV CJ (qv 5) Ak) (Yg (AV (Vq (Js hr)) (qv 13) (HC qN))))).pt (qC (CA 14 nN (Bl Hn (qv 13) (BB G6 (qv 8) (B9 Ko T.B.len BZ (qA (qv 13) qN))))) (qO (Cr (CC (qA BV (qA (CC (qA (Bl Hn (HC (qA BV (qA BV qN))) (BB G6 (qv 6) Ak)) (qA (Bl BJ (qv 14) Ak) qN))) (qA (BB G6 (qv 9) (BB Hl (BB Mo (Bl BJ (qv 14) Ak) (qv 1)) Ak)) (qA (qv 1) qN)))))))) qE) (Fa (Ep ((X8 (AV OQ (qv 5) (CC (qA Ak (qA Ak qN))) (by with_unfolding_all rfl)) (Yg (AV CJ (qv 1) Ak)))).pt (qC (CA 15 nN (Bl BJ (Bl Hn (qv 3) (BB G6 (qv 6) (B9 Ko T.B.len BZ (qA (qv 3) qN)))) Ak)) (qC (CA 12 nN (Aw T.x87.d G__law_term nofun (qA (qv 8) (qA (qv 15) (qA (BB Mo (qv 2) Ak) (qA (qv 3) (qA (qv 4) qN))))))) (qO (Cr (CC (qA (Bl Hn (HC (qA BV (qA BV qN))) (BB Mo (qv 5) Ak)) (qA (qv 12) (qA (Aw T.x87.d G__law_term nofun (qA (qv 9) (qA (qv 15) (qA (BB Mo (qv 2) Ak) (qA (qv 3) (qA (qv 4) qN)))))) qN)))))))) qE) (qC (CA 16 nN (Bl Hn (HC (XZ (.str (.str (.str (.str (.str .nil))))))) (BB G6 (qv 6) Ak))) (qC (CA 12 nN (Aw T.x87.d G__law_term nofun (qA (qv 8) (qA (qv 1) (qA (BB Mo (qv 2) Ak) (qA (qv 3) (qA (qv 4) qN))))))) (qO (Cr (CC (qA (qv 16) (qA (qv 12) (qA (Aw T.x87.d G__law_term nofun (qA (qv 9) (qA (qv 1) (qA (BB Mo (qv 2) Ak) (qA (qv 3) (qA (qv 4) qN)))))) qN))))))))))))))))))))),?_⟩;cases n with
 |zero=>right;exact⟨⟨by decide,by decide⟩,bs,es,rfl,rfl,sp,⟨w1,w64⟩,m0,λt ht=>Dn.of (q t (ht.tm _))⟩
 |succ n=>
 cases hq n rfl;right;have R0:0<=m / 12:=by ext
 refine⟨⟨by decide,by decide⟩,Cy (λc=>absurd c (by ext)) λ_=>Cy (λc=>⟨bs,es,rfl,rfl,sp,⟨w1,w64⟩,R0,λt ht=>Dn.of (q t (ht.tm _))⟩) λc3=>?_⟩
 obtain⟨bv,hbv,b0,b1⟩:∃bv:Int,FC [D.int 1,D.int 31,D.int 9973] ((n+1:Nat):Int)=some (.int bv)/\0<bv/\bv<1073741824:=by
  rcases(by omega:n=0\/n=1)with rfl|rfl
  .exact⟨31,rfl,by decide,by decide⟩
  .exact⟨9973,rfl,by decide,by decide⟩
 rw[hbv,B3];grind;refine⟨b0,?_⟩;obtain⟨kd,hkd⟩:∃kd,kd=m%12:=⟨_,rfl⟩;obtain⟨rs,hrs⟩:∃rs,rs=m / 12:=⟨_,rfl⟩;obtain⟨on,hon⟩:∃on,on=m / 12%bv:=⟨_,rfl⟩;have on0:0<=on:=by rw[hon];exact Cc _ (by ext)
 rw[<- hkd,<- hon,<- hrs];rw[<- hrs]at R0;have k12:3<=kd/\kd<12:=by ext
 refine⟨λτ M'=>M'=M/\∃tw:Int,0<=tw/\τ=[some (.int m),some (.int wd),some (.int ((n+1:Nat):Int)),some (.lst (bs.map EU)),some (.lst (es.map GJ)),some (.int kd),some (.int rs),some (.int bv),some (.int on),some (.int tw),none,none,none,none,none,none,none],?_,?_⟩
 .grind;exact⟨⟨b0,b1⟩,_,Sm R0 (by ext),rfl⟩
 intro τ M';ext1⟨e1',tw,tw0,e2'⟩;grind;have en:D.int (((n+1:Nat):Int)-1)=D.int (n:Int):=by congr 1;ext
 have nn:n<=2:=by ext
 have lkb:∀b∈bs,(OK bs).lookup b.1=some b.2.1:=λb hb=>Yy (ws:=OK bs) (p:=(b.1,b.2.1)) (by unfold OK;rw[BI];exact sp.nb) (Ao.mpr ⟨b,hb,rfl⟩);have pp:=gz n;have bin:∀{o:Gk} {t u:Tm} {x y:Int},Pt bs es x n t->Pt bs es y n u->(Tm.bin o t u).over [x,y]=some wd->Pt bs es wd (n+1) (.bin o t u):=λ{o t u x y} h1 h2 h=>⟨jc h1.w h2.w h,by have:=h1.d;have:=h2.d;simp only[Tm.deep];ext,by have:=h1.p;have:=h2.p;simp only[Tm.parts,pN];ext⟩;refine Cy (λc=>⟨en,nn,bs,es,rfl,rfl,sp,ne,⟨w1,w64⟩,R0,λt ht=>Dn.of (q (.not t) ⟨hX ht.w rfl rfl,by have:=ht.d;simp only[Tm.deep];ext,by have:=ht.p;simp only[Tm.parts,pN];ext⟩)⟩) λc3'=>Cy (λc=>⟨en,nn,bs,es,rfl,rfl,sp,ne,on0,λt ht=>⟨bs,es,rfl,rfl,sp,⟨w1,w64⟩,tw0,λt1 h1=>⟨⟨by decide,by decide⟩,bs,es,rfl,rfl,sp,⟨w1,w64⟩,by ext,λt2 h2=>Dn.of (q (.pick t t1 t2) ⟨ui ht.w h1.1 h2.1,by have:=ht.d;have:=h1.2.1;have:=h2.2.1;simp only[Tm.deep];ext,by have:=ht.p;have:=h1.2.2;have:=h2.2.2;simp only[Tm.parts,pN];ext⟩)⟩⟩⟩) λc4=>?_;refine⟨λτ M2=>M2=M'/\τ=[some (.int m),some (.int wd),some (.int ((n+1:Nat):Int)),some (.lst (bs.map EU)),some (.lst (es.map GJ)),some (.int kd),some (.int rs),some (.int bv),some (.int on),some (.int tw),none,none,none,none,none,none,none],?_,?_⟩
 .grind;refine Cy (λ_=>Cy (λc=>?_) λ_=>trivial) λ_=>trivial;have r0:=Cc rs (by omega:wd-1≠0);have r1:=BM rs (by omega:0<wd-1);refine⟨by ext,en,nn,bs,es,rfl,rfl,sp,ne,⟨by ext,by ext⟩,on0,λt ht=>⟨en,nn,bs,es,rfl,rfl,sp,ne,⟨by ext,by ext⟩,tw0,λt1 h1=>Dn.of (q (.bin .join t t1) (bin ht h1 ?_))⟩⟩;simp only[Tm.over,XG,XF,XE,rC,rD,rE];rw[if_pos (by ext)];congr 1
  ext
 rintro τ M2 ⟨rfl,rfl⟩;refine⟨λτ M'=>M'=M2/\τ=[some (.int m),some (.int wd),some (.int ((n+1:Nat):Int)),some (.lst (bs.map EU)),some (.lst (es.map GJ)),some (.int kd),some (.int rs),some (.int bv),some (.int on),some (.int tw),none,none,none,some (.lst ((bs.filter λb=>decide (wd<=b.2.1)).map EU)),none,none,none],?_,?_⟩
 .grind;have lb:=sp.b.1;refine Eg.filt (ks:=bs) (g:=EU) (f:=EU) (pr:=λb=>decide (wd<=b.2.1)) (GR (by ext)) trivial (λd hd R r=>?_) (λd hd R r=>?_) ?_
  .simp only[EU];walk_at "cap";exact r
  .walk_at "cap";exact r
  exact⟨rfl,rfl⟩
 rintro τ M3 ⟨rfl,rfl⟩;refine⟨λτ M'=>M'=M3/\τ=[some (.int m),some (.int wd),some (.int ((n+1:Nat):Int)),some (.lst (bs.map EU)),some (.lst (es.map GJ)),some (.int kd),some (.int rs),some (.int bv),some (.int on),some (.int tw),none,none,none,some (.lst ((bs.filter λb=>decide (wd<=b.2.1)).map EU)),none,none,none],?_,?_⟩
 .grind;refine Cy (λ_=>Cy (λc=>?_) λ_=>trivial) λ_=>trivial;have fne:bs.filter (λb=>decide (wd<=b.2.1))≠[]:=λe=>by rw[e]at c;cases c
  have fp:=OG.mpr fne;refine⟨by ext,?_⟩;obtain⟨d,hd,md⟩:=ZX (xs:=(bs.filter λb=>decide (wd<=b.2.1)).map EU) (i:=on%((bs.filter λb=>decide (wd<=b.2.1)).length:Int)) (Cc _ (by ext)) (by rw[Ab];exact BM _ (by ext));rw[hd,B3];obtain⟨b,mb,rfl⟩:=Ao.mp md;obtain⟨mb,eb⟩:=AX.mp mb;have eb:=of_decide_eq_true eb;have lk:=lkb b mb;have p0:=Cc tw (by omega:b.2.1-wd+1≠0);have p1:=BM tw (by omega:0<b.2.1-wd+1);have big:4<=pN (n+1):=by simp only[pN];ext
  have ov:∀u:Tm,(Tm.part u (tw%(b.2.1-wd+1)) wd).over [b.2.1]=some wd:=λu=>by simp only[Tm.over,XG,XF,XE,rC,rD,rE];rw[if_pos (by ext)]
  rcases(by omega:rs%2=0\/rs%2=1)with h|h<;>rw[h]
  .rw[show FC [D.str "box",D.str "late"] (0:Int)=some (D.str "box")from rfl,B3];simp only[EU];grind;exact⟨by ext,Dn.of (q (.part (.box b.1) (tw%(b.2.1-wd+1)) wd) ⟨hX (.box lk) rfl (ov _),by simp only[Tm.deep];ext,by simp only[Tm.parts];ext⟩)⟩
  .rw[show FC [D.str "box",D.str "late"] (1:Int)=some (D.str "late")from rfl,B3];simp only[EU];grind;exact⟨by ext,Dn.of (q (.part (.late b.1) (tw%(b.2.1-wd+1)) wd) ⟨hX (.late lk) rfl (ov _),by simp only[Tm.deep];ext,by simp only[Tm.parts];ext⟩)⟩
 rintro τ M4 ⟨rfl,rfl⟩;refine⟨λτ M'=>M'=M4/\τ=[some (.int m),some (.int wd),some (.int ((n+1:Nat):Int)),some (.lst (bs.map EU)),some (.lst (es.map GJ)),some (.int kd),some (.int rs),some (.int bv),some (.int on),some (.int tw),none,none,none,some (.lst ((bs.filter λb=>decide (wd<=b.2.1)).map EU)),none,none,none],?_,?_⟩
 .grind;refine Cy (λc78=>Cy (λc1=>?_) λ_=>trivial) λ_=>trivial;have bp:=OG.mpr ne;refine⟨by ext,?_⟩;obtain⟨d,hd,md⟩:=ZX (xs:=bs.map EU) (i:=rs%(bs.length:Int)) (Cc _ (by ext)) (by rw[Ab];exact BM _ (by ext));rw[hd,B3];obtain⟨b,mb,rfl⟩:=Ao.mp md;obtain⟨_,b1,b64⟩:=sp.b.2 b mb;simp only[EU];grind;refine⟨en,nn,bs,es,rfl,rfl,sp,ne,⟨b1,b64⟩,on0,λt ht=>?_⟩;rcases c78 with h|h
  .rw[show kd-7=0 by ext,show FC [D.str "less",D.str "same"] (0:Int)=some (D.str "less")from rfl,B3];exact⟨en,nn,bs,es,rfl,rfl,sp,ne,⟨b1,b64⟩,tw0,λt1 h1=>Dn.of (q (.bin .less t t1) (bin ht h1 (by simp[Tm.over,c1])))⟩
  .rw[show kd-7=1 by ext,show FC [D.str "less",D.str "same"] (1:Int)=some (D.str "same")from rfl,B3];exact⟨en,nn,bs,es,rfl,rfl,sp,ne,⟨b1,b64⟩,tw0,λt1 h1=>Dn.of (q (.bin .same t t1) (bin ht h1 (by simp[Tm.over,c1])))⟩
 rintro τ M5 ⟨rfl,rfl⟩;grind
 obtain⟨o,ho,oj⟩:∃o:Gk,FC [D.str "and",D.str "or",D.str "xor",D.str "plus",D.str "minus"] (rs%5)=some (.str o.nm)/\∀t u:Tm,(Tm.bin o t u).over [wd,wd]=some wd:=by
  rcases(by omega:rs%5=0\/rs%5=1\/rs%5=2\/rs%5=3\/rs%5=4)with h|h|h|h|h<;>rw[h]
  .exact⟨.and,rfl,λt u=>by simp[Tm.over]⟩
  .exact⟨.or,rfl,λt u=>by simp[Tm.over]⟩
  .exact⟨.xor,rfl,λt u=>by simp[Tm.over]⟩
  .exact⟨.plus,rfl,λt u=>by simp[Tm.over]⟩
  .exact⟨.minus,rfl,λt u=>by simp[Tm.over]⟩
 rw[ho,B3];exact⟨en,nn,bs,es,rfl,rfl,sp,ne,⟨w1,w64⟩,on0,λt ht=>⟨en,nn,bs,es,rfl,rfl,sp,ne,⟨w1,w64⟩,tw0,λt1 h1=>Dn.of (q (.bin o t t1) (bin ht h1 (oj t t1)))⟩⟩
theorem kA (T:Tv P w K mg base):∀n:Nat,Od T T.x87 (n+2) (YA n)
 |0=>vJ T (Yu λ_ _ _ h=>h) λm h=>by cases h
 |n+1=>vJ T (kA T n) λm h=>by cases h;rfl
theorem ZL {j:Nat}{t:HM}{E:JG}{τ:Gy}{M:Mp}{p:Av}{xs:List D}(h:τ[j]? = some (some (.ref p)))(hM:M p=some (.lst xs)):PU j t E τ M=t E (τ.set j (some (.lst xs))) (JU M p):=by
 unfold PU;rw[h,O2,B3,Qr,hM]
structure bJ (bs:List (Str×Int×Int))(es:List (Str×Int))(k:Nat)(wr:List (Str×Tm)):Prop where
 s:List.Sublist (wr.map (·.1)) ((bs.take k).map (·.1))
 t:∀u∈wr,∃b∈bs,u.1=b.1/\Pt bs es b.2.1 2 u.2
abbrev Ze9:Du:=λds M Q=>Jd ds λx1 x2 x3=>EQ x1 λm=>∃(bs:List (Str×Int×Int)) (es:List (Str×Int)),x2=.lst (bs.map EU)/\x3=.lst (es.map GJ)/\Sp bs es/\bs≠[]/\0<=m/\∀wr:List (Str×Tm),wr.length<=bs.length->(wr.map (·.1)).Nodup->(∀u∈wr,∃b∈bs,u.1=b.1/\Pt bs es b.2.1 2 u.2)->Q (.lst (wr.map Ls)) M
theorem Zei:Od T T.x88 5 Ze9:=by
 refine Cz.p3 T.x88.d.F ["number", "boxes", "doors", "which", "last_first", "writes", "row"] λx1 x2 x3 M Q hr nN h1=>?_;obtain⟨m,e1',bs,es,e2',e3',sp,ne,m0,q⟩:_:=CU h1;refine⟨_,(qC (CA 3 nN (BB G6 (qv 0) Ak)) (qC (CA 4 nN (BB G6 (BB Kq (qv 0) Ak) Ak)) (qC (CA 0 nN (BB Kq (qv 0) Ak)) (Fa (CA 5 nN (IZ qN)) (Fa (MM AQ rfl (Kr (qv 1)) (Qy (i:=6) nN rfl (Cd rfl)) (Fa (Ep (AV CJ (BB G6 (qv 3) Ak) Ak) (qO (EZ (Kc AN Bg Bf QB (qv 5) (qA (CC (qA (Bl BJ (qv 6) Ak) (qA (Aw T.x87.d (kA T 2) nofun (qA (BB G6 (qv 0) (BB RZ Ak Ak)) (qA (Bl BJ (qv 6) Ak) (qA Ak (qA (qv 1) (qA (qv 2) qN)))))) qN))) qN)))) qE) (qC (CA 3 nN (BB Kq (qv 3) Ak)) (qO (CA 0 nN (BB Kq (qv 0) (BB RZ Ak Ak))))))) (Fa (Ep (AV CJ (qv 4) Ak) (qO (EZ (TY AN PySem.F.slot_list_reverse PySem.F.type_list_reverse vi (qv 5)))) qE) (Ut 5 (qO (Cr (qv 5)))))))))),?_⟩;right;have lb:=sp.b.1;refine⟨⟨by decide,by decide⟩,⟨by decide,by decide⟩,?_⟩;refine⟨λτ M'=>∃p,M p=none/\M'=put M p (.lst [])/\τ=[some (.int (m / 16)),some (.lst (bs.map EU)),some (.lst (es.map GJ)),some (.int (m%8)),some (.int (m / 8%2)),some (.ref p),none],?_,?_⟩
 .grind;exact λp hp=>⟨p,hp,rfl,rfl⟩
 intro τ M1;ext1⟨p,hp,e1',e2'⟩;refine⟨λτ M'=>∃(wr:List (Str×Tm)) (v0 v3 v6:Option D),M'=put M p (.lst (wr.map Ls))/\τ=[v0,some (.lst (bs.map EU)),some (.lst (es.map GJ)),v3,some (.int (m / 8%2)),some (.ref p),v6]/\bJ bs es bs.length wr,?_,?_⟩
 .grind;refine⟨λk τ M'=>∃(wr:List (Str×Tm)) (m' w':Int) (v6:Option D),M'=put M p (.lst (wr.map Ls))/\τ=[some (.int m'),some (.lst (bs.map EU)),some (.lst (es.map GJ)),some (.int w'),some (.int (m / 8%2)),some (.ref p),v6]/\0<=m'/\bJ bs es k wr,⟨[],m / 16,m%8,none,rfl,rfl,by ext,⟨by simp,λu hu=>nomatch hu⟩⟩,λ_ _ _ _=>trivial,?_,?_⟩
  .intro k d τ M' hd;ext1⟨wr,m',w',v6,e1',e2',m0',ws⟩;obtain⟨b,hb,rfl⟩:=Ps hd;have mb:=AE hb;obtain⟨_,b1,b64⟩:=sp.b.2 b mb;have hk:k<bs.length:=(Ai.mp hb).1;have et:(bs.take (k+1)).map (·.1)=(bs.take k).map (·.1)++[b.1]:=by rw[BE,hb,AM];rfl
   have lw:wr.length<=k:=by
    have:=ws.s.length_le;rw[Ab,Ab,A6]at this;ext
   have keep:bJ bs es (k+1) wr:=⟨by rw[et];exact ws.s.trans (List.sublist_append_left ..),ws.t⟩;refine⟨λτ M''=>∃wr':List (Str×Tm),M''=put M p (.lst (wr'.map Ls))/\τ=[some (.int m'),some (.lst (bs.map EU)),some (.lst (es.map GJ)),some (.int w'),some (.int (m / 8%2)),some (.ref p),some (EU b)]/\bJ bs es (k+1) wr',?_,?_⟩
   .simp only[EU];grind;refine Cy (λc=>?_) λc=>⟨wr,rfl,keep⟩;refine⟨⟨by decide,by decide,by decide⟩,bs,es,rfl,rfl,sp,ne,⟨b1,b64⟩,by ext,λt ht=>⟨B5 (by ext),wr++[(b.1,t)],by rw[AM];rfl,⟨?_,λu hu=>?_⟩⟩⟩
    .rw[et,AM];exact ws.s.append (Zd _)
    .rcases AY.mp hu with hu|hu
     .exact ws.t u hu
     .rw[AO.mp hu];exact⟨b,mb,rfl,ht⟩
   .intro τ M'';ext1⟨wr',e1',e2',ws'⟩;grind;exact⟨⟨by decide,by decide⟩,⟨by decide,by decide,by decide⟩,⟨by decide,by decide⟩,wr',_,_,_,rfl,rfl,by ext,ws'⟩
  .intro τ M';ext1⟨wr,m',w',v6,e1',e2',m0',ws⟩;rw[Ab]at ws;exact⟨wr,_,_,v6,rfl,rfl,ws⟩
 intro τ M2;ext1⟨wr,v0,v3,v6,e1',e2',ws⟩;have sub:=ws.s;rw[BD]at sub;have nd:(wr.map (·.1)).Nodup:=Go sub sp.nb
 have lw:wr.length<=bs.length:=by
  have:=sub.length_le;rw[Ab,Ab]at this;exact this
 refine⟨λτ M'=>∃(wr':List (Str×Tm)),M'=put M p (.lst (wr'.map Ls))/\τ=[v0,some (.lst (bs.map EU)),some (.lst (es.map GJ)),v3,some (.int (m / 8%2)),some (.ref p),v6]/\(wr'=wr\/wr'=wr.reverse),?_,?_⟩
 .grind;refine Cy (λc=>?_) λc=>⟨wr,rfl,.inl rfl⟩;unfold W4;rw[Qr];refine⟨rfl,?_⟩;rw[Dq];exact⟨wr.reverse,by rw[R3,QU],.inr rfl⟩
 intro τ M3;ext1⟨wr',e1',e2',hw⟩;rw[ZL rfl Dq,Tc hp];simp only[BR,Ci];grind;rcases hw with rfl|rfl
 .exact Dn.of (q _ lw nd ws.t)
 .refine Dn.of (q _ (by rw[OF];exact lw) ?_ λu hu=>ws.t u (QQ.mp hu));rw[QU];exact List.pairwise_reverse.mpr (nd.imp λh e=>h e.symm)
theorem Pt.two (h:Pt bs es wd n t)(hn:n<=2):Pt bs es wd 2 t:=by
 have h1:=h.d;have h2:=h.p;rcases(by omega:n=0\/n=1\/n=2)with rfl|rfl|rfl
 .exact⟨h.w,by ext,A7 h2 (by decide)⟩
 .exact⟨h.w,by ext,A7 h2 (by decide)⟩
 .exact h
abbrev sV:Du:=λds M Q=>Xw ds λx1 x2 x3 x4 x5=>EQ x1 λm=>EQ x2 λwd=>∃n:Nat,x3=.int n/\n<=2/\∃(bs:List (Str×Int×Int)) (es:List (Str×Int)),x4=.lst (bs.map EU)/\x5=.lst (es.map GJ)/\Sp bs es/\bs≠[]/\(1<=wd/\wd<=64)/\0<=m/\∀t,Pt bs es wd 2 t->Q t.D M
theorem qg:Od T T.x87 4 sV:=by
 have key:∀ds M Q,sV ds M Q->∃n,n<=2/\YA n ds M Q:=λds M Q h=>by
  obtain⟨x1,x2,x3,x4,x5,e1',h1⟩:_:=T1 h;obtain⟨m,rfl,h2⟩:=CU h1;obtain⟨wd,e1',n,e2',n2,bs,es,h3,h4,h5,h6,h7,h8,q⟩:_:=CU h2;exact⟨n,n2,rfl,n2,bs,es,h3,h4,h5,h6,h7,h8,λt ht=>q t (ht.two n2)⟩
 have F:∀n,n<=2->Od T T.x87 4 (YA n):=λn hn=>(kA (P:=P) (base:=base) T n).mono (by ext);refine⟨λvs H Q E ⟨Z,ds,M,Q2,hr,a,h,k⟩=>?_,λA outer s H args us vs Q E e1 e2 e3 e4 ⟨Z,ds,M,Q2,hr,a,h,k⟩=>?_⟩
 .obtain⟨n,hn,h⟩:=key ds M Q2 h;exact(F n hn).len vs H Q E ⟨Z,ds,M,Q2,hr,a,h,k⟩
 .obtain⟨n,hn,h⟩:=key ds M Q2 h;exact(F n hn).run A outer s H args us vs Q E e1 e2 e3 e4 ⟨Z,ds,M,Q2,hr,a,h,k⟩
structure WkX (wk:Wk):Prop where
 ok:wk.Ok
 nb:1<=wk.bs.length/\wk.bs.length<=3
 nd:wk.ds.length<=2
def lB (ms:List Int)(nm:Int)(bs:List (Str×Int×Int)):Prop:=∀(i:Nat) b m,bs[i]? = some b->ms[i]? = some m->Kv nm i b.1/\(1<=b.2.1/\b.2.1<=m/\m<=64)/\0<=b.2.2/\b.2.2<2^b.2.1.toNat
def kY (ms:List Int)(nm:Int)(es:List (Str×Int)):Prop:=∀(i:Nat) d m,es[i]? = some d->ms[3+i]? = some m->Kv nm (3+i) d.1/\1<=d.2/\d.2<=m/\m<=64
noncomputable def Mg (r:Str×Tm×List (Str×Tm)):D:=.tup [.str r.1,r.2.1.D,.lst (r.2.2.map Ls)]
abbrev Zea:Du:=λds M Q=>T0 ds λx1 x2 x3 x4=>∃(ns ms:List Int),x1=.lst (ns.map D.int)/\x2=.tup (ms.map D.int)/\(∃md:Int,x3=.int md/\0<=md/\md<=2)/\x4=.int 4/\(ms.length=5/\∀m∈ms,1<=m/\m<=64)/\∀wk,WkX wk->Q (.tup [.lst (wk.bs.map EU),.lst (wk.ds.map GJ),.lst (wk.rs.map Mg)]) M
def wY (bs:List (Str×Int×Int))(es:List (Str×Int))(nm:Int)(rs:List (Str×Tm×List (Str×Tm))):Prop:=∀(i:Nat) r,rs[i]? = some r->Kv nm (5+i) r.1/\QC (OK bs) es r.2.1 r.2.2
theorem gF {α:Type}{nm:Int}(f:α->Str)(c:Nat){xs:List α}(hl:c+xs.length<=9)(h:∀(i:Nat) x,xs[i]? = some x->Kv nm ((c+i:Nat):Int) (f x)):(xs.map f).Nodup:=by
 unfold Fh;rw[List.pairwise_iff_getElem];intro i j hi hj hij e;rw[Ab]at hi hj;have g1:=h i _ (Af hi);have g2:=h j _ (Af hj);rw[Ji,Ji]at e;rw[<- e]at g2;have:=Kv.inj g1 g2 (by ext) (by ext);ext
theorem Sp.take {bs:List (Str×Int×Int)}{es:List (Str×Int)}(h:Sp bs es)(i j:Nat):Sp (bs.take i) (es.take j):=by
 refine⟨⟨by rw[A6];have:=h.b.1;ext,λb hb=>h.b.2 b (Gm hb)⟩,⟨by rw[A6];have:=h.d.1;ext,λb hb=>h.d.2 b (Gm hb)⟩,?_,?_⟩
 .exact Go ((JA i bs).map _) h.nb
 .exact Go ((JA j es).map _) h.nd
theorem zY {ms:List Int}{nm:Int}{bs:List (Str×Int×Int)}{es:List (Str×Int)}(m5:ms.length=5)(hb:lB ms nm bs)(he:kY ms nm es)(b3:bs.length<=3)(e2:es.length<=2):Sp bs es:=by
 have gb:∀(i:Nat) b,bs[i]? = some b->∃m,ms[i]? = some m:=λi b h=>⟨_,Af (by have:=(Ai.mp h).1;ext)⟩;have ge:∀(i:Nat) b,es[i]? = some b->∃m,ms[3+i]? = some m:=λi b h=>⟨_,Af (by have:=(Ai.mp h).1;ext)⟩;refine⟨⟨by ext,λb mb=>?_⟩,⟨by ext,λd md=>?_⟩,gF (α:=Str×Int×Int) (nm:=nm) (·.1) 0 (by ext) λi x hx=>?_,gF (α:=Str×Int) (nm:=nm) (·.1) 3 (by ext) λi x hx=>?_⟩
 .obtain⟨i,hi⟩:=Bw.mp mb;obtain⟨m,hm⟩:=gb i b hi;obtain⟨h1,h2,_⟩:=hb i b m hi hm;exact⟨h1.ok,by ext,by ext⟩
 .obtain⟨i,hi⟩:=Bw.mp md;obtain⟨m,hm⟩:=ge i d hi;obtain⟨h1,h2,h3,h4⟩:=he i d m hi hm;exact⟨h1.ok,by ext,by ext⟩
 .obtain⟨m,hm⟩:=gb i x hx;have:=(hb i x m hx hm).1;rw[Ey];exact this
 .obtain⟨m,hm⟩:=ge i x hx;have:=(he i x m hx hm).1;rw[show((3+i:Nat):Int)=3+(i:Int) by ext];exact this
theorem Wd.mono2 {bs bs' es es':List (Str×Int)}{t:Tm}{n:Int}(hb:∀z n,bs.lookup z=some n->bs'.lookup z=some n)(he:∀z n,es.lookup z=some n->es'.lookup z=some n)(h:Wd bs es t n):Wd bs' es' t n:=by
 induction h with
 |num a=>exact .num a
 |box a=>exact .box (hb _ _ a)
 |late a=>exact .late (hb _ _ a)
 |door a=>exact .door (he _ _ a)
 |over _ ho ih=>exact .over ih ho
theorem iL:∀k (ws:List (Str×Int)) (z:Str) (n:Int),(ws.take k).lookup z=some n->ws.lookup z=some n
 |0,_,_,_,h=>by rw[O1]at h;cases h
 |k+1,[],_,_,h=>by cases h
 |k+1,(y,a)::ws,z,n,h=>by
  rw[List.take_succ_cons,BH]at h;rw[BH];cases e:z == y with
  |true=>rw[e]at h;exact h
  |false=>rw[e]at h;exact iL k ws z n h
theorem Zej:Od T T.x89 6 Zea:=by
 refine Cz.p4 T.x89.d.F ["script", "mods", "most_doors", "most_rules", "head", "sizes", "firsts", "naming", "boxes", "k", "width", "doors", "rules", "many", "number", "guard", "writes"] λx1 x2 x3 x4 M Q hr nN h=>?_;obtain⟨ns,ms,e1',e2',⟨md,e3',md0,md2⟩,e4',⟨m5,hms⟩,q⟩:_:=h;refine⟨_,(qC (CA 4 nN (BB G6 (Aw T.x83.d (UA T) nofun (qA (qv 0) (qA Ak qN))) (BB RZ Ak Ak))) (qC (CA 5 nN (BB G6 (Aw T.x83.d (UA T) nofun (qA (qv 0) (qA Ak qN))) (BB RZ Ak Ak))) (qC (CA 6 nN (BB G6 (Aw T.x83.d (UA T) nofun (qA (qv 0) (qA Ak qN))) (BB RZ Ak Ak))) (Fa (CA 7 nN (BB G6 (Aw T.x83.d (UA T) nofun (qA (qv 0) (qA Ak qN))) (BB RZ Ak Ak))) (qC (CA 8 nN (IZ qN)) (Fa (MM AQ rfl (aH T.B.range (qA (BB Hl Ak (BB G6 (qv 4) Ak)) qN)) (Qy (i:=9) nN rfl (Cd rfl)) (qC (CA 10 nN (BB Hl Ak (BB G6 (qv 5) (Bl BJ (qv 1) (qv 9))))) (qC (EZ (Kc AN Bg Bf QB (qv 8) (qA (CC (qA (Aw T.x85.d (jZ T) nofun (qA (qv 7) (qA (qv 9) qN))) (qA (qv 10) (qA (BB G6 (qv 6) (BB Vr Ak (qv 10))) qN)))) qN))) (qC (CA 5 nN (BB Kq (qv 5) Ak)) (qO (CA 6 nN (BB Kq (qv 6) Ak))))))) (Ut 8 (qC (CA 11 nN (IZ qN)) (Fa (MM AQ rfl (aH T.B.range (qA (BB G6 (BB Kq (qv 4) Ak) (BB Hl (qv 2) Ak)) qN)) (Qy (i:=9) nN rfl (Cd rfl)) (qC (EZ (Kc AN Bg Bf QB (qv 11) (qA (CC (qA (Aw T.x85.d (jZ T) nofun (qA (qv 7) (qA (BB Hl Ak (qv 9)) qN))) (qA (BB Hl Ak (BB G6 (qv 5) (Bl BJ (qv 1) (BB Hl Ak (qv 9))))) qN))) qN))) (qO (CA 5 nN (BB Kq (qv 5) Ak))))) (Ut 11 (qC (CA 12 nN (IZ qN)) (Fa (CA 13 nN (BB Hl Ak (BB G6 (BB Kq (qv 4) Ak) (qv 3)))) (Fa (MM AQ rfl (aH T.B.range (qA (qv 13) qN)) (Qy (i:=9) nN rfl (Cd rfl)) (Fa (CA 14 nN (BB G6 (Aw T.x83.d (UA T) nofun (qA (qv 0) (qA (BB Hl Ak (BB Ue Ak (qv 9))) qN))) (BB RZ Ak Ak))) (Fa (CA 15 nN (Aw T.x87.d (qg T) nofun (qA (qv 14) (qA Ak (qA (Bl Hn (HC (XZ (.int (.int (.int (.int .nil)))))) (BB Mo (qv 13) Ak)) (qA (Jp Yi (qv 8) Yd (Us Ak)) (qA (Jp Yi (qv 11) Yd (Us Ak)) qN))))))) (Fa (CA 16 nN (Aw T.x88.d (Zei T) nofun (qA (BB G6 (Aw T.x83.d (UA T) nofun (qA (qv 0) (qA (BB Hl Ak (BB Ue Ak (qv 9))) qN))) (BB RZ Ak Ak)) (qA (qv 8) (qA (qv 11) qN))))) (qO (EZ (Kc AN Bg Bf QB (qv 12) (qA (CC (qA (Aw T.x85.d (jZ T) nofun (qA (qv 7) (qA (BB Hl Ak (qv 9)) qN))) (qA (qv 15) (qA (qv 16) qN)))) qN)))))))) (Ut 12 (qO (Cr (CC (qA (qv 8) (qA (qv 11) (qA (qv 12) qN)))))))))))))))))))),?_⟩;right;intro z0;refine⟨⟨by decide,by decide,by decide⟩,λz1=>⟨⟨by decide,by decide,by decide⟩,λz2=>⟨⟨by decide,by decide,by decide⟩,?_⟩⟩⟩;obtain⟨hd,ehd,hd0⟩:∃hd:Int,hd=z0%1000000/\0<=hd:=⟨_,rfl,by ext⟩;obtain⟨sz,esz,sz0⟩:∃sz:Int,sz=z1%1000000000000/\0<=sz:=⟨_,rfl,by ext⟩;obtain⟨fr,efr,fr0⟩:∃fr:Int,fr=z2%10000000000000000000000000000000000000000/\0<=fr:=⟨_,rfl,by ext⟩;rw[<- ehd,<- esz,<- efr];refine⟨λτ M'=>M'=M/\∃nm:Int,(0<=nm/\nm<10^9)/\τ=[some (.lst (ns.map D.int)),some (.tup (ms.map D.int)),some (.int md),some (.int 4),some (.int hd),some (.int sz),some (.int fr),some (.int nm),none,none,none,none,none,none,none,none,none],?_,?_⟩
 .grind;exact λz=>⟨⟨by decide,by decide,by decide⟩,_,⟨by ext,by ext⟩,rfl⟩
 intro τ M1;ext1⟨e1',nm,nb,e2'⟩;grind;intro p hp;refine⟨λτ M'=>∃(bs:List (Str×Int×Int)) (sz fr:Int) (v9 v10:Option D),M'=put M1 p (.lst (bs.map EU))/\0<=sz/\(1<=bs.length/\bs.length<=3)/\lB ms nm bs/\τ=[some (.lst (ns.map D.int)),some (.tup (ms.map D.int)),some (.int md),some (.int 4),some (.int hd),some (.int sz),some (.int fr),some (.int nm),some (.ref p),v9,v10,none,none,none,none,none,none],?_,?_⟩
 .grind;refine⟨by ext,λk τ M'=>∃(bs:List (Str×Int×Int)) (sz fr:Int) (v9 v10:Option D),M'=put M1 p (.lst (bs.map EU))/\0<=sz/\0<=fr/\bs.length=k/\lB ms nm bs/\τ=[some (.lst (ns.map D.int)),some (.tup (ms.map D.int)),some (.int md),some (.int 4),some (.int hd),some (.int sz),some (.int fr),some (.int nm),some (.ref p),v9,v10,none,none,none,none,none,none],⟨[],sz,fr,none,none,rfl,sz0,fr0,rfl,(λi b m h=>by simp at h),rfl⟩,λ_ _ _ _=>trivial,?_,?_⟩
  .intro k d τ M' hd';ext1⟨bs,sz,fr,v9,v10,e1',sz0,fr0,hl,hb,e2'⟩;obtain⟨hk,rfl⟩:=Yh hd';have hk3:k<3:=by ext
   obtain⟨mk,hmk⟩:∃mk,ms[k]? = some mk:=⟨_,Af (by ext)⟩;obtain⟨mE,mk64⟩:=hms mk (AE hmk);grind;rw[Wi,Ot (show(ms.map D.int)[k]? = some (.int mk) by rw[AJ,hmk];rfl),B3];grind;have w0:=Cc sz (by omega:mk≠0);have w1:=BM sz (by omega:0<mk);have hp0:=SQ (1+sz%mk).toNat
   refine⟨by ext,⟨nb.1,nb.2,by ext,by ext⟩,λz hz=>⟨⟨by ext,by ext,by decide⟩,by ext,B5 (by ext),⟨by decide,by decide⟩,⟨by decide,by decide⟩,bs++[(z,1+sz%mk,fr%(1*2^(1+sz%mk).toNat))],_,_,_,_,by rw[AM];rfl,by ext,by ext,by rw[As,hl];rfl,λi b m hi hm=>?_,rfl⟩⟩;rcases JJ i bs.length with h|h|h
   .rw[CZ h]at hi;exact hb i b m hi hm
   .subst h;rw[Cg (AH _)]at hi;simp at hi;rw[<- hl]at hmk hz;rw[hmk]at hm;cases hm;rw[<- hi]
    exact ⟨hz,⟨by show 1<=1+sz%mk;ext,by show 1+sz%mk<=mk;ext,by ext⟩,Cc _ (by ext),by
     exact BM _ hp0⟩
   .rw[Bv (by simp;ext)]at hi;cases hi
  .intro τ M';ext1⟨bs,sz,fr,v9,v10,e1',sz0,fr0,hl,hb,e2'⟩;rw[VF]at hl;exact⟨bs,sz,fr,v9,v10,rfl,sz0,⟨by ext,by ext⟩,hb,rfl⟩
 intro τ M2;ext1⟨bs,sz,fr,v9,v10,e1',sz0,⟨b1,b3⟩,hb,e2'⟩;rw[ZL rfl Dq,Tc hp];simp only[BR,Ci];grind;intro p hp;refine⟨λτ M'=>∃(es:List (Str×Int)) (sz:Int) (v9:Option D),M'=put M1 p (.lst (es.map GJ))/\es.length<=2/\kY ms nm es/\τ=[some (.lst (ns.map D.int)),some (.tup (ms.map D.int)),some (.int md),some (.int 4),some (.int hd),some (.int sz),some (.int fr),some (.int nm),some (.lst (bs.map EU)),v9,v10,some (.ref p),none,none,none,none,none],?_,?_⟩
 .grind;have q0:=Cc (hd / 3) (by omega:md+1≠0);have q1:=BM (hd / 3) (by omega:0<md+1);refine⟨⟨by decide,by decide⟩,by ext,⟨by ext,by ext⟩,λk τ M'=>∃(es:List (Str×Int)) (sz:Int) (v9:Option D),M'=put M1 p (.lst (es.map GJ))/\0<=sz/\es.length=k/\kY ms nm es/\τ=[some (.lst (ns.map D.int)),some (.tup (ms.map D.int)),some (.int md),some (.int 4),some (.int hd),some (.int sz),some (.int fr),some (.int nm),some (.lst (bs.map EU)),v9,v10,some (.ref p),none,none,none,none,none],⟨[],sz,v9,rfl,sz0,rfl,(λi b m h=>by simp at h),rfl⟩,λ_ _ _ _=>trivial,?_,?_⟩
  .intro k d τ M' hd';ext1⟨es,sz,v9,e1',sz0,hl,he,e2'⟩;obtain⟨hk,rfl⟩:=Yh hd';have hk2:k<2:=by ext
   obtain⟨mk,hmk⟩:∃mk,ms[3+k]? = some mk:=⟨_,Af (by ext)⟩;obtain⟨mE,mk64⟩:=hms mk (AE hmk);grind;rw[show(3:Int)+(0+(k:Int))=((3+k:Nat):Int) by ext,Ot (show(ms.map D.int)[3+k]? = some (.int mk) by rw[AJ,hmk];rfl)];simp only[B3];grind;have w0:=Cc sz (by omega:mk≠0);have w1:=BM sz (by omega:0<mk);refine⟨⟨nb.1,nb.2,by ext,by ext⟩,λz hz=>⟨by ext,B5 (by ext),⟨by decide,by decide⟩,es++[(z,1+sz%mk)],_,_,by rw[AM];rfl,by ext,by rw[As,hl];rfl,λi b m hi hm=>?_,rfl⟩⟩;rcases JJ i es.length with h|h|h
   .rw[CZ h]at hi;exact he i b m hi hm
   .subst h;rw[Cg (AH _)]at hi;simp at hi;rw[<- hl]at hmk hz;rw[hmk]at hm;cases hm;rw[<- hi];exact⟨by rw[show(3:Int)+(es.length:Int)=((3+es.length:Nat):Int) by ext];exact hz,by show 1<=1+sz%mk;ext,by show 1+sz%mk<=mk;ext,by ext⟩
   .rw[Bv (by simp;ext)]at hi;cases hi
  .intro τ M';ext1⟨es,sz,v9,e1',sz0,hl,he,e2'⟩;rw[VF]at hl;exact⟨es,sz,v9,rfl,by ext,he,rfl⟩
 intro τ M3;ext1⟨es,sz,v9,e1',e2,he,e2'⟩;rw[ZL rfl Dq,Tc hp];simp only[BR,Ci];grind;intro p hp;have sp:=zY m5 hb he b3 e2;have sp2:=sp.take 2 1;have bne:bs≠[]:=λe=>by rw[e]at b1;cases b1
 have bne2:bs.take 2≠[]:=λe=>by
  have:=congrArg Ej e;rw[A6,EB]at this;ext
 refine⟨λτ M'=>M'=put M1 p (.lst [])/\∃mn:Int,(1<=mn/\mn<=4)/\τ=[some (.lst (ns.map D.int)),some (.tup (ms.map D.int)),some (.int md),some (.int 4),some (.int hd),some (.int sz),some (.int fr),some (.int nm),some (.lst (bs.map EU)),v9,v10,some (.lst (es.map GJ)),some (.ref p),some (.int mn),none,none,none],?_,?_⟩
 .grind;exact⟨⟨by decide,by decide⟩,_,⟨by ext,by ext⟩,rfl⟩
 intro τ M4;ext1⟨e1',mn,⟨mn1,mn4⟩,e2'⟩;refine⟨λτ M'=>∃(rs:List (Str×Tm×List (Str×Tm))) (v9 v14 v15 v16:Option D),M'=put M1 p (.lst (rs.map Mg))/\rs.length<=4/\wY bs es nm rs/\τ=[some (.lst (ns.map D.int)),some (.tup (ms.map D.int)),some (.int md),some (.int 4),some (.int hd),some (.int sz),some (.int fr),some (.int nm),some (.lst (bs.map EU)),v9,v10,some (.lst (es.map GJ)),some (.ref p),some (.int mn),v14,v15,v16],?_,?_⟩
 .grind;refine⟨by ext,λk τ M'=>∃(rs:List (Str×Tm×List (Str×Tm))) (v9 v14 v15 v16:Option D),M'=put M1 p (.lst (rs.map Mg))/\rs.length=k/\wY bs es nm rs/\τ=[some (.lst (ns.map D.int)),some (.tup (ms.map D.int)),some (.int md),some (.int 4),some (.int hd),some (.int sz),some (.int fr),some (.int nm),some (.lst (bs.map EU)),v9,v10,some (.lst (es.map GJ)),some (.ref p),some (.int mn),v14,v15,v16],⟨[],v9,none,none,none,rfl,rfl,(λi r h=>by simp at h),rfl⟩,λ_ _ _ _=>trivial,?_,?_⟩
  .intro k d τ M' hd';ext1⟨rs,v9,v14,v15,v16,e1',hl,hrs,e2'⟩;obtain⟨hk,rfl⟩:=Yh hd';have hk4:k<4:=by ext
   refine⟨λτ M'=>M'=put M1 p (.lst (rs.map Mg))/\∃nu:Int,0<=nu/\τ=[some (.lst (ns.map D.int)),some (.tup (ms.map D.int)),some (.int md),some (.int 4),some (.int hd),some (.int sz),some (.int fr),some (.int nm),some (.lst (bs.map EU)),some (.int (0+(k:Int))),v10,some (.lst (es.map GJ)),some (.ref p),some (.int mn),some (.int nu),v15,v16],?_,?_⟩
   .grind;exact⟨Yj (by decide) (by ext),by ext,λz=>⟨⟨by decide,by decide,by decide⟩,_,by ext,rfl⟩⟩
   intro τ M5;ext1⟨e1',nu,nu0,e2'⟩;refine⟨λτ M'=>M'=put M1 p (.lst (rs.map Mg))/\∃t:Tm,Pt (bs.take 2) (es.take 1) 1 2 t/\τ=[some (.lst (ns.map D.int)),some (.tup (ms.map D.int)),some (.int md),some (.int 4),some (.int hd),some (.int sz),some (.int fr),some (.int nm),some (.lst (bs.map EU)),some (.int (0+(k:Int))),v10,some (.lst (es.map GJ)),some (.ref p),some (.int mn),some (.int nu),some t.D,v16],?_,?_⟩
   .grind
    obtain⟨dp,hdp,dp2⟩:∃dp:Nat,FC [D.int 2,D.int 2,D.int 2,D.int 1] (mn-1)=some (.int dp)/\dp<=2:=by
     rcases(by omega:mn=1\/mn=2\/mn=3\/mn=4)with h|h|h|h<;>rw[h]
     .exact⟨2,rfl,by decide⟩
     .exact⟨2,rfl,by decide⟩
     .exact⟨2,rfl,by decide⟩
     .exact⟨1,rfl,by decide⟩
    rw[hdp,B3];exact⟨dp,rfl,dp2,bs.take 2,es.take 1,by rw[L3.cutD_toI _ (by decide),<- KG];rfl,by rw[L3.cutD_toI _ (by decide),<- KG];rfl,sp2,bne2,nu0,λt ht=>⟨t,ht,rfl⟩⟩
   intro τ M6;ext1⟨e1',t,ht,e2'⟩;refine⟨λτ M'=>M'=put M1 p (.lst (rs.map Mg))/\∃wr:List (Str×Tm),QC (OK bs) es t wr/\τ=[some (.lst (ns.map D.int)),some (.tup (ms.map D.int)),some (.int md),some (.int 4),some (.int hd),some (.int sz),some (.int fr),some (.int nm),some (.lst (bs.map EU)),some (.int (0+(k:Int))),v10,some (.lst (es.map GJ)),some (.ref p),some (.int mn),some (.int nu),some t.D,some (.lst (wr.map Ls))],?_,?_⟩
   .grind;refine⟨Yj (by decide) (by ext),by ext,λz=>⟨⟨by decide,by decide,by decide⟩,bs,es,rfl,rfl,sp,bne,by ext,λwr hwl hwn hwt=>⟨wr,⟨?_,by ext,λu hu=>?_,hwn⟩,rfl⟩⟩⟩
    .refine⟨⟨A7 ht.p (by decide),A7 ht.d (by decide)⟩,Wd.mono2 (λz n h=>?_) (λz n h=>iL _ _ z n h) ht.w⟩;refine iL 2 _ z n ?_;unfold OK at h ⊢;rw[<- KG];exact h
    .obtain⟨b,mb,e,hu'⟩:=hwt u hu;rw[e];exact⟨b.2.1,Yy (ws:=OK bs) (p:=(b.1,b.2.1)) (by unfold OK;rw[BI];exact sp.nb) (Ao.mpr ⟨b,mb,rfl⟩),⟨A7 hu'.p (by decide),A7 hu'.d (by decide)⟩,hu'.w⟩
   intro τ M7;ext1⟨e1',wr,hwr,e2'⟩;grind;refine⟨⟨nb.1,nb.2,by ext,by ext⟩,λz hz=>⟨B5 (by ext),rs++[(z,t,wr)],_,_,_,_,by rw[AM];rfl,by rw[As,hl];rfl,λi r hi=>?_,rfl⟩⟩;rcases JJ i rs.length with h|h|h
   .rw[CZ h]at hi;exact hrs i r hi
   .subst h;rw[Cg (AH _)]at hi;simp at hi;rw[<- hi];rw[Wi,<- hl]at hz;exact⟨hz,hwr⟩
   .rw[Bv (by simp;ext)]at hi;cases hi
  .intro τ M';ext1⟨rs,v9,v14,v15,v16,e1',hl,hrs,e2'⟩;rw[VF]at hl;exact⟨rs,v9,v14,v15,v16,rfl,by ext,hrs,rfl⟩
 intro τ M8;ext1⟨rs,v9,v14,v15,v16,e1',r4,hrs,e2'⟩;rw[ZL rfl Dq,Tc hp];simp only[BR,Ci];grind;have gb:∀(i:Nat) b,bs[i]? = some b->∃m,ms[i]? = some m:=λi b h=>⟨_,Af (by have:=(Ai.mp h).1;ext)⟩;have ge:∀(i:Nat) b,es[i]? = some b->∃m,ms[3+i]? = some m:=λi b h=>⟨_,Af (by have:=(Ai.mp h).1;ext)⟩;refine Dn.of (q ⟨bs,es,rs⟩ ⟨⟨⟨sp.b.1,λb mb=>?_⟩,sp.d,⟨by show rs.length<=8;ext,λr mr=>?_⟩,?_⟩,⟨b1,b3⟩,e2⟩)
 .obtain⟨i,hi⟩:=Bw.mp mb;obtain⟨m,hm⟩:=gb i b hi;obtain⟨h1,h2,h3,h4⟩:=hb i b m hi hm;exact⟨h1.ok,by ext,by ext,h3,h4⟩
 .obtain⟨i,hi⟩:=Bw.mp mr;obtain⟨h1,h2⟩:=hrs i r hi;exact⟨h1.ok,h2⟩
 .show(bs.map (·.1)++es.map (·.1)++rs.map (·.1)).Nodup
  have ix:∀x∈bs.map (·.1),∃i:Nat,i<3/\Kv nm i x:=λx hx=>by
   obtain⟨b,mb,rfl⟩:=Ao.mp hx;obtain⟨i,hi⟩:=Bw.mp mb;obtain⟨m,hm⟩:=gb i b hi;exact⟨i,by have:=(Ai.mp hi).1;ext,(hb i b m hi hm).1⟩
  have iy:∀x∈es.map (·.1),∃i:Nat,(3<=i/\i<5)/\Kv nm i x:=λx hx=>by
   obtain⟨b,mb,rfl⟩:=Ao.mp hx;obtain⟨i,hi⟩:=Bw.mp mb;obtain⟨m,hm⟩:=ge i b hi;exact⟨3+i,by have:=(Ai.mp hi).1;ext,by have:=(he i b m hi hm).1;rw[show((3+i:Nat):Int)=3+(i:Int) by ext];exact this⟩
  have iz:∀x∈rs.map (·.1),∃i:Nat,(5<=i/\i<9)/\Kv nm i x:=λx hx=>by
   obtain⟨r,mr,rfl⟩:=Ao.mp hx;obtain⟨i,hi⟩:=Bw.mp mr;exact⟨5+i,by have:=(Ai.mp hi).1;ext,by have:=(hrs i r hi).1;rw[show((5+i:Nat):Int)=5+(i:Int) by ext];exact this⟩
  rw[D4,D4];refine⟨⟨sp.nb,sp.nd,λx hx y hy e=>?_⟩,gF (α:=Str×Tm×List (Str×Tm)) (nm:=nm) (·.1) 5 (by ext) (λi r hi=>by have:=(hrs i r hi).1;rw[show((5+i:Nat):Int)=5+(i:Int) by ext];exact this),λx hx y hy e=>?_⟩
  .subst e;obtain⟨i,hi,h1⟩:=ix x hx;obtain⟨j,hj,h2⟩:=iy x hy;have:=Kv.inj h1 h2 (by ext) (by ext);ext
  .subst e;obtain⟨j,hj,h2⟩:=iz x hy;rcases AY.mp hx with hx|hx
   .obtain⟨i,hi,h1⟩:=ix x hx;have:=Kv.inj h1 h2 (by ext) (by ext);ext
   .obtain⟨i,hi,h1⟩:=iy x hx;have:=Kv.inj h1 h2 (by ext) (by ext);ext
theorem p6 (h:Bi M (.ref p)=some xs):Hj M (.ref p)=some xs:=h
theorem vj (ls:List Str)(j:Nat):(ls.eraseIdx j).map D.str=(ls.map D.str).eraseIdx j:=by
 induction ls generalizing j with
 |nil=>rfl
 |cons x r ih=>cases j with
  |zero=>rfl
  |succ j=>simp[ih]
abbrev Zff:Du:=λds M Q=>Fw ds λx y=>EQ x λn=>∃rs:List (Str×Tm×List (Str×Tm)),y=.lst (rs.map Mg)/\rs.length<=8/\0<=n/\∀zs:List Str,zs.Perm (rs.map (·.1))->Q (.lst (zs.map D.str)) M
theorem Υ:Od T T.x90 1 Zff:=by
 refine Cz.p2 T.x90.d.F ["number", "rules", "left", "order", "at"] λx y M Q hr nN h1=>?_;obtain⟨n,e1',rs,e2',hl,n0,q⟩:_:=CU h1;clear h1;refine⟨_,(qC (mf (caps:=[]) (i:=2) nN rfl rfl ⟨rfl,by rfl,by rfl,by rfl,rfl,by rfl,by nofun⟩ rfl (Kr (qv 1)) (λ_ _ _ _ _ _=>(Bl BJ (qv 0) Ak))) (qC (CA 3 nN (IZ qN)) (Fa (R9 AQ (AV (Vq (Js hr)) (qv 2) (HC qN)) (qC (CA 4 nN (BB G6 (qv 0) (B9 Ko T.B.len BZ (qA (qv 2) qN)))) (qC (CA 0 nN (BB Kq (qv 0) (B9 Ko T.B.len BZ (qA (qv 2) qN)))) (qO (EZ (Kc AN Bg Bf QB (qv 3) (qA (Kc AN LP LO f8 (qv 2) (qA (qv 4) qN)) qN))))))) (Ut 3 (qO (Cr (qv 3))))))),?_⟩;right;refine Eg.of (f:=λr=>D.str r.1) (GR (by ext)) trivial (λr hr R h=>?_) ?_
 .simp only[Mg];walk_at "cap";exact h
 intro p hp p1 hp1;have ne:p≠p1:=λe=>by rw[e,Dq]at hp1;cases hp1
 have hM1:M p1=none:=by rw[DK (Bj ne)]at hp1;exact hp1
 generalize D.lst (rs.map Mg)=Y;refine⟨λτ M'=>∃zs:List Str,(zs.Perm (rs.map (·.1))/\Sub M M'/\M' p1=some (.lst (zs.map D.str)))/\∃a b,τ=[a,some Y,some (.ref p),some (.ref p1),b],?_,?_⟩
 .refine⟨λk τ M'=>∃(n:Int) (ls os:List Str),(0<=n/\ls.length=k/\(os++ls).Perm (rs.map (·.1))/\Sub M M'/\M' p=some (.lst (ls.map D.str))/\M' p1=some (.lst (os.map D.str)))/\∃b,τ=[some (.int n),some Y,some (.ref p),some (.ref p1),b],⟨_,n,rs.map (·.1),[],⟨n0,rfl,by rw[FE],(Sub.put hp).puts hM1,by rw[DK ne,Dq,BI];rfl,Dq⟩,none,rfl⟩,?_⟩;intro k τ M' hI';refine An λG' kk'=>?_;obtain⟨n,ls,os,⟨n0,lk,pm,sb,h1,h2⟩,b,e1'⟩:=hI';refine kk' ?_;clear kk';subst e1';have ll:=pm.length_eq;rw[As,Ab]at ll;grind;rw[fM h1,B3];refine Cy (λc=>?_) λc=>?_
  .have lp:0<ls.length:=by
    cases ls with
    |nil=>cases c
    |cons x r=>exact MS _
   have b0:=Cc n (show(ls.length:Int)≠0 by ext);have b1:=BM n (show(0:Int)<ls.length by ext);obtain⟨j,hj⟩:=Int.eq_ofNat_of_zero_le b0;have jl:j<ls.length:=by ext
   rw[p6 (fM h1),B3,B3,h1,jy,Ab,hj];refine⟨by ext,⟨by ext,by ext⟩,IT h2,IT h1,j,.str ls[j],rfl,by ext,by rw[AJ,Af jl];rfl,?_⟩;rw[X4 (by rw[DK (Bj ne)];exact h2)];refine⟨B5 (by rw[Ab];ext),ls.length-1,by ext,n / ls.length,ls.eraseIdx j,os++[ls[j]],⟨Sm n0 (by ext),by rw[Gd jl],?_,(sb.puts hp).puts hM1,by rw[DK ne,Dq,<- vj],by rw[Dq,AM];rfl⟩,_,rfl⟩;rw[Bq];exact((Kd ls j jl).append_left os).trans pm
  .have e:ls=[]:=by
    cases ls with
    |nil=>rfl
    |cons x r=>exact absurd rfl c
   subst e;rw[CT]at pm;exact⟨os,⟨pm,sb,h2⟩,_,_,rfl⟩
 intro τ M';ext1⟨zs,⟨pm,sb,hz⟩,a,b,e1'⟩;rw[hV (p:=p1) rfl hz];simp only[BR,Ci];grind;refine Qs (λx o e=>?_) (q zs pm);have nx:x≠p1:=λc=>by rw[c,hM1]at e;cases e
 rw[IA nx];exact sb x o e
theorem S9:Fb ["script", "boxes", "doors", "rules", "works", "row", "order", "found"] ["script"] (IJ (Dh 111)):=(⟨rfl,rfl,rfl,by nofun,rfl,by nofun,by nofun⟩)
theorem pP {kvs:List (Str×List Str)}:∀(f:Nat) (c:List Str),c.Nodup->(∀z∈c,z∈kvs.map (·.1))->kvs.length<f+c.length->Qk kvs (T9 kvs f c)=[]
 |0,c,nd,hs,hl=>by
  have:=Rc c _ nd hs;rw[Ab]at this;ext
 |f+1,c,nd,hs,hl=>by
  rw[T9];cases ef:Qk kvs c with
  |nil=>rw[show([]:List Str).isEmpty=true from rfl,if_pos rfl];exact ef
  |cons z l=>
   rw[show(z::l).isEmpty=false from rfl,if_neg Aj];have mz:z∈Qk kvs c:=by rw[ef];exact AG
   obtain⟨kv,hkv,ez⟩:=Ao.mp mz;obtain⟨h1,h2⟩:=AX.mp hkv;unfold T7 at h2;rw[Bo,decide_eq_true_eq,ez]at h2;refine pP f _ ?_ (λx hx=>?_) (by rw[As,Dg];ext)
   .rw[D4];refine⟨nd,by simp,λa ha b hb e=>h2.1 ?_⟩;have:b=z:=AO.mp hb;rw[this]at e;exact e ▸ ha
   .rcases AY.mp hx with hx|hx
    .exact hs x hx
    .rw[AO.mp hx,show((z::l).headD "")=z from rfl,<- ez];exact Fj h1
theorem ag {kvs:List (Str×List Str)}{zs:List Str}(hk:∀kv∈kvs,∀z∈kv.2,z∈kvs.map (·.1)/\zs.idxOf z<zs.idxOf kv.1):∀kv∈kvs,kv.1∈OS kvs:=by
 have dn:Qk kvs (OS kvs)=[]:=pP _ [] HU (λz h=>absurd h AR) (by rw[EB];ext)
 have go:∀(m:Nat) kv,kv∈kvs->zs.idxOf kv.1=m->kv.1∈OS kvs:=λm=>by
  induction m using Nat.strongRecOn with
  |_ m ih=>
   intro kv hkv e;refine FJ λno=>?_;have:kv.1∈Qk kvs (OS kvs):=Ao.mpr ⟨kv,AX.mpr ⟨hkv,?_⟩,rfl⟩
   .rw[dn]at this;exact absurd this AR
   .unfold T7;rw[Bo,decide_eq_true_eq,Ck];refine⟨no,λz hz=>?_⟩;obtain⟨h1,h2⟩:=hk kv hkv z hz;obtain⟨kv',hkv',rfl⟩:=Ao.mp h1;exact decide_eq_true (ih _ (by ext) kv' hkv' rfl)
 exact λkv hkv=>go _ kv hkv rfl
theorem sj {zs:List Str}{o:Str}{k:Nat}(h:o∈zs.take k):zs.idxOf o<k:=by
 have h1:=FY h;rw[A6]at h1
 have e:zs.idxOf o=(zs.take k).idxOf o:=by
  conv=>lhs;rw[<- HH k zs]
  rw[List.idxOf_append,if_pos h]
 ext
theorem oY {wk:Wk}{zs:List Str}(h:∀n∈wk.nms,∀o,NG wk zs (C5 wk zs) n o=true->o∈Ud zs n):HN wk zs:=λn hn=>by
 refine ag (kvs:=MJ wk zs (C5 wk zs)) (zs:=zs) (λkv hkv z hz=>?_) (n,_) (Ao.mpr ⟨n,hn,rfl⟩);obtain⟨m,hm,rfl⟩:=Ao.mp hkv;obtain⟨h1,h2⟩:=AX.mp (show z∈wk.nms.filter (NG wk zs (C5 wk zs) m)from hz);refine⟨?_,sj (h m hm z h2)⟩;unfold MJ;rw[BI];exact Ao.mpr ⟨z,h1,rfl⟩
theorem jf (wk:Wk):HN wk wk.nms:=oY λn hn o h=>by
 unfold NG at h;rw[GY,Bo,decide_eq_true_eq,decide_eq_true_eq]at h;rcases h with h|h
 .exact h.1
 .exact(AX.mp h).1
theorem ra {wk:Wk}{zs:List Str}(h:C5 wk zs=[]):HN wk zs:=oY λn hn o ho=>by
 rw[h]at ho;unfold NG at ho;rw[GY,Bo,decide_eq_true_eq,decide_eq_true_eq]at ho;rcases ho with ho|ho
 .exact ho.1
 .exact absurd (of_decide_eq_true (AX.mp ho).2) (by simp)
theorem gj:Od T T.x91 50 spLaw2:=by
 refine Cz.ok2 T.x91.d.F S9 (λds M Q h=>?_) (λcdv A outer s H E ds M Q hr h=>?_)
 .obtain⟨ns,rfl,_⟩:=h;rfl
 obtain⟨ns,rfl,h63,q⟩:=h;refine⟨_,(Fa (fq (Aw T.x89.d (Zej T) nofun (qA (qv 0) (qA (CC (XZ (.int (.int (.int (.int (.int .nil))))))) (qA Ak (qA Ak qN))))) (Vz (is:=[1,2,3]) rfl (Mq (LD (i:=1) S9.nd rfl (Cd rfl)) (Mq (LD (i:=2) S9.nd rfl (Cd rfl)) (Mq (LD (i:=3) S9.nd rfl (Cd rfl)) Ur))))) (Fa (CA 4 S9.nd (Aw T.x35.d (nv T) nofun (qA (CB Ta T.B.list GO (qA (qv 1) qN)) (qA (CB Ta T.B.list GO (qA (qv 2) qN)) (qA (CB Ta T.B.list GO (qA (qv 3) qN)) qN))))) (Fa (sO (caps:=[]) (i:=5) S9.nd rfl rfl ⟨rfl,by rfl,by rfl,by rfl,rfl,by rfl,by nofun⟩ rfl (Kr (qv 3)) (λ_ _ _ _ _ _=>(Bl BJ (qv 0) Ak))) (Fa (Ep ((Vs (AV (Vq (Js hr)) (Aw T.x79.d (rB T) nofun (qA (qv 4) (qA (CB Ta T.B.list GO (qA (qv 5) qN)) qN))) (HC qN)) (X9 (AV (Vq (Js hr)) (Bl BJ (Aw T.x82.d (rA T) nofun (qA (qv 4) (qA (CB Ta T.B.list GO (qA (qv 5) qN)) qN))) Ak) (CB Rb T.B.tuple EE (qA (qv 5) qN)))))).pt (qO (Cr SO)) qE) (Fa (CA 6 S9.nd (Aw T.x90.d (Υ T) nofun (qA (BB G6 (Aw T.x83.d (UA T) nofun (qA (qv 0) (qA Ak qN))) (BB RZ Ak Ak)) (qA (qv 3) qN)))) (Fa (Ep (AV (Vq (Js hr)) (Aw T.x68.d (kH T) nofun (qA (qv 4) (qA (CB Ta T.B.list GO (qA (qv 6) qN)) qN))) (HC qN)) (qO (Cr SO)) qE) (Fa (CA 7 S9.nd (Aw T.x82.d (rA T) nofun (qA (qv 4) (qA (CB Ta T.B.list GO (qA (qv 6) qN)) qN)))) (qO (Cr (Qa (JN (X2 (Js hr)) (Aw T.x79.d (rB T) nofun (qA (qv 4) (qA (CB Ta T.B.list GO (qA (qv 6) qN)) qN))) (HC qN)) (Qa (JN (X2 (Js hr)) (Bl BJ (qv 7) Ak) (CB Rb T.B.tuple EE (qA (qv 6) qN))) (OO (JN (X2 (Js hr)) (Bl BJ (qv 7) Ak) (CC qN)))))))))))))),?_⟩
 (try simp only[Md,Mb,Mc])
 refine⟨λτ M'=>∃wk:Wk,wk.Ok/\τ=[some (.lst (ns.map D.int)),some (.lst (wk.bs.map EU)),some (.lst (wk.ds.map GJ)),some (.lst (wk.rs.map Mg)),none,none,none,none],?_,?_⟩
 .grind;refine⟨ns,[3,3,64,3,64],rfl,rfl,⟨2,rfl,by decide,by decide⟩,⟨rfl,by decide⟩,λwk wx=>⟨wk,wx.ok,rfl⟩⟩
 rintro τ M1 ⟨wk,ok,rfl⟩;have l8:=ok.r.1;refine⟨λτ M'=>τ=[some (.lst (ns.map D.int)),some (.lst (wk.bs.map EU)),some (.lst (wk.ds.map GJ)),some (.lst (wk.rs.map Mg)),some wk.D,none,none,none],?_,?_⟩
 .grind;refine⟨wk,_,ok,rfl,rfl,rfl,by rw[Ab],λi x r hx hr=>?_,rfl⟩;rw[AJ,hr]at hx;cases hx;exact⟨_,rfl,rfl⟩
 rintro τ M2 rfl;refine⟨λτ M'=>τ=[some (.lst (ns.map D.int)),some (.lst (wk.bs.map EU)),some (.lst (wk.ds.map GJ)),some (.lst (wk.rs.map Mg)),some wk.D,some (.lst (wk.nms.map D.str)),none,none],?_,?_⟩
 .grind;refine Eg.of (f:=λr=>D.str r.1) (GR (by ext)) trivial (λr hr R h=>?_) ?_
  .simp only[Mg];walk_at "cap";exact h
  .rw[ZA]
 rintro τ M3 rfl;have ar:=jf wk;refine⟨λτ M'=>τ=[some (.lst (ns.map D.int)),some (.lst (wk.bs.map EU)),some (.lst (wk.ds.map GJ)),some (.lst (wk.rs.map Mg)),some wk.D,some (.lst (wk.nms.map D.str)),none,none],?_,?_⟩
 .grind;refine⟨wk,wk.nms,rfl,rfl,ok,C1 _,ar,?_⟩
  (try grind)
  refine⟨wk,wk.nms,rfl,rfl,ok,C1 _,ar,?_⟩;unfold Oj;grind;rw[iZ,B3,if_neg QV];trivial
 rintro τ M4 rfl;refine⟨λτ M'=>∃zs:List Str,zs.Perm wk.nms/\τ=[some (.lst (ns.map D.int)),some (.lst (wk.bs.map EU)),some (.lst (wk.ds.map GJ)),some (.lst (wk.rs.map Mg)),some wk.D,some (.lst (wk.nms.map D.str)),some (.lst (zs.map D.str)),none],?_,?_⟩
 .grind;exact λz=>⟨⟨by decide,by decide,by decide⟩,wk.rs,rfl,l8,by ext,λzs pm=>⟨zs,pm,rfl⟩⟩
 rintro τ M5 ⟨zs,pm,rfl⟩;refine⟨λτ M'=>C5 wk zs=[]/\τ=[some (.lst (ns.map D.int)),some (.lst (wk.bs.map EU)),some (.lst (wk.ds.map GJ)),some (.lst (wk.rs.map Mg)),some wk.D,some (.lst (wk.nms.map D.str)),some (.lst (zs.map D.str)),none],?_,?_⟩
 .grind;refine⟨wk,zs,rfl,rfl,ok,pm,?_⟩
  (try grind)
  refine Cy (λ_=>Dn.of (q _)) λc=>?_;cases e:C5 wk zs with
  |nil=>rfl
  |cons a l=>rw[e]at c;exact absurd rfl c
 rintro τ M6 ⟨pz,rfl⟩;have ac:=ra pz;refine⟨λτ M'=>τ=[some (.lst (ns.map D.int)),some (.lst (wk.bs.map EU)),some (.lst (wk.ds.map GJ)),some (.lst (wk.rs.map Mg)),some wk.D,some (.lst (wk.nms.map D.str)),some (.lst (zs.map D.str)),some (Oj wk zs)],?_,?_⟩
 .grind;exact⟨wk,zs,rfl,rfl,ok,pm,ac,rfl⟩
 rintro τ M7 rfl;unfold Oj;rw[pz];grind;refine⟨wk,zs,rfl,rfl,ok,pm,ac,?_⟩
 (try grind)
 rw[iZ,B3,if_pos rfl];exact Dn.of (q _)
end
end My
namespace My
open PySem PySem.W PyProof.Rows
open L2 (RS NM IJ DY)
noncomputable abbrev T3:Ah:=.str "beatwright.words" 351
noncomputable abbrev NI:Ah:=.str "beatwright.terms" 399
noncomputable abbrev MK:Ah:=.str "beatwright.dims" 567
noncomputable abbrev Pp:Ah:=.str "beatwright.works" 698
noncomputable abbrev Lb:Ah:=.str "beatwright.papers" 805
noncomputable abbrev Vl:Ah:=.str "beatwright.clashes" 984
noncomputable abbrev T2:Ah:=.str "beatwright.orders" 1029
noncomputable abbrev Q6:Ah:=.str "beatwright.plans" 1074
noncomputable abbrev Qh:Ah:=.str "law_beatwright_k45_orders_that_are_let_by" 1150
def S3 (s:DE):Str:=match s with
 |.FunctionDef n _ _ _ _ _ _ _ _ _=>n
 |.ClassDef n _ _ _ _ _ _ _ _ _ _=>n
 |.Assign [.Name n _] _ _=>n
 |_=>""
def mG (s:DE):Nat:=match s with
 |.FunctionDef _ _ _ _ _ _ _ _ _ p=>p.line
 |_=>0
noncomputable abbrev kE (P:J0)(n:Str)(t:Nat)(v:Ah):GQ:=⟨PyData.keyHash P n,.str n t,v⟩
noncomputable abbrev kR (P:J0)(n:Str)(t b:Nat):GQ:=kE P n t (.ref b)
abbrev fk (u:Nat):Nat:=bif u == 3 then 3 else 5
noncomputable abbrev fF (n q:Str)(s:DE)(m:Ah)(c:Nat):DG:=fnOf n q (RS s) (NM s) (IJ s) .none .none .none m none (.ref c) .none
noncomputable abbrev fO (n q:Str)(s:DE)(m:Ah)(c:Nat):Obj:=⟨.type "function",none,.func (fF n q s m c),#[]⟩
noncomputable abbrev cO (n q:Str)(s:DE)(u b t:Nat):Obj:=⟨.type "code",none,.fields #[.str n t,.str q (t+1),.str "/claim/cut.py" (t+2),.int (mG s) 0,.int (RS s).args.length 0,.int 0 0,.int 0 0,.int 3 0,.ref b,.bool true,.int 181 0,.ref (b+1),.none,bif u == 3 then .none else .ref (b+2),bif u == 3 then .none else .ref (b+3),.ref (bif u == 3 then b+2 else b+4),.int (t+u:Nat) 0,.int (mG s) 0,.str "/claim/cut.py" (t+u+1)],#[]⟩
def fR (m:Ah):List Nat->Nat->Nat->Nat->Tw->Tw
 |[],_,_,_,l=>l
 |u::us,i,b,t,l=>(b+fk u,cO (S3 (Dh i)) (S3 (Dh i)) (Dh i) u b t)::(b+fk u+1,fO (S3 (Dh i)) (S3 (Dh i)) (Dh i) m (b+fk u))::fR m us (i+1) (b+fk u+2) (t+u+3) l
def fA:List Nat->Nat->List Nat->List Nat
 |[],_,l=>l
 |u::us,b,l=>(b+fk u)::(b+fk u+1)::fA us (b+fk u+2) l
def fD (P:J0):List Nat->Nat->Nat->Nat->List GQ->List GQ
 |[],_,_,_,l=>l
 |u::us,i,b,t,l=>kR P (S3 (Dh i)) (t+u+2) (b+fk u+1)::fD P us (i+1) (b+fk u+2) (t+u+3) l
def mR (m:Ah)(k:Nat):List Nat->List Str->Nat->Nat->Nat->Tw->Tw
 |u::us,q::qs,j,b,t,l=>(b+fk u,cO (S3 (tm k j)) q (tm k j) u b t)::(b+fk u+1,fO (S3 (tm k j)) q (tm k j) m (b+fk u))::mR m k us qs (j+1) (b+fk u+2) (t+u+3) l
 |_,_,_,_,_,l=>l
abbrev dN:List Nat:=[4,5,4,5,5,3]
abbrev dM:List Nat:=[4,8,7,3,5,5,6,6,4,5,6,5,7,3]
abbrev dJ:List Nat:=[3,4,9,3,6,6,4,6,4,11,5,6,6,5,6]
abbrev dI:List Nat:=[3,6,3,5,5,9,8,11,6,3,3]
abbrev dH:List Nat:=[10,5,5,3]
abbrev lX:List Nat:=[8,5,4,5,9,7,8,4,5,6,4,3]
abbrev dG:List Nat:=[10]
abbrev dF:List Nat:=[3,5,5,7,8]
abbrev dE:List Nat:=[3,5,3,6,3,5]
abbrev dC:List Nat:=[5,3,13,3,3,5,3,5,7]
abbrev TQ:List Nat:=[5,4,10,3,3,10,20]
abbrev TN:List Nat:=[3,3]
noncomputable abbrev nZ (P:J0):Array GQ:=#[kE P "num" 405 (.int (0) 406),kE P "box" 407 (.int (0) 408),kE P "late" 409 (.int (0) 410),kE P "door" 411 (.int (0) 412),kE P "not" 413 (.int (1) 414),kE P "and" 415 (.int (2) 416),kE P "or" 417 (.int (2) 418),kE P "xor" 419 (.int (2) 420),kE P "plus" 421 (.int (2) 422),kE P "minus" 423 (.int (2) 424),kE P "less" 425 (.int (2) 426),kE P "same" 427 (.int (2) 428),kE P "pick" 429 (.int (3) 430),kE P "join" 431 (.int (2) 432),kE P "part" 433 (.int (1) 434)]
noncomputable def hK (P:J0):Tw:=((3:Av),(⟨(.type "dict"),none,.dict ⟨kE P "__name__" 165 (.str "law_beatwright_k45_orders_that_are_let_by" 1150)::kE P "__doc__" 166 .none::kE P "__package__" 167 .none::kE P "__loader__" 168 (.builtin "__main__.__loader__#opaque")::kE P "__spec__" 169 .none::kR P "__annotations__" 170 6::kR P "__builtins__" 171 4::kE P "__file__" 173 (.str "/claim/cut.py" 172)::kE P "__cached__" 174 .none::kR P "BeatError" 206 24::kR P "NoName" 222 37::kR P "Twice" 238 49::kR P "NoWidth" 254 61::kR P "NoWord" 270 73::kR P "TooMany" 286 85::kR P "Unknown" 302 97::kR P "Unlike" 318 109::kR P "NoOrder" 334 121::kR P "Ring" 350 133::kE P "WIDEST" 354 (.int (64) 353)::fD P dN 13 136 355 ( kE P "MOST_PARTS" 402 (.int (100) 401)::kE P "MOST_DEEP" 404 (.int (12) 403)::kR P "HELD" 450 176::fD P dM 23 177 451 ( fD P dJ 38 271 569 ( kE P "MOST_BOXES" 701 (.int (12) 700)::kE P "MOST_DOORS" 703 (.int (6) 702)::kE P "MOST_RULES" 705 (.int (8) 704)::kE P "MOST_WRITES" 707 (.int (6) 706)::kE P "LONGEST_NAME" 709 (.int (8) 708)::fD P dI 59 372 710 ( kE P "MOST_CUBES" 808 (.int (64) 807)::fD P dH 72 441 809 ( kR P "Known" 970 558::fD P dG 77 563 971 ( fD P dF 79 570 986 ( fD P dE 85 603 1031 ( fD P dC 92 639 1076 ( fD P TQ 102 694 1152 ( kR P "_law_words" 1237 745::fD P TN 110 746 1238 ( [])))))))))))⟩ 111,#[]⟩:Obj))::fR T3 dN 13 136 355 ( ((176:Av),(⟨.type "dict",none,.dict (nZ P) 15,#[]⟩:Obj))::fR NI dM 23 177 451 ( fR MK dJ 38 271 569 ( fR Pp dI 59 372 710 ( fR Lb dH 72 441 809 ( mR Lb 76 lX ["Known.__init__", "Known.learn", "Known.forget", "Known.know", "Known.go_on", "Known.settled_at", "Known.put", "Known.turn", "Known.guard_marks", "Known.guard_mark", "Known.both_words", "Known.low_words"] 0 474 856 ( ((557:Av),(⟨(.type "dict"),none,.dict #[kE P "__module__" 851 (.str "beatwright.papers" 805),kE P "__firstlineno__" 855 (.int (285) 854),kR P "__init__" 866 480,kR P "learn" 874 487,kR P "forget" 881 494,kR P "know" 889 501,kR P "go_on" 901 508,kR P "settled_at" 911 515,kR P "put" 922 522,kR P "turn" 929 529,kR P "guard_marks" 937 536,kR P "guard_mark" 946 543,kR P "both_words" 953 550,kR P "low_words" 959 555,kR P "__static_attributes__" 963 556,kR P "__dict__" 965 559,kR P "__weakref__" 967 560,kE P "__doc__" 968 .none] 4,#[]⟩:Obj))::((558:Av),(⟨(.type "type"),none,.cls {name:="Known",bases:=[(.type "object")],mro:=[(.ref 558),(.type "object")],ns:=557,qualname:="Known",hasDict:=true,slotNames:=[],subclasses:=[],abstract:=false,collection:=none,hasDel:=false},#[none,none,some (.str "Known" 844),some (.str "Known" 852),some (.builtin "object.__new__"),some (.bool true)]⟩:Obj))::fR Lb dG 77 563 971 ( fR Vl dF 79 570 986 ( fR T2 dE 85 603 1031 ( fR Q6 dC 92 639 1076 ( fR Qh TQ 102 694 1152 ( fR Qh TN 110 746 1238 ( []))))))))))))
noncomputable def has:List Av:=3::fA dN 136 ( 176::fA dM 177 ( fA dJ 271 ( fA dI 372 ( fA dH 441 ( fA lX 474 ( 557::558::fA dG 563 ( fA dF 570 ( fA dE 603 ( fA dC 639 ( fA TQ 694 ( fA TN 746 ( []))))))))))))
def lo (p:Bp):List Str:=[(1,10),(12,7),(20,17),(38,15),(54,16),(71,7),(79,5),(85,6),(92,9),(102,9)].flatMap λx=>((p.main.body.drop x.1).take x.2).map S3
noncomputable def hq:Bp:=view AL [111]
noncomputable def hloose:List Str:=lo AL
noncomputable def hXt (q:Bp)(s:Aq):Bool:=xlAt q [] s && recOk [] s
noncomputable def hrun (H₀:J0->CH)(p q:Bp)(w:BK)(os:Va):=SH.whole (H₀ w.params) p q (lo p) (hXt q) (λs=>has.map s.heap.get?) 11 (some (.ref 6)) 5646 w os
noncomputable def hgood (K:J0->Tw)(p q:Bp)(w:BK):=some (true,openGood q (lo p),(K w.params).map λp=>some p.2)
theorem hrun_self:hrun=hrun:=rfl
theorem hgood_self:hgood=hgood:=rfl
lay_quick My.hrun My.hgood
name_quick hrunQ for My.hrun by My.hrun_self
name_quick hgoodQ for My.hgood by My.hgood_self
theorem yh (w:BK):(λos=>PySem.W.Fast.hrunQ Ei AL hq (w.withFollow "special-get-raises" false) os)=λ_=>PySem.W.Fast.hgoodQ hK AL hq (w.withFollow "special-get-raises" false):=by kernel_rfl
theorem xu (w:BK):(λos=>PySem.W.Fast.hrunQ Ei AL hq (w.withFollow "special-get-raises" true) os)=λ_=>PySem.W.Fast.hgoodQ hK AL hq (w.withFollow "special-get-raises" true):=by kernel_rfl
theorem xt:∀w:BK,(λos=>PySem.W.Fast.hrunQ Ei AL hq w os)=λ_=>PySem.W.Fast.hgoodQ hK AL hq w:=byRow2 "special-get-raises" yh xu
noncomputable def hYf (s:Aq):List (Option Obj):=has.map s.heap.get?
noncomputable def hYa (w:BK):List (Option Obj):=(hK w.params).map λp=>some p.2
theorem ws_self:OC=OC:=rfl
lay_quick PySem.W.OpenLaw.wellSaid
name_quick wsQ for PySem.W.OpenLaw.wellSaid by My.ws_self
theorem hsaid:PySem.W.Fast.wsQ Ct=true:=by kernel_rfl
theorem hleft:LeftO AL hq hloose (hXt hq) hYf hYa 11992:=SH.left_of (Yf:=hYf) (Ya:=hYa) (M:=5646) (n₀:=11) (ann:=(some (.ref 6))) (by kernel_rfl) (by decide) (λs=>by kernel_rfl) (λP=>by kernel_rfl) (λw=>by kernel_rfl) (by decide) λw os=>(congrFun (congrFun (congrFun (congrFun (congrFun PySem.W.Fast.hrunQ_eq _) _) _) w) os).trans ((congrFun (xt w) os).trans (congrFun (congrFun (congrFun (congrFun PySem.W.Fast.hgoodQ_eq _) _) _) w).symm)
structure Hd (w:BK)(n:Str)(s:DE)(c:Nat)(m:Ah):Prop where
 a:nsIn (hK w.params) BS n=some (some (.ref (c+1)))
 l:(hK w.params).lookup (c+1)=some (fO n n s m c)
 o:codeIn (hK w.params) (.ref c) n=true
 k:keepIn (hK w.params) (.ref (c+1))=true
structure Hm (w:BK)(C:Av)(n q:Str)(s:DE)(c:Nat)(m:Ah):Prop where
 a:bZ (hK w.params) (.ref C) n=some (some (.ref (c+1)))
 i:isFn (hK w.params) (.ref (c+1))=true
 l:(hK w.params).lookup (c+1)=some (fO n q s m c)
 o:codeIn (hK w.params) (.ref c) q=true
 k:keepIn (hK w.params) (.ref (c+1))=true
theorem Nr {α:Type}{us:List α}{n:Nat}(h:us.length=n+1):∃a t,us=a::t/\t.length=n:=by
 cases us with
 |nil=>cases h
 |cons a t=>exact⟨a,t,rfl,GP h⟩
theorem SW {fd:DG}{ps:List Str}{us:List Ah}(hl:us.length=1)(h:∀a0,Eb fd ⟨[a0],[]⟩=pure (ps.zip [a0])):Eb fd ⟨us,[]⟩=pure (ps.zip us):=by
 obtain⟨a0,u0,rfl,l0⟩:=Nr hl;cases AD l0;exact h a0
theorem SV {fd:DG}{ps:List Str}{us:List Ah}(hl:us.length=2)(h:∀a0 a1,Eb fd ⟨[a0,a1],[]⟩=pure (ps.zip [a0,a1])):Eb fd ⟨us,[]⟩=pure (ps.zip us):=by
 obtain⟨a0,u0,rfl,l0⟩:=Nr hl;obtain⟨a1,u1,rfl,l1⟩:=Nr l0;cases AD l1;exact h a0 a1
theorem SU {fd:DG}{ps:List Str}{us:List Ah}(hl:us.length=3)(h:∀a0 a1 a2,Eb fd ⟨[a0,a1,a2],[]⟩=pure (ps.zip [a0,a1,a2])):Eb fd ⟨us,[]⟩=pure (ps.zip us):=by
 obtain⟨a0,u0,rfl,l0⟩:=Nr hl;obtain⟨a1,u1,rfl,l1⟩:=Nr l0;obtain⟨a2,u2,rfl,l2⟩:=Nr l1;cases AD l2;exact h a0 a1 a2
theorem SS {fd:DG}{ps:List Str}{us:List Ah}(hl:us.length=4)(h:∀a0 a1 a2 a3,Eb fd ⟨[a0,a1,a2,a3],[]⟩=pure (ps.zip [a0,a1,a2,a3])):Eb fd ⟨us,[]⟩=pure (ps.zip us):=by
 obtain⟨a0,u0,rfl,l0⟩:=Nr hl;obtain⟨a1,u1,rfl,l1⟩:=Nr l0;obtain⟨a2,u2,rfl,l2⟩:=Nr l1;obtain⟨a3,u3,rfl,l3⟩:=Nr l2;cases AD l3;exact h a0 a1 a2 a3
theorem SR {fd:DG}{ps:List Str}{us:List Ah}(hl:us.length=5)(h:∀a0 a1 a2 a3 a4,Eb fd ⟨[a0,a1,a2,a3,a4],[]⟩=pure (ps.zip [a0,a1,a2,a3,a4])):Eb fd ⟨us,[]⟩=pure (ps.zip us):=by
 obtain⟨a0,u0,rfl,l0⟩:=Nr hl;obtain⟨a1,u1,rfl,l1⟩:=Nr l0;obtain⟨a2,u2,rfl,l2⟩:=Nr l1;obtain⟨a3,u3,rfl,l3⟩:=Nr l2;obtain⟨a4,u4,rfl,l4⟩:=Nr l3;cases AD l4;exact h a0 a1 a2 a3 a4
section
variable {w:BK}{h:CH}{mg:Str->Option Ah}
noncomputable def hd {n:Str}{s:DE}{ps:List Str}(c:Nat)(m:Ah)(X:(hK w.params).In h:=by assumption)(G:h.Ns BS mg:=by assumption)(H:Hd w n s c m:=by exact⟨by kernel_rfl,by kernel_rfl,by kernel_rfl,by kernel_rfl⟩)
  (b:∀(kV dc pm:Ah) (an:Option Av) (cd ct:Ah) (us:List Ah),us.length=ps.length->Eb (fnOf n n (RS s) (NM s) (IJ s) .none kV dc pm an cd ct) ⟨us,[]⟩=pure (ps.zip us):=by intro _ _ _ _ _ _ us h;first | exact SW h (λ_=>rfl) | exact SV h (λ_ _=>rfl) | exact SU h (λ_ _ _=>rfl) | exact SS h (λ_ _ _ _=>rfl) | exact SR h (λ_ _ _ _ _=>rfl)):DF (hK w.params) mg n s ps:=
 ⟨c+1,fF n n s m c,L2.fun_mk (st:=s) H.l H.o H.k,(L2.fun_mk (st:=s) H.l H.o H.k).binds b,mg_of X G H.a⟩
noncomputable def Pq {n q:Str}{s:DE}{ps:List Str}{C:Av}(c:Nat)(m:Ah)(H:Hm w C n q s c m:=by exact⟨by kernel_rfl,by kernel_rfl,by kernel_rfl,by kernel_rfl,by kernel_rfl⟩)
  (b:∀(kV dc pm:Ah) (an:Option Av) (cd ct:Ah) (us:List Ah),us.length=ps.length->Eb (fnOf n q (RS s) (NM s) (IJ s) .none kV dc pm an cd ct) ⟨us,[]⟩=pure (ps.zip us):=by intro _ _ _ _ _ _ us h;first | exact SW h (λ_=>rfl) | exact SV h (λ_ _=>rfl) | exact SU h (λ_ _ _=>rfl) | exact SS h (λ_ _ _ _=>rfl) | exact SR h (λ_ _ _ _ _=>rfl)):DM (hK w.params) C n q s ps:=
 ⟨c+1,fF n q s m c,L2.fun_mk (st:=s) H.l H.o H.k,(L2.fun_mk (st:=s) H.l H.o H.k).binds b,⟨H.a,H.i,H.k⟩⟩
theorem hs {n:Str}{v:Ah}(X:(hK w.params).In h)(G:h.Ns BS mg)(e:nsIn (hK w.params) BS n=some (some v):=by kernel_rfl):mg n=some v:=mg_of X G e
theorem hn {n:Str}(X:(hK w.params).In h)(G:h.Ns BS mg)(e:nsIn (hK w.params) BS n=some none:=by kernel_rfl):mg n=none:=mg_none_of X G e
end
theorem p8 (w:BK):L2.TabOk (hK w.params) w 176 Qw:=⟨nZ w.params,15,by kernel_rfl,by k_keys,λx v e=>by
 have m:=L2.lookup_mem e;unfold Qw at m;simp only[BA,QN,AR,or_false]at m;rcases m with⟨rfl,rfl⟩|⟨rfl,rfl⟩|⟨rfl,rfl⟩|⟨rfl,rfl⟩|⟨rfl,rfl⟩|⟨rfl,rfl⟩|⟨rfl,rfl⟩|⟨rfl,rfl⟩|⟨rfl,rfl⟩|⟨rfl,rfl⟩|⟨rfl,rfl⟩|⟨rfl,rfl⟩|⟨rfl,rfl⟩|⟨rfl,rfl⟩|⟨rfl,rfl⟩
 .exact⟨406,by kernel_rfl⟩
 .exact⟨408,by kernel_rfl⟩
 .exact⟨410,by kernel_rfl⟩
 .exact⟨412,by kernel_rfl⟩
 .exact⟨414,by kernel_rfl⟩
 .exact⟨416,by kernel_rfl⟩
 .exact⟨418,by kernel_rfl⟩
 .exact⟨420,by kernel_rfl⟩
 .exact⟨422,by kernel_rfl⟩
 .exact⟨424,by kernel_rfl⟩
 .exact⟨426,by kernel_rfl⟩
 .exact⟨428,by kernel_rfl⟩
 .exact⟨430,by kernel_rfl⟩
 .exact⟨432,by kernel_rfl⟩
 .exact ⟨434,by kernel_rfl⟩⟩
theorem all_mk {P:Bp}{w:BK}{h:CH}{mg:Str->Option Ah}{fa:Av}(X:(hK w.params).In h)(G:h.Ns BS mg)(hfa:mg "law" = some (.ref fa)):∃fd:DG,(∀(s:Aq) (v:Ah),MG s fd ⟨[v],[]⟩ [("script",v)])/\∀base:CH,(hK w.params).In base->base.Ns BS mg->L2.FnOk P w (hK w.params) mg base L2.CX0 50 fa fd ["script"] (L3.lSp (hK w.params) L3.spLaw2):=by
 have e:=hfa.symm.trans (hs X G (v:=.ref 755));cases e
 let T:Tx (hK w.params) w mg:=⟨558,
  ⟨by kernel_rfl,by kernel_rfl,by kernel_rfl,by kernel_rfl⟩,
  hs X G,
  (show DY _ _ _ by unfold DY;kernel_rfl),
  (show DY _ _ _ by unfold DY;kernel_rfl),
  (show DY _ _ _ by unfold DY;kernel_rfl),
  hd 141 T3,
  hd 148 T3,
  hd 155 T3,
  hd 162 T3,
  hd 169 T3,
  hd 174 T3,
  hd 182 NI,
  hd 189 NI,
  hd 196 NI,
  hd 201 NI,
  hd 208 NI,
  hd 215 NI,
  hd 222 NI,
  hd 229 NI,
  hd 236 NI,
  hd 243 NI,
  hd 250 NI,
  hd 257 NI,
  hd 264 NI,
  hd 269 NI,
  hd 274 MK,
  hd 281 MK,
  hd 288 MK,
  hd 293 MK,
  hd 300 MK,
  hd 307 MK,
  hd 314 MK,
  hd 321 MK,
  hd 328 MK,
  hd 335 MK,
  hd 342 MK,
  hd 349 MK,
  hd 356 MK,
  hd 363 MK,
  hd 370 MK,
  hd 375 Pp,
  hd 382 Pp,
  hd 387 Pp,
  hd 394 Pp,
  hd 401 Pp,
  hd 408 Pp,
  hd 415 Pp,
  hd 422 Pp,
  hd 429 Pp,
  hd 434 Pp,
  hd 439 Pp,
  hd 446 Lb,
  hd 453 Lb,
  hd 460 Lb,
  hd 465 Lb,
  Pq 479 Lb,
  ⟨by kernel_rfl,by kernel_rfl,by kernel_rfl,by kernel_rfl⟩,
  Pq 486 Lb,
  Pq 493 Lb,
  Pq 500 Lb,
  Pq 507 Lb,
  Pq 514 Lb,
  Pq 521 Lb,
  Pq 528 Lb,
  Pq 535 Lb,
  Pq 542 Lb,
  Pq 549 Lb,
  Pq 554 Lb,
  hd 568 Lb,
  hd 573 Vl,
  hd 580 Vl,
  hd 587 Vl,
  hd 594 Vl,
  hd 601 Vl,
  hd 606 T2,
  hd 613 T2,
  hd 618 T2,
  hd 625 T2,
  hd 630 T2,
  hd 637 T2,
  hd 644 Q6,
  hd 649 Q6,
  hd 656 Q6,
  hd 661 Q6,
  hd 666 Q6,
  hd 673 Q6,
  hd 678 Q6,
  hd 685 Q6,
  hd 692 Q6,
  hd 699 Qh,
  hd 706 Qh,
  hd 713 Qh,
  hd 718 Qh,
  hd 723 Qh,
  hd 730 Qh,
  hd 737 Qh,
  hd 749 Qh,
  hd 754 Qh,
  _,
  hs X G (v:=(.int (64) 353)),
  _,
  hs X G (v:=(.int (100) 401)),
  _,
  hs X G (v:=(.int (12) 403)),
  _,
  hs X G (v:=(.int (12) 700)),
  _,
  hs X G (v:=(.int (6) 702)),
  _,
  hs X G (v:=(.int (8) 704)),
  _,
  hs X G (v:=(.int (6) 706)),
  _,
  hs X G (v:=(.int (8) 708)),
  _,
  hs X G (v:=(.int (64) 807)),
  176,
  hs X G,
  p8 w,
  ⟨hn X G,hn X G,hn X G,hn X G,hn X G,hn X G,hn X G,hn X G,hn X G,hn X G,hn X G,hn X G,hn X G,hn X G,hn X G,hn X G,hn X G,hn X G⟩⟩
 exact⟨_,λs v=>.of_eq rfl,λbase _ _=>gj T⟩
end My
open PySem PySem.W PyProof.Rows
set_option maxRecDepth 100000 in
set_option maxHeartbeats 0 in
theorem PySem.Challenge.cw_beatwright_k45_orders_that_are_let_by_holds : PySem.Challenge.rw_beatwright_k45_orders_that_are_let_by.Holds := by
 refine holds_law ((congrFun PySem.W.Fast.wsQ_eq _).trans My.hsaid) λsaid=>?_;refine PySem.W.holds_open (q:=My.hq) (loose:=My.hloose) (Xt:=My.hXt My.hq) (XP:=XL My.hq []) (Yf:=My.hYf) (Ya:=My.hYa) (YP:=InK My.hK) (N:=11992) My.hleft (InK.of λ_=>by kernel_rfl) InK.keeps (λs e=>xl_of s (Bool.and_eq_true_iff.mp e).1) XL.keeps (by rfl) (by rfl) (by rfl) (λs e=>recFacts_of (Bool.and_eq_true_iff.mp e).2) (by rfl) (by first | assumption | nofun) (by nofun) ⟨rfl,rfl,rfl,rfl,rfl,by nofun⟩ ?hw ?hc
 case hw=>w_witness2
 refine L3.walk2 (l:=PySem.Challenge.rw_beatwright_k45_orders_that_are_let_by) (k:=50) rfl rfl ⟨rfl,by decide,by decide⟩ (λw h Y=>Y) ?F;intro w mg fa h KX G hmg;exact My.all_mk KX G hmg
#print axioms PySem.Challenge.cw_beatwright_k45_orders_that_are_let_by_holds
