import PyProof.Rows.All
import Wide.All
import OpenK.AllK
import Wide.FinOn
import Lean
import PyProof.EqAt
import PyProof.EqKinds
import PyProof.TupleCall
import PyProof.ZipIter
import PyProof.DictIter
import PyProof.DictWalks
import PyProof.CollectWalk
import PyProof.Rows.SetFrom
import PyProof.FactsAll.set_1
import PyProof.Rows.SortStr
import PyProof.DictItems
import KE.KDictList
import PyProof.AttrMissHeap
import PyProof.DictList
import KE.KDictOf
import PyProof.MeetsStr
import PyProof.StrOps2
import PyProof.EnumMake
import PyProof.Rows.EnumRows
import PyProof.SetKind
import PyProof.TupleKey
import PyProof.FactsAll.set_2
import PyProof.FactsAll.dict_3
import PyProof.FactsAll.tuple_2
import PyProof.FactsAll.tuple_3
import PySem.Challenge.RW_beatwright_k32_a_clash
set_option Elab.async false
set_option linter.all false
set_option maxRecDepth 100000
theorem Al {g:Prop}(h:∀G:Prop,(g->G)->G):g:=h g id
set_option compiler.extract_closed false
set_option bootstrap.genMatcherCode false
noncomputable section
open List.Perm (of_eq)
local macro_rules | `(tactic| ext)=>`(tactic| first | lia | omega)
local macro_rules | `(tactic| nofun)=>`(tactic| decide +kernel)
open PySem renaming wpAny_bind->Aa,wpAny_pure->Ab,Value->Ah,sizeLine->Am,Shared->Ap,wpAny->Aq,starEach->Ar,Addr->Av,model->Ax,Spec->Az,wpAny_setState_of->A7,scanBound->A9,compareOp->Bd,wpAny_holding->Bh,Program->Bs,strKind->Bv,assignEach->Bz,foldedSetIterable->BC,binaryOp->BD,World->BG,wpAny_mono->BI,wpAny_newObj_type->BM,boot_len->BP,mainGlobals->BY,wpAny_call_entry->B9,Expr->Cb,backTo->Cc,wpAny_of_eq->Ce,Around->Ck,wpAny_Call_Name_kw->Co,attributeBase->Cz,Heap->CU,wpAny_truthy_bool->CW,bootBuiltins->Dc,wpAny_askSetting->Dg,wpAny_setField->Dh,cLine->Dk,SetTable->Dl,FuncData->Dm,codeAny_builtin->Dw,wpAny_storeSet_of->Dx,keywordEach->Dy,bindArgs->DA,Stmt->DC,codeAny->DP,Paired->DW,Builtin->Ea,wpAny_passesOwn->Ed,mem_of_lookup->Ep,swapsWith->EE,Keyword->EW,sysModules->EY,wpAny_getItem_str_slice->E3,wpAny_typeOf->Fd,wpAny_pyIter_list->Fe,hashStr->Fi,backToKw->Fk,NameKind->Fm,builtinLookup_eq_fast->Fw,wpAny_rule->FA,plainId_quiet->FP,behindInMarks->FR,sliceBounds->FT,holding->Gu,codeAny_mono->Gv,tupleKind_room_in1->GP,sizeLine_eq->Hn,wpAny_comprehension_free->Ht,wpAny_isInstance->HS,wpAny_callSpecial?_slot->HU,relayAll->HV,pickOrder->HW,DictEntry->H9,wpAny_pyNext_list_item->Iy,typeIs_str->Iz,setsByText->IB,setAddHashed->IC,pyNext->ID,call->IE,wpAny_execs_nil->IU,typeLookup_type->IV,post_val_or_str->IW,letOwnedTupleGo->IX,wpAny_pyNext_list_end->Jc,merged->Jy,entryFor_alias->JC,codeAny_call_builtin->JD,valueAt->JP,getMethod->JR,getItem->JS,callerA->JT,wpAny_standAt->Kq,swapsWithSole->Kr,swappedStores->Ks,assignInOrder->Kt,wpAny_call->Kz,call_meets->KD,assign->KH,Params->KJ,sub_set_self->Lf,entryFor->Ll,Scope->Lo,wpAny_eqBool_int->LL,tupleKind->LM,setDiscardHashed->LN,rawInt->LO,Builtin->LU,IsPart->LV,subscripted->Ml,IsRangeIter->Mt,wpAny_specialOf->MD,importedModules->ME,Within->MG,wpAny_richCompare_same_room->MZ,unaryOp->Na,standAt->Nb,notedBy->Nc,BindsTo->Nk,wpAny_seqItems->Nu,typeLookup->Nv,newFunctionEnv->Nx,compEnvC->Nz,again->NC,PlainAttrs->NF,Operator->NG,setWalkUnseen->OO,call->OQ,bindL->Pk,bindC->Pm,atKey->Pn,PassesOwn->Pr,wpAny_pyNext_range_end->PL,wpAny_pyIter_rangeiter->PM,wpAny_Call_method_late->PN,setFind->PQ,rule->PR,newList->PU,isTrue->PX,wpAny_notOrdered_dict->QN,wpAny_field->Rl,lookup_relabel_local->Rm,callWith->Rn,bindName->Ro,wpAny_binaryOp_same->Sm,wpAny_pyIter_range->Tn,wpAny_Name->To,typeOf->Tp,setEntries->Tq,pyIter->Tr,getattributeRaised->Tt,builtinsNs->Tu,Result->Tz,stored->TB,wpAny_pyIter_slot->UZ,wpAny_assign_Name->U0,table->U5,spliced->U8,slot_list_getitem->U9,setNext->Va,OsState->Vj,wpAny_setScan_of->V2,wpAny_pyIter_zip->V3,wpAny_getItem_of->V4,wpAny_forIn_list->V5,wpAny_execs_cons->V6,treeTable->V7,entryFor_of_tree->V9,cellsFrom->Wa,wpAny_updateSeq->YL,wpAny_ite_split->YM,codeAny_of_tree->YN,wpAny_runValue->bA,wpAny_fieldsOf->bB,wpAny_bindName->bC,setEpoch->bH,retInt->bI,recursionLimit->bJ,isSubtype_type->bK,dictSetDefault->bM,argsOk->bN,Slot->bP,GenState->bR
open PySem.W renaming Frag->Ac,emptyDict->Cp,findIn->CI,kitOne->C3,instObj->De,boot_heap->Ef,kia_one->En,fnOf->Ft,keepIn->FG,plainGet->Gx,lookIn->Hw,hasDictIn->Je,takerIn->Ke,codeIn->KI,kitx_dict->LP,isFn->LR,cellsFrom_some->LS,plainGet_of->Mm,methodCall_KW->Mq,callWith_K->NA,boot_drawn->NB,plainOver->Ol,methodObj->On,handedIn->OR,kitx_list->Pg,boot_toks->Pj,makesIn->Pp,OpenLaw->Pq,WalkO->QP,kitx_tuple->Ts,Frag->TL,SharedT->Vi,findIn->bL
open List renaming length_map->Ae,getElem?_eq_getElem->Ag,length_append->Ao,getElem?_eq_some_iff->Au,mem_cons_of_mem->Aw,mem_cons_self->AA,mem_map->AB,eq_nil_of_length_eq_zero->AC,replicate->AE,mem_of_getElem?->AG,mem_append->AH,map_append->AI,getElem?_map->AL,map_cons->AM,mem_singleton->AN,length_cons->AO,mem_append_right->AR,mem_cons->AU,length_take->AW,not_mem_nil->AX,take_add_one->A3,size_toArray->A4,range->Bl,append_assoc->Bm,nodup_append->Bt,lookup_cons->Bu,take_length->Bw,mem_cons->Bx,mem_append_left->BB,getElem?_eq_none->BJ,lookup->BS,find?_cons->BZ,length_range->B3,mem_filter->B4,length_replicate->Ca,getD_eq_getElem?_getD->Cg,mem_filterMap->Ci,mem_range->Ct,set_cons_succ->Cy,take_of_length_le->CB,foldl_cons->CC,map_map->CP,filterMap_cons->CT,map_nil->CY,append_nil->C1,all_eq_true->C5,getElem?_append_right->C7,pairwise_map->Db,set_cons_zero->Dd,pairwise_mergeSort->Di,drop_eq_getElem_cons->Dz,nodup_cons->DH,length_filterMap_le->DO,replicate_succ->DQ,mem_map_of_mem->DR,map_congr_left->DS,getElem?_toArray->DU,cons_append->D5,mem_append->D7,length->Eg,range_succ_eq_map->Em,getElem?_eq_none_iff->Er,getElem?_append_left->Es,mergeSort_perm->Ez,getElem?_range->EA,eq_of_mem_replicate->EC,take_append_drop->ED,map->EV,mem_iff_getElem?->E7,length_singleton->E8,any_eq_true->Fc,ext_getElem?->Fj,nodup_cons->Fx,mem_filter->FC,length_nil->FD,length_drop->FV,any_cons->FX,all_cons->FY,perm_ext_iff_of_nodup->F6,Nodup->F7,mem_of_find?_eq_some->Gn,findIdx?_eq_none_iff->Go,reverse_cons->Gr,nodup_append->Gs,nil_append->GQ,forIn_cons->GR,getElem?_cons_zero->G1,getElem?_cons_succ->G3,Sublist->Ho,mem_singleton->Hu,filter_append->Hv,length_filter_le->HK,filterMap_append->HL,replicate_zero->I8,length_pos_iff->I9,findIdx?->Jh,find?_eq_none->Jt,filterMap_map->Ju,getElem_mem->JA,getElem_inj->JB,nodup_nil->JQ,take_succ_eq_append_getElem->JV,foldl_append->JW,mem_flatten->Ku,take_sublist_take_left->Lq,idxOf_lt_length_of_mem->Lr,length_eraseIdx_of_lt->LD,drop_zero->LQ,reverse_replicate->Nd,length_eq_one_iff->Nf,getElem?_set_self->Ng,drop_of_length_le->Nh,of_mem_zip->Nw,erase_of_not_mem->NK,contains_iff_mem->NL,cons_lt_cons_iff->NM,reverse_reverse->Oq,replicate_succ'->Ot,range'->Ou,mem_of_mem_take->Ov,getElem?_set_ne->Ow,toList_toArray->OV,length_reverse->OW,flatMap_append->OX,filter_sublist->OY,dropWhile_cons->OZ,forIn_nil->Ph,pairwise_cons->Pt,map_filterMap->Pu,getElem_idxOf->Pw,getElem?_cons->Px,getElem?_set->P2,any_eq_false->P4,mem_reverse->QR,mem_flatMap->QS,map_reverse->QU,getElem_map->QV,filter_cons->QW,Perm->QX,range_succ->Rt,length_zip->Ru,filter_nil->Rv,take_zero->Sw,sum_cons->TJ,all_map->Vd
open PySem.Heap renaming get?_push_of_some->Af,lt_size->An,get?_push_size->Ay,get?_update_other->Bb,SameBut->By,get?_update_self->D6,size_push->F8
open Bool renaming false_ne_true->Aj,and_eq_true->BQ,eq_iff_iff->EG,false_eq_true->FQ,and_false->F9,false_and->Iq,and_self->Jk,or_eq_true->KC,not_true->Mu,not_eq_eq_eq_not->NP,beq_eq_decide_eq->NQ,and_eq_true_iff->Oy,true_and->TM,or_false->TN,false_or->TQ
open PySem.Str renaming ofString->Ak,length_append->Dp,length->bO
open PySem.Builtin renaming bitAnd->AD,bitOr->AK,bitXor->Be,bitNot->D8
open PySem.Value renaming ref->AF,str->C2,int->DB,type->DJ,isStrOf->D0,none->FZ,bool->Jd,float->ND,builtin->So,isInt->Vg,bytes->Vh
open Nat renaming le_refl->AJ,le_trans->AY,ne_of_lt->A5,lt_of_lt_of_le->Bk,zero_le->C9,lt_of_succ_lt_succ->Dj,zero_add->ES,ne_of_gt->ET,lt_succ_of_lt->EU,lt_irrefl->E4,lt_or_ge->Fg,lt_of_le_of_lt->Fh,le_of_lt->FW,succ_lt_succ->Hb,lt_succ_self->Hc,le_add_right->He,add_sub_cancel_left->Hf,add_le_add_left->Jg,sub_self->Jx,le_succ->Lj,reduceAdd->MH,succ_pos->NH,sub_zero->NI,min_self->NJ,le_of_ble_eq_true->Op,mod_lt->PV,add_right_comm->PZ,reduceLeDiff->Rr,reduceEqDiff->Rs,not_lt_zero->Sv,reduceSub->Vk,le_of_eq->Wt,and_comm->Wu,mul_add->Y7,div_one->Y8,not_lt->bQ
open PySem.PassesOwn renaming never->AS
open Array renaming getElem?_eq_getElem->AT,length_toList->A8,getElem?_toList->C0,getElem?_eq_none->DK,getD_eq_getD_getElem?->FH,toList_append->FO,size_append->FU,toList_setIfInBounds->F2,getElem?_eq_some_iff->F3,toList_replicate->Hi,toArray_toList->Ib,mem_toList_iff->Ic,size_extract->IA,eq_empty_of_size_eq_zero->Kg,forIn_toList->Lk,toList_extract->NR,getElem_toList->NS,size->O1,foldl_toList->O2,toList_push->Pz,size_map->RB,toList->TR
open PySem.F renaming plainAttrs_list->AZ,type_list_append->Bq,slot_list_append->Br,type_list_extend->CN,slot_list_extend->CO,slot_dict_setdefault->Fl,slot_tuple_ne->G9,slot_tuple_eq->Ha,args_dict_setdefault_3->JE,entry_dict_setdefault->JU,type_list_reverse->K4,slot_list_reverse->K5,slot_tuple_index->Lp,slot_str_join->Mr
open Option.some renaming inj->Ba,injEq->HZ
open PySem.Heap.SameBut renaming update->Bf,refl->Cj
open Ne renaming symm->Bg
open PySem.Txt renaming slice->Bi,slice_le->bF
open PySem.Challenge renaming pw_beatwright_k32_a_clash->Bp,rw_beatwright_k32_a_clash->G8,rw_beatwright_k32_a_clash->TD,pw_beatwright_k32_a_clash->TF
open Or renaming inl->BH,inr->I0
open PySem.Builtin.Frozenset renaming unchanged->BK,updateFrom->Hy,isAnySet->Ia,sizeOf->IF,baseOf->IG,symmetricDifferenceUpdate->Rw,newFrom->Rx,newClass->Ry,merge->Rz,intersection->RA
open Int renaming toNat_natCast->BN,emod_lt_of_pos->BV,emod_nonneg->Cf,pow_succ->Ff,le_refl->K6,pow_pos->Lh,fdiv_eq_ediv_of_nonneg->LW,le_of_lt->NN,mul_nonneg->TK,one_mul->Vb,mul_assoc->Vl,reduceEq->Wx,pow_zero->Wy,ofNat_le->Wz,mul_comm->WA,ediv_one->WB,mul_one->Y9
open PyProof.Rows renaming callWith_type1->BO,slot_tuple_getitem->EB,callWith_builtin1->EJ,boot_tuple->EZ,envOfC->FE,bitOr_and->FF,bitAnd_pp->HX,AllBare->IH,assignInOrder_cons->KG,sortedS->Lg,StrsAre->Lm,boot_isinstance->MF,subscriptTail->ON,subscriptTail_builtinR->PP,IntsAre->P5,Subscript_->Tw,assignInOrder_nil->Vc,boot_list->Wb,boot_dict->Wc,call_int_bit_length->Y5,bitAnd_zero->Y6,tail_any->bE,slicePart_none->bG
open PySem.NameKind renaming free->B7,cell->H0
open True renaming intro->Ch
open PySem.Around renaming under_plainId->CJ,under->Mv
open PySem.SetTable renaming below->CZ,grown->Dq,eraseAt->Dr,fits->Eo,sizeAbove->Ew,fill->HY,insertAt->IZ,laid->K3,layClean->NE,roomFor->Oj,relaid->OP,fresh->Po
open False renaming elim->C6
open ForInStep renaming yield->C8
open PySem.AutoSeq1 renaming wpAny_loadPart'->Dv,sub_tuple_tuple->K9
open PySem.Paired renaming length->DV,snoc->TH
open PySem.Builtin.Slice renaming slicePlaces->D3,sliceAdjust->Fo,sliceApplied->Jj,slicePartIndex->WE,sliceFields->WF
open List.Perm renaming refl->D4,eq_of_pairwise->GS,swap->O0
open PySem.Builtin.Int renaming intBits->D9
open PySem.Builtin.Range renaming rangeSize->Eh,rangeFitsLong->Ja,small->K8
open Option renaming join_eq_some_iff->EF,map_eq_some_iff->EN,map->G0,map_some->Jz,isSome_iff_exists->LC,map_eq_none_iff->Ms,isSome_map->Ny,isSome_some->Oo,getD_none->Ps,join_some->V8
open PySem.Builtin.List renaming listExtendWith->E5,listTooLong->JX,listSameRef->JY,listTouch->Za,listLengthHint->Zb
open PySem.SeqAt renaming EqAt->E6
open PySem.Builtin.Str renaming glued->Fy,tooLong->Hh
open Sum renaming inr->F0,inl->Kd
open PUnit renaming unit->F1
open Sum.inr renaming inj->F5
open PySem.SeqAt.EqAt renaming same->Gw,of_refs->HJ,str_int->Mn,int_str->Mo
open Nat.succ renaming inj->GH
open PySem.Calls renaming callWith_builtin->Hg,spliced_cons->Ji,spliced_nil->JF,Name_function_global->Ls,evalArgs_plain->NO
open PySem.Obj renaming mapSeq->Hx,data_mapDictKeys->OT,data_mapFields->PY
open List.Sublist renaming refl->HM
open PySem.Builtin.Tuple renaming tupleCompareSizes->HN,tupleItemsOf->WD
open Prod renaming fst->Io,snd->LB,ext->Su
open PySem.Data renaming set->Ip,fields->Ox
open PySem.W.OpenLaw renaming wellSaid->Jf,wellSaid->OS
open PySem.Builtin.Dict renaming updateFrom->Kf,selfAndRest->Zc,pairItems->Zd,keyAndDefault->Ze,addKeywords->Zf
open PySem.Manifest renaming sig_set_iterator->KL,owners->OU
open List.Pairwise renaming filter->KN,nil->Wv,imp_of_mem->Ww
open PySem.pickOrder renaming go->Li
open PySem.SetTable.below renaming go->Ln
open PySem.Heap.DictOf renaming new->Ni
open PySem.Code renaming isFrame->Nj,frames->WC
open List.cons renaming inj->Py
open Prod.mk renaming injEq->QQ,inj->Ss
open String renaming ofList->Rp
open PySem.Shared renaming TypeIs->Rq
open Std.Legacy.Range renaming size->Sq,forIn_eq_forIn_range'->Sr
open PySem.IsRange renaming new->Sx
open PySem.W.KeqHits renaming hit->TC
open PySem.Walks renaming range->Ve,list->We
open PySem.W.WShape renaming has->Vf
open PySem.Heap.IsSliceOf renaming new->Vm
open PySem.W.Looks renaming here->Wf
open PySem.StrLaws renaming strSliceIndices_plain->Wg,sliced_plain->Wh,sliceIdx_none_lo->Wi,sliceIdx_none_hi->Wj
open PySem.EqMixed renaming ne_str_int->Wl,ne_str_bool->Wm,ne_int_str->Wn,ne_bool_str->Wo,eq_str_int->Wp,eq_str_bool->Wq,eq_int_str->Wr,eq_bool_str->Ws
open PySem.W.WData renaming int->YO
open PySem.Within renaming cons->YQ
open PySem.EqNone renaming ne_str_none->YR,ne_none_str->YS,ne_none_none->YT,ne_none_int->YU,ne_none_bool->YV,ne_int_none->YW,ne_bool_none->YX,eq_str_none->YY,eq_none_str->YZ,eq_none_none->Y0,eq_none_int->Y1,eq_none_bool->Y2,eq_int_none->Y3,eq_bool_none->Y4
open PySem.Flow renaming next->bS
set_option hygiene false
local macro_rules|`(tactic| symm)=>`(tactic| (refine Al λG' kk'=>?_))
local macro_rules|`(tactic| cutsat)=>`(tactic| (refine kk' ?_;clear kk'))
local macro_rules|`(tactic| obtain $p:rcasesPatMed : _ := $e)=>`(tactic| (symm;obtain $p:rcasesPatMed := $e;cutsat;(try subst e1');(try subst e2');(try subst e3');(try subst e4')))
local macro_rules|`(tactic| ext1 $p)=>`(tactic| (intro hI';symm;revert hI';rintro $p;cutsat;(try subst e1');(try subst e2');(try subst e3');(try subst e4')))
set_option hygiene true
namespace L2
open PySem PySem.Spec PyProof.Rows
abbrev Cd:=Sum Int Str
noncomputable def KU:Cd->Ah->Bool
 |.inl k,v=>Vg k v
 |.inr x,v=>D0 x v
noncomputable def fE (w:BG):Cd->Int
 |.inl k=>hashInt k
 |.inr x=>Fi w x
theorem Rf:∀{k:Cd}{v:Ah},KU k v=true->(∃i t,k=Kd i/\v=DB i t)\/(∃x t,k=F0 x/\v=C2 x t)
 |.inl i,v,h=>by
  obtain⟨t,e⟩:=Value.isInt_shape h;exact .inl ⟨i,t,rfl,e⟩
 |.inr x,v,h=>by
  obtain⟨t,e⟩:=Value.isStrOf_shape h;exact .inr ⟨x,t,rfl,e⟩
theorem uq (i:Int)(t:Tok):KU (.inl i) (.int i t)=true:=by simp[KU,Vg]
theorem ur (x:Str)(t:Tok):KU (.inr x) (.str x t)=true:=by simp[KU,D0]
theorem cx (a b:Int):decide ((Kd a:Cd)=Kd b)=(a == b):=by
 by_cases e:a=b
 .subst e;simp
 .have h:¬(Kd a:Cd)=Kd b:=λq=>e (Sum.inl.inj q);rw[decide_eq_false h];exact(beq_eq_false_iff_ne.mpr e).symm
theorem c8 (a b:Str):decide ((F0 a:Cd)=F0 b)=decide (a=b):=by
 by_cases e:a=b
 .subst e;simp
 .have h:¬(F0 a:Cd)=F0 b:=λq=>e (F5 q);rw[decide_eq_false h,decide_eq_false e]
theorem cy (a:Int)(b:Str):decide ((Kd a:Cd)=F0 b)=false:=decide_eq_false (λq=>nomatch q)
theorem cz (a:Str)(b:Int):decide ((F0 a:Cd)=Kd b)=false:=decide_eq_false (λq=>nomatch q)
noncomputable def BU (prog:Bs)(w:BG):PySem.KeyKind prog w Cd where
 is:=KU
 hash:=fE w
 inj:=λv a b ha hb=>by
  rcases Rf ha with⟨i,t,rfl,rfl⟩|⟨x,t,rfl,rfl⟩
  .rcases Rf hb with⟨j,u,rfl,e⟩|⟨y,u,rfl,e⟩
   .injection e with e1 _;rw[e1]
   .exact nomatch e
  .rcases Rf hb with⟨j,u,rfl,e⟩|⟨y,u,rfl,e⟩
   .exact nomatch e
   .injection e with e1 _;rw[e1]
 byValue:=λk v h=>by
  rcases Rf h with⟨i,t,rfl,rfl⟩|⟨x,t,rfl,rfl⟩<;>rfl
 pyHash:=λhv h=>by
  rcases Rf hv with⟨i,t,rfl,rfl⟩|⟨x,t,rfl,rfl⟩
  .exact wpAny_pyHash_int h
  .exact wpAny_pyHash_str h
 eqBool:=λhu hv h=>by
  rcases Rf hu with⟨i,t,rfl,rfl⟩|⟨x,t,rfl,rfl⟩
  .rcases Rf hv with⟨j,u,rfl,rfl⟩|⟨y,u,rfl,rfl⟩
   .rw[cx]at h;exact LL h
   .rw[cy]at h;exact Mo i t y u _ _ _ _ h
  .rcases Rf hv with⟨j,u,rfl,rfl⟩|⟨y,u,rfl,rfl⟩
   .rw[cz]at h;exact Mn x t j u _ _ _ _ h
   .rw[c8]at h;exact wpAny_eqBool_str h
 «strs»:=λk x t v h=>by
  rcases Rf h with⟨i,u,rfl,e⟩|⟨y,u,rfl,e⟩
  .exact nomatch e
  .injection e with e1 _
   subst e1;cases v<;>rfl
theorem vv (prog:Bs)(w:BG)(k:Cd)(v:Ah):(BU prog w).is k v=KU k v:=rfl
theorem yy (prog:Bs)(w:BG)(i:Int)(t:Tok):(BU prog w).is (.inl i) (.int i t)=true:=uq i t
theorem yz (prog:Bs)(w:BG)(x:Str)(t:Tok):(BU prog w).is (.inr x) (.str x t)=true:=ur x t
inductive V where
 |non | bl (b:Bool) | int (i:Int) | str (x:Str) | byt (b:Array UInt8) | flt (b:UInt64) | ref (a:Av) | ty (n:String)
 deriving DecidableEq
def RelV:V->Ah->Prop
 |.non,u=>u=FZ
 |.bl b,u=>u=Jd b
 |.int i,u=>∃t,u=DB i t
 |.str x,u=>∃t,u=C2 x t
 |.byt b,u=>∃t,u=Vh b t
 |.flt b,u=>∃t,u=ND b t
 |.ref a,u=>u=AF a
 |.ty n,u=>u=DJ n
abbrev BF:List V->List Ah->Prop:=DW RelV
theorem BF.length {xs:List V}{us:List Ah}(r:BF xs us):xs.length=us.length:=DV r
theorem BF.get:∀{xs:List V}{us:List Ah}{i:Nat}{x:V},BF xs us->xs[i]? = some x->∃u,us[i]? = some u/\RelV x u
 |_,_,_,_,.nil,e=>by simp at e
 |_,_,0,_,.cons r _,e=>by simp at e;subst e;exact⟨_,rfl,r⟩
 |_,_,i+1,x,.cons _ t,e=>by
  obtain⟨u,h1,h2⟩:=BF.get t (by simpa using e);exact⟨u,by simpa using h1,h2⟩
theorem BF.append:∀{xs ys:List V}{us ws:List Ah},BF xs us->BF ys ws->BF (xs++ys) (us++ws)
 |_,_,_,_,.nil,s=>s
 |_,_,_,_,.cons r t,s=>.cons r (BF.append t s)
theorem BF.take:∀{xs:List V}{us:List Ah}(n:Nat),BF xs us->BF (xs.take n) (us.take n)
 |_,_,0,_=>.nil
 |_,_,_+1,.nil=>.nil
 |_,_,n+1,.cons r t=>.cons r (BF.take n t)
theorem BF.drop:∀{xs:List V}{us:List Ah}(n:Nat),BF xs us->BF (xs.drop n) (us.drop n)
 |_,_,0,r=>r
 |_,_,_+1,.nil=>.nil
 |_,_,n+1,.cons _ t=>BF.drop n t
def Il:Option V->Option Ah->Prop
 |some v,some u=>RelV v u
 |none,none=>True
 |_,_=>False
def KV :List (κ×V)->List (κ×Ah)->Prop:=DW λp q=>p.1=q.1/\RelV p.2 q.2
noncomputable def kV:Cd->V
 |.inl i=>.int i
 |.inr x=>.str x
inductive HO where
  |lst (xs:List V)
  |tup (xs:List V)
  |dK (AQ:List (Cd×V)) | dT (AQ:List (List Cd×V))
  |set (S:Int->Bool) (n:Nat)
  |ins (C dx:Av) (fs:List (Str×V))
  |own (x:Av)
  |xd (fs:List (Str×V))
  |met (f x:Av)
  |rng (lo hi:Int)
  |frz (o:Obj) (u:HO)
  |tbl (ps:Array Ah)
  |ext (φ:CU->Prop)
abbrev Hp:=Av->Option HO
noncomputable def CD (H:Hp)(a:Av)(o:HO):Hp:=λb=>if b=a then some o else H b
theorem MA :CD H a o a=some o:=by unfold CD;rw[if_pos rfl]
theorem Ij (h:b≠a):CD H a o b=H b:=by unfold CD;rw[if_neg h]
theorem xT {H:Hp}(h:H a=some o)(h':H b=some u)(d:o≠u):a≠b:=by
 intro e;subst e;rw[h]at h';exact d (Ba h')
theorem VW {H:Hp}(h:H a=some o)(h':H b=none):a≠b:=by
 intro e;subst e;rw[h]at h';cases h'
section
variable (P:Bs)(w:BG)
def Mh (h:CU)(a:Av)(items:Array Ah):Prop:=∃o,h.get? a=some o/\o.cls=.type "tuple"/\∃n,o.data=.seq items n/\o.dict=none
omit P w in
theorem Mh.tup (x:Mh h a items):IsTup h a items:=let ⟨o,e,c,n,d,_⟩:=x;⟨o,e,c,n,d⟩
omit P w in
theorem Mh.new (h:CU)(items:Array Ah):Mh (h.push {cls:=.type "tuple",data:=.seq items}) h.objs.size items:=⟨_,Ay _ rfl,rfl,_,rfl,rfl⟩
def CQ (H:Hp)(h:CU)(a:Av):HO->Prop
 |.lst xs=>xs.length<=Am/\∃Bj n,BF xs Bj/\h.get? a=some {cls:=.type "list",data:=.seq Bj.toArray n}
 |.tup xs=>xs.length<=Am/\∃Bj,BF xs Bj/\Mh h a Bj.toArray
 |.dK AQ=>AQ.length<=Am/\(a == EY)=false/\∃vs,KV AQ vs/\h.DictOf (BU P w) a vs
 |.dT AQ=>AQ.length<=Am/\(a == EY)=false/\∃xs,
   DW (λp q=>p.1=q.1/\H q.2.1=some (.tup (p.1.map kV))/\RelV p.2 q.2.2) AQ xs /\
   ∃o es ep,h.get? a=some o/\o.ExactDict/\o.data=.dict es ep/\es.toList=xs.map (entryOfKey (LM (BU P w)))/\(xs.map (·.1)).Nodup
 |.set S n=>h.SetOf (intKind P w) a S n
 |.ins C dx fs=>H dx=some (.own a)/\fs.length<=1000/\dx≠a/\h.get? a=some (De C dx) /\
   ∃mA,h.Ns1 dx mA/\(∀f,Il (fs.lookup f) (mA f))/\MG mA (fs.map (·.1))
 |.own _=>∃o,h.get? a=some o
 |.xd fs=>∃mA,h.Ns1 a mA/\∀f,Il (fs.lookup f) (mA f)
 |.rng lo hi=>∃t u v,h.get? a=some {cls:=.type "range",data:=.fields #[.int lo t,.int hi u,.int 1 v]}
 |.frz o u=>h.get? a=some o/\CQ H h a u
 |.tbl ps=>h.get? a=some {cls:=.none,data:=.fields ps}
 |.met f x=>h.get? a=some (On (.ref f) (.ref x))
 |.ext φ=>φ h/\(∃o,h.get? a=some o)/\∀h1 h2,φ h1->(∀o,h1.get? a=some o->h2.get? a=some o)->φ h2
def Ix (H:Hp)(h:CU):Prop:=∀a o,H a=some o->CQ P w H h a o
end
section
variable {P:Bs}{w:BG}
theorem CQ.lt (x:CQ P w H h a o):a<h.objs.size:=by
 cases o with
 |lst xs=>obtain⟨_,_,_,_,e⟩:=x;exact An e
 |tup xs=>obtain⟨_,_,_,p⟩:=x;exact(Mh.tup p).lt
 |dK AQ=>obtain⟨_,_,_,_,o,_,_,e,_⟩:=x;exact An e
 |dT AQ=>obtain⟨_,_,_,_,o,_,_,e,_⟩:=x;exact An e
 |set S n=>obtain⟨o,_,_,_,e,_⟩:=x;exact An e
 |ins C dx fs=>obtain⟨_,_,_,e,_⟩:=x;exact An e
 |own y=>obtain⟨_,e⟩:=x;exact An e
 |xd fs=>obtain⟨_,⟨_,_,_,e,_⟩,_⟩:=x;exact An e
 |rng lo hi=>obtain⟨_,_,_,e⟩:=x;exact An e
 |frz ob u=>obtain⟨e,_⟩:=x;exact An e
 |tbl ps=>exact An (show h.get? a=some _ from x)
 |met f y=>exact An (show h.get? a=some _ from x)
 |ext φ=>obtain⟨_,⟨_,e⟩,_⟩:=x;exact An e
theorem DW.mapP :∀{l₁:List α}{l₂:List β},DW F l₁ l₂->(∀a b,F a b->G a b)->DW G l₁ l₂
 |_,_,.nil,_=>.nil
 |_,_,.cons r t,f=>.cons (f _ _ r) (DW.mapP t f)
theorem CQ.stay (x:CQ P w H h a o)(k:∀b u,(b=a\/H b=some (.own a))->h.get? b=some u->h'.get? b=some u)
  (ho:∀b,H b=some (.own a)->H' b=some (.own a)) (ht:∀b xs,H b=some (.tup xs)->H' b=some (.tup xs)):CQ P w H' h' a o:=by
 induction o with
 |lst xs=>obtain⟨z,Bj,n,r,e⟩:=x;exact⟨z,Bj,n,r,k _ _ (.inl rfl) e⟩
 |tup xs=>obtain⟨z,Bj,r,ob,e,c⟩:=x;exact⟨z,Bj,r,ob,k _ _ (.inl rfl) e,c⟩
 |dK AQ=>obtain⟨z,y,vs,r,ob,es,ep,e,c⟩:=x;exact⟨z,y,vs,r,ob,es,ep,k _ _ (.inl rfl) e,c⟩
 |dT AQ=>obtain⟨z,y,xs,r,ob,es,ep,e,c⟩:_:=x;exact⟨z,y,xs,DW.mapP r λp q z=>⟨z.1,ht _ _ z.2.1,z.2.2⟩,ob,es,ep,k _ _ (.inl rfl) e,c⟩
 |set S n=>obtain⟨ob,es,ep,t,e,c⟩:=x;exact⟨ob,es,ep,t,k _ _ (.inl rfl) e,c⟩
 |ins C dx fs=>obtain⟨d,z,ne,e,mA,⟨od,es,ep,e2,c⟩,r⟩:_:=x;exact⟨ho _ d,z,ne,k _ _ (.inl rfl) e,mA,⟨od,es,ep,k _ _ (.inr d) e2,c⟩,r⟩
 |own y=>obtain⟨ob,e⟩:=x;exact⟨ob,k _ _ (.inl rfl) e⟩
 |xd fs=>obtain⟨mA,⟨od,es,ep,e,c⟩,r⟩:=x;exact⟨mA,⟨od,es,ep,k _ _ (.inl rfl) e,c⟩,r⟩
 |rng lo hi=>obtain⟨t,u,v,e⟩:=x;exact⟨t,u,v,k _ _ (.inl rfl) e⟩
 |frz ob u ih=>obtain⟨e,q⟩:=x;exact⟨k _ _ (.inl rfl) e,ih q⟩
 |tbl ps=>have e:=x;show h'.get? a=some {cls:=.none,data:=.fields ps};exact k a _ (.inl rfl) e
 |met f y=>have e:=x;show h'.get? a=some (On (.ref f) (.ref y));exact k a _ (.inl rfl) e
 |ext φ=>obtain⟨p,⟨o,e⟩,st⟩:=x;exact⟨st _ _ p λo q=>k _ _ (.inl rfl) q,⟨o,k _ _ (.inl rfl) e⟩,st⟩
theorem Ix.lt (x:Ix P w H h)(e:H a=some o):a<h.objs.size:=(x a o e).lt
theorem Ix.fresh (x:Ix P w H h)(e:h.objs.size<=a):H a=none:=by
 cases q:H a with
 |none=>rfl
 |some u=>exact absurd (Bk (x.lt q) e) (E4 _)
theorem Ix.kept (x:Ix P w H h)(k:∀b u,h.get? b=some u->h'.get? b=some u):Ix P w H h':=λa o e=>
 (x a o e).stay (λb u _ q=>k b u q) (λ_ q=>q) λ_ _ q=>q
theorem Ix.laid (x:Ix P w H h)(k:∀b u,h.get? b=some u->h'.get? b=some u)(hp:h.objs.size<=a)(new:CQ P w (CD H a o) h' a o):Ix P w (CD H a o) h':=λb u e=>by
 have hn:=x.fresh hp;by_cases hb:b=a
 .subst hb;rw[MA]at e;cases e;exact new
 .rw[Ij hb]at e;exact(x b u e).stay (λc v _ q=>k c v q) (λc q=>by rw[Ij (VW q hn)];exact q) λc xs q=>by rw[Ij (VW q hn)];exact q
end
def Rd (H:Hp)(a:Av)(u:HO):Prop:=H a=some u\/∃o,H a=some (.frz o u)
theorem Rd.ok {P:Bs}{w:BG}{H:Hp}{h:CU}{a:Av}{u:HO}(r:Rd H a u)(x:Ix P w H h):CQ P w H h a u:=by
 rcases r with r|⟨o,r⟩
 .exact x a u r
 .obtain⟨_,q⟩:=x a _ r;exact q
def YG:Option HO->Prop
 |some (.lst _)=>True
 |some (.dK _)=>True
 |some (.dT _)=>True
 |some (.set _ _)=>True
 |some (.ins _ _ _)=>True
 |some (.ext _)=>True
 |_=>False
section
theorem Ix.write (ok:Ix P w H h)(mu:YG (H x))(he:e=x\/H e=some (.own x))(k:∀b u,b≠e->h.get? b=some u->h'.get? b=some u)(heo:∃u,h'.get? e=some u)
  (new:CQ P w (CD H x o') h' x o'):Ix P w (CD H x o') h':=λb u q=>by
 have nown:∀c y,H c=some (.own y)->c≠x:=λc y r z=>by subst z;rw[r]at mu;exact mu
 have ntup:∀c xs,H c=some (.tup xs)->c≠x:=λc xs r z=>by subst z;rw[r]at mu;exact mu
 by_cases hb:b=x
 .subst hb;rw[MA]at q;cases q;exact new
 .rw[Ij hb]at q;by_cases hbe:b=e
  .have q':H b=some (.own x):=by
    rcases he with z|z
    .exact absurd (hbe.trans z) hb
    .rw[hbe];exact z
   rw[q]at q';cases q';obtain⟨v,hv⟩:=heo;exact⟨v,by rw[hbe];exact hv⟩
  .refine(ok b u q).stay (λc v hc r=>k c v ?_ r) (λc r=>by rw[Ij (nown c b r)];exact r) λc xs r=>by rw[Ij (ntup c xs r)];exact r
   rcases hc with rfl|hc
   .exact hbe
   .rintro rfl;rcases he with z|z
    .exact nown c b hc z
    .rw[hc]at z;cases z;exact hb rfl
end
structure Un (fs ex:List Av)(H H':Hp)(h h':CU):Prop where
 keep:∀b o,h.get? b=some o->H b=none->b∉fs->b∉ex->h'.get? b=some o
 slot:∀b o,h.get? b=some o->H b=none->b∈fs->b∉ex->∃sl,h'.get? b=some {o with slots:=sl}
 free:∀b o,h.get? b=some o->H b=none->b∉ex->H' b=none
 there:∀b o,h.get? b=some o->b∉ex->∃o',h'.get? b=some o'
 tups:∀b xs,H b=some (.tup xs)->H' b=some (.tup xs)
 frzs:∀b o u,H b=some (.frz o u)->H' b=some (.frz o u)
 tbls:∀b ps,H b=some (.tbl ps)->∃more,H' b=some (.tbl (ps++more))
section
variable  {H:Hp}  {a:Av}
theorem Un.any (u:Un fs ex H H1 h h1)(q:h.get? b=some ob)(n:H b=none)(hx:b∉ex):∃sl,h1.get? b=some {ob with slots:=sl}:=by
 by_cases hb:b∈fs
 .exact u.slot b ob q n hb hx
 .exact⟨ob.slots,u.keep b ob q n hb hx⟩
theorem Un.kept (k:∀b u,h.get? b=some u->h'.get? b=some u):Un fs ex H H h h':=
 ⟨λb ob q _ _ _=>k b ob q,λb ob q _ _ _=>⟨ob.slots,k b ob q⟩,λ_ _ _ n _=>n,λb ob q _=>⟨ob,k b ob q⟩,λ_ _ q=>q,λ_ _ _ q=>q,λ_ ps q=>⟨#[],by rw[q];simp⟩⟩
theorem Un.refl:Un fs ex H H h h:=Un.kept λ_ _ q=>q
theorem Un.laid (k:∀b u,h.get? b=some u->h'.get? b=some u)(hp:h.objs.size<=a)(hn:H a=none):Un fs ex H (CD H a o) h h' where
 keep:=λb u q _ _ _=>k b u q
 slot:=λb u q _ _ _=>⟨u.slots,k b u q⟩
 free:=λb u q n _=>by rw[Ij (A5 (Bk (An q) hp))];exact n
 there:=λb u q _=>⟨u,k b u q⟩
 tups:=λb xs q=>by rw[Ij (VW q hn)];exact q
 frzs:=λb u xs q=>by rw[Ij (VW q hn)];exact q
 tbls:=λb ps q=>⟨#[],by rw[Ij (VW q hn),q];simp⟩
theorem Un.write (mu:YG (H x))(he:e=x\/H e=some (.own x))(k:∀b u,b≠e->h.get? b=some u->h'.get? b=some u)(heo:∃u,h'.get? e=some u):Un fs ex H (CD H x o) h h':=by
 have hx:∀b,H b=none->b≠x:=λb n z=>by subst z;rw[n]at mu;exact mu
 have hb:∀b,H b=none->b≠e:=λb n z=>by
  subst z;rcases he with r|r
  .exact hx b n r
  .rw[n]at r;cases r
 have hm:∀b u,H b=some u->¬YG (some u)->b≠x:=λb u q nm z=>by subst z;rw[q]at mu;exact nm mu
 refine ⟨λb u q n _ _=>k b u (hb b n) q,λb u q n _ _=>⟨u.slots,k b u (hb b n) q⟩,λb u q n _=>by rw [Ij (hx b n)];exact n,λb u q _=>?_,
  λb xs q=>by rw [Ij (hm b _ q λz=>z)];exact q,λb u xs q=>by rw [Ij (hm b _ q λz=>z)];exact q,λb ps q=>⟨#[],by rw [Ij (hm b _ q λz=>z),q];simp⟩⟩
 by_cases hbe:b=e
 .subst hbe;exact heo
 .exact⟨u,k b u hbe q⟩
end
noncomputable def Zj (h:CU)(H:Hp):List Av:=(Bl h.objs.size).filter λa=>(H a).isSome
noncomputable def Mb (h:CU)(H:Hp):CU:=PySem.W.hideAll h (Zj h H)
theorem ul (h:CU)(H:Hp):(Mb h H).objs.size=h.objs.size:=PySem.W.hideAll_size _ _
theorem pi (e:h.get? b=some o)(n:H b=none):(Mb h H).get? b=some o:=
 PySem.W.hideAll_get _ e λhm=>by
  have q:=(B4.mp hm).2;rw[n]at q;simp at q
theorem jf (e:(Mb h H).get? b=some o):h.get? b=some o/\H b=none:=by
 have e':=PySem.W.of_hideAll (Zj h H) e;refine⟨e',?_⟩;cases q:H b with
 |none=>rfl
 |some x=>have hm:b∈Zj h H:=B4.mpr ⟨Ct.mpr (An e'),by simp[q]⟩;have z:(Mb h H).get? b=none:=PySem.W.hideAll_none (Zj h H) hm;rw[z]at e;cases e
noncomputable def R4 (g h:CU)(L:Av):List (Av×Obj):=(Bl h.objs.size).filterMap λa=>if a=L\/(g.get? a).isSome=true then none else(h.get? a).map λo=>(a,o)
noncomputable def CK (g h:CU)(L d:Av):List (Av×Obj):=(R4 g h L).filter λp=>decide (p.1≠d)
structure Mod (K:Ac)(mg:Str->Option Ah)(base:CU):Prop where
 kin:K.In base
 glob:base.Ns BY mg
 blt:∃mb,base.Ns Tu mb/\∀x:Str,x≠"__name__"->mb x=Dc x
 nolimit:base.NoLimit
structure Cx where
 prog:Bs
 w:BG
 K:Ac
 mg:Str->Option Ah
 base:CU
 A:Ck
 N:List Str
 s₀:Ap
 H₀:Hp
 env:Env
 outer:List Env
 stack:List Env
 ex:List Av
 fn:Str->Bool
 calm:Bool
 pn:List (Av×Obj)
 xe:Ah->Ap->Prop
 fz:List (Av×Obj×HO):=[]
noncomputable def PF (l:List Env):List Av:=l.filterMap (·.frame)
noncomputable abbrev Cx.fs (X:Cx):List Av:=PF X.outer
def YB (sc:Lo)(x:Str):Prop:=sc.names.lookup x=some .local\/sc.names.lookup x=some .cell\/sc.names.lookup x=some .free
def UW (sc:Lo)(x:Str):Prop:=sc.names.lookup x=some .local\/sc.names.lookup x=some .cell
def kF (env:Env)(h:CU)(m:Str->Option Ah)(x:Str)(u:Ah):Prop:=
 (env.kindOf x=some .local/\m x=some u)\/((env.kindOf x=some .cell\/env.kindOf x=some .free)/\∃c,env.cells.lookup x=some c/\h.IsCell c (some u))
structure Cx.Ok (X:Cx):Prop where
 mod:Mod X.K X.mg X.base
 kind:X.env.scope.kind=.function
 glob:X.env.globals=BY
 blt:X.env.builtins=Tu
 above:X.s₀.heap.objs.size<=X.env.locals
 inj:∀x y c,X.env.cells.lookup x=some c->X.env.cells.lookup y=some c->x=y
 has:∀x,(X.env.kindOf x=some .cell\/X.env.kindOf x=some .free)->∃c,X.env.cells.lookup x=some c
 cab:∀x c,X.fn x=true->X.env.cells.lookup x=some c->X.s₀.heap.objs.size<=c
 hd:X.calm=true->X.A.handled=none
 frames:X.A.frames=some X.stack
 stk:X.stack=X.outer\/(X.stack=X.env::X.outer/\X.env.frame=some X.env.locals)
 exf:∀b∈X.ex,b≠X.env.locals/\∀x c,X.env.cells.lookup x=some c->c≠b
 bs:∀b o,X.base.get? b=some o->X.s₀.heap.get? b=some o/\X.H₀ b=none
 bsz:X.base.objs.size<=X.s₀.heap.objs.size
 noex:∀b o,X.base.get? b=some o->b∉X.ex
 exfs:∀b∈X.ex,b∉X.fs
 funs:X.s₀.heap.FunFrames X.base X.outer
 frf:∀b∈X.fs,X.H₀ b=none
structure A6 (X:Cx)(Ad:List (Av×Obj))(U:List (Option V))(H:Hp)(s:Ap):Prop where
 ok:X.Ok
 os:s.os=X.s₀.os
 bare:IH s.gens
 base:Un X.fs X.ex X.H₀ H X.s₀.heap s.heap
 loc:∃m,s.heap.Ns X.env.locals m/\∀(i:Nat) (x:Str) (v:V),X.N[i]? = some x->U[i]? = some (some v)->YB X.env.scope x->∃u,RelV v u/\kF X.env s.heap m x u
 cell:∀x c,X.env.cells.lookup x=some c->∃v,s.heap.IsCell c v
 free:H X.env.locals=none
 freeC:∀x c,X.env.cells.lookup x=some c->H c=none
 pin:∀p∈X.pn++Ad,s.heap.get? p.1=some p.2/\H p.1=none/\p.1≠X.env.locals/\p.1∉X.fs/\∀v,p.2.data≠.cell v
 hok:Ix X.prog X.w H s.heap
 len:U.length=X.N.length
 fzd:∀f∈X.fz,H f.1=some (.frz f.2.1 f.2.2)
section
variable {X:Cx}{Ad:List (Av×Obj)}{U:List (Option V)}{H:Hp}{s:Ap}{h':CU}
theorem Cx.Ok.nofr (ok:X.Ok)(e:X.base.get? b=some o):b∉X.fs:=λhb=>by
 have:=(ok.funs.mem hb).1;rw[e]at this;cases this
theorem A6.bs (I:A6 X Ad U H s):∀b o,X.base.get? b=some o->s.heap.get? b=some o/\H b=none:=λb o e=>
 ⟨I.base.keep b o (I.ok.bs b o e).1 (I.ok.bs b o e).2 (I.ok.nofr e) (I.ok.noex b o e),I.base.free b o (I.ok.bs b o e).1 (I.ok.bs b o e).2 (I.ok.noex b o e)⟩
theorem A6.bk (I:A6 X Ad U H s):∀b o,X.base.get? b=some o->s.heap.get? b=some o:=λb o e=>(I.bs b o e).1
theorem A6.mod (I:A6 X Ad U H s):Mod X.K X.mg X.base:=I.ok.mod
theorem A6.kIn (I:A6 X Ad U H s):X.K.In s.heap:=I.ok.mod.kin.keeps I.bk
theorem A6.lt (I:A6 X Ad U H s):X.env.locals<s.heap.objs.size:=let ⟨_,hn,_⟩:=I.loc;hn.lt
theorem A6.sz (I:A6 X Ad U H s):X.s₀.heap.objs.size<=s.heap.objs.size:=AY I.ok.above (FW I.lt)
theorem A6.nofs (I:A6 X Ad U H s)(h:s.heap.objs.size<=a):a∉X.fs:=λhb=>by
 obtain⟨_,o,ho,_⟩:=I.ok.funs.mem hb;exact absurd (Bk (An ho) (AY I.sz h)) (E4 _)
theorem A6.cne (I:A6 X Ad U H s):∀x c,X.env.cells.lookup x=some c->c≠X.env.locals:=λx c e z=>by
 obtain⟨v,o,ho,hd⟩:=I.cell x c e;obtain⟨m,⟨o',es,ep,ho',hd',_⟩,_⟩:=I.loc;rw[z,ho']at ho;cases ho;rw[hd']at hd;cases hd
theorem A6.funs (I:A6 X Ad U H s):s.heap.FunFrames X.base X.outer:=by
 have all:∀l,(∀b∈PF l,b∈X.fs)->X.s₀.heap.FunFrames X.base l->s.heap.FunFrames X.base l:=by
  intro l;induction l with
  |nil=>intro _ _;trivial
  |cons env r ih=>intro hs;ext1⟨hk,⟨L,o,hf,hn,ho,hd⟩,hr⟩;have hL:=hs L (by unfold PF;rw[CT,hf];exact AA);obtain⟨sl,e⟩:=I.base.slot L o ho (I.ok.frf L hL) hL λz=>I.ok.exfs L z hL;exact⟨hk,⟨L,_,hf,hn,e,hd⟩,ih (λb hb=>hs b (by unfold PF;rw[CT,hf];exact Aw _ hb)) hr⟩
 exact all X.outer (λ_ hb=>hb) I.ok.funs
theorem A6.stack (I:A6 X Ad U H s):s.heap.FunFrames X.base X.stack:=by
 rcases I.ok.stk with e|⟨e,hf⟩
 .rw[e];exact I.funs
 .rw[e];obtain⟨m,hn,_⟩:=I.loc;refine .cons (by rw[I.ok.kind];decide) hf hn ?_ I.funs;exact Heap.get?_none_of_le (AY I.ok.bsz I.ok.above)
theorem A6.stkSub (I:A6 X Ad U H s):∀b∈PF X.stack,b∈X.env.locals::X.fs:=λb hb=>by
 rcases I.ok.stk with e|⟨e,hf⟩
 .rw[e]at hb;exact Aw _ hb
 .rw[e]at hb;unfold PF at hb;rw[CT,hf]at hb;exact hb
theorem A6.stkFree (I:A6 X Ad U H s):∀b∈PF X.stack,H b=none:=λb hb=>by
 rcases AU.mp (I.stkSub b hb)with e|hb
 .rw[e];exact I.free
 .obtain⟨_,o,ho,_⟩:=I.ok.funs.mem hb;exact I.base.free b o ho (I.ok.frf b hb) λz=>I.ok.exfs b z hb
theorem A6.step {g':Array bR}{t':Nat}{d':Drawn}{ch:List Av}(I:A6 X Ad U H s)
  (hch:∀b∈ch,(b∈X.ex\/X.s₀.heap.objs.size<=b)/\b≠X.env.locals/\(∀x c,X.env.cells.lookup x=some c->c≠b)/\∀p∈X.pn++Ad,p.1≠b)
  (keep:∀b o,b≠X.env.locals->b∉X.fs->b∉ch->s.heap.get? b=some o->H b=none->h'.get? b=some o)
  (slot:∀b o,b≠X.env.locals->b∈X.fs->b∉ch->s.heap.get? b=some o->H b=none->∃sl,h'.get? b=some {o with slots:=sl}) (free:∀b o,b∉ch->s.heap.get? b=some o->H b=none->H' b=none)
  (there:∀b o,b∉ch->s.heap.get? b=some o->∃o',h'.get? b=some o')
  (tups:∀b xs,H b=some (.tup xs)->H' b=some (.tup xs)) (frzs:∀b o u,H b=some (.frz o u)->H' b=some (.frz o u)) (tbls:∀b ps,H b=some (.tbl ps)->∃more,H' b=some (.tbl (ps++more)))
  (ns:∀m,s.heap.Ns X.env.locals m->h'.Ns X.env.locals m) (hok:Ix X.prog X.w H' h') (hg:IH g') :
  A6 X Ad U H' {s with heap:=h',gens:=g',drawn:=d',toks:=t' }:=by
 have neL:∀b o,X.s₀.heap.get? b=some o->b≠X.env.locals:=λb o e=>A5 (Bk (An e) I.ok.above)
 have neC:∀b o,X.s₀.heap.get? b=some o->b∉X.ex->b∉ch:=λb o e hx hb=>by
  rcases(hch b hb).1 with z|z
  .exact hx z
  .exact absurd (Bk (An e) z) (E4 _)
 have cellK:∀x c,X.env.cells.lookup x=some c->∀v,s.heap.IsCell c v->h'.IsCell c v:=λx c e v ⟨o,ho,hd⟩=>by
  have nch:c∉ch:=λz=>(hch c z).2.2.1 x c e rfl;by_cases hc:c∈X.fs
  .obtain⟨sl,q⟩:=slot c o (I.cne x c e) hc nch ho (I.freeC x c e);exact⟨_,q,hd⟩
  .exact⟨o,keep c o (I.cne x c e) hc nch ho (I.freeC x c e),hd⟩
 refine⟨I.ok,I.os,hg,⟨λb o e n hb hx=>?_,λb o e n hb hx=>?_,λb o e n hx=>?_,λb o e hx=>?_,λb xs e=>tups b xs (I.base.tups b xs e),λb o xs e=>frzs b o xs (I.base.frzs b o xs e),λb ps e=>?_⟩,?_,λx c e=>?_,?_,λx c e=>?_,λp hp=>?_,hok,I.len,λf hf=>frzs f.1 f.2.1 f.2.2 (I.fzd f hf)⟩
 .exact keep b o (neL b o e) hb (neC b o e hx) (I.base.keep b o e n hb hx) (I.base.free b o e n hx)
 .obtain⟨sl,e1⟩:=I.base.slot b o e n hb hx;obtain⟨sl',e2⟩:=slot b _ (neL b o e) hb (neC b o e hx) e1 (I.base.free b o e n hx);exact⟨sl',e2⟩
 .obtain⟨o',e1⟩:=I.base.there b o e hx;exact free b o' (neC b o e hx) e1 (I.base.free b o e n hx)
 .obtain⟨o',e1⟩:=I.base.there b o e hx;exact there b o' (neC b o e hx) e1
 .obtain⟨m1,e1⟩:=I.base.tbls b ps e;obtain⟨m2,e2⟩:=tbls b _ e1;exact⟨m1++m2,by rw[e2,Array.append_assoc]⟩
 .obtain⟨m,hn,hl⟩:=I.loc;refine⟨m,ns m hn,λi x v e1 e2 e3=>?_⟩;obtain⟨u,r,l⟩:=hl i x v e1 e2 e3;refine⟨u,r,?_⟩;rcases l with l|⟨k,c,e,z⟩
  .exact .inl l
  .exact .inr ⟨k,c,e,cellK x c e _ z⟩
 .obtain⟨v,z⟩:=I.cell x c e;exact⟨v,cellK x c e v z⟩
 .obtain⟨m,⟨o,_,_,ho,_⟩,_⟩:=I.loc;exact free _ o (λz=>(hch _ z).2.1 rfl) ho I.free
 .obtain⟨v,o,ho,hd⟩:=I.cell x c e;exact free c o (λz=>(hch c z).2.2.1 x c e rfl) ho (I.freeC x c e)
 .obtain⟨e,n,ne,nf,d⟩:=I.pin p hp;have nch:p.1∉ch:=λz=>(hch p.1 z).2.2.2 p hp rfl;exact⟨keep p.1 p.2 ne nf nch e n,free p.1 p.2 nch e n,ne,nf,d⟩
theorem A6.un {t':Nat}(I:A6 X Ad U H s)(u:Un X.fs [] H H' s.heap h')(hok:Ix X.prog X.w H' h'):A6 X Ad U H' {s with heap:=h',toks:=t' }:=by
 obtain⟨m,⟨o,es,ep,ho,r⟩,_⟩:_:=id I.loc;obtain⟨sl,hL⟩:=u.any ho I.free (by simp)
 exact I.step (ch:=[]) (λ_ z=>nomatch z) (λb o _ hb _ e n=>u.keep b o e n hb (by simp)) (λb o _ hb _ e n=>u.slot b o e n hb (by simp)) (λb o _ e n=>u.free b o e n (by simp)) (λb o _ e=>u.there b o e (by simp)) u.tups u.frzs u.tbls (λm' hm=>by
  obtain ⟨o',es',ep',ho',r'⟩:=hm;rw [ho] at ho';cases ho';exact ⟨_,es',ep',hL,r'⟩) hok I.bare
theorem A6.call {g':Array bR}{t':Nat}{d':Drawn}{ch:List Av}(I:A6 X Ad U H s)(u:Un (PF X.stack) ch H H' s.heap h')(hok:Ix X.prog X.w H' h')(hg:IH g')
  (hch:∀b∈ch,(b∈X.ex\/X.s₀.heap.objs.size<=b)/\b≠X.env.locals/\(∀x c,X.env.cells.lookup x=some c->c≠b)/\∀p∈X.pn++Ad,p.1≠b) :
  A6 X Ad U H' {s with heap:=h',gens:=g',drawn:=d',toks:=t' }:=by
 obtain⟨m,⟨o,es,ep,ho,r⟩,_⟩:_:=id I.loc;obtain⟨sl,hL⟩:=u.any ho I.free λz=>(hch _ z).2.1 rfl
 exact I.step hch (λb o hL hb hc e n=>u.keep b o e n (λz=>(AU.mp (I.stkSub b z)).elim hL hb) hc) (λb o _ _ hc e n=>u.any e n hc) (λb o hc e n=>u.free b o e n hc) (λb o hc e=>u.there b o e hc) u.tups u.frzs u.tbls (λm' hm=>by
  obtain ⟨o',es',ep',ho',r'⟩:=hm;rw [ho] at ho';cases ho';exact ⟨_,es',ep',hL,r'⟩) hok hg
theorem A6.turned {it:Av}(I:A6 X Ad U H s)(k:∀b o,b≠it->s.heap.get? b=some o->h'.get? b=some o)(hn:H it=none)(hL:it≠X.env.locals)
  (h1:it∈X.ex\/X.s₀.heap.objs.size<=it) (h2:∀x c,X.env.cells.lookup x=some c->c≠it) (h3:∀p∈X.pn++Ad,p.1≠it):A6 X Ad U H {s with heap:=h',toks:=t' }:=by
 have nit:∀b u,H b=some u->b≠it:=λb u e z=>by rw[z,hn]at e;cases e
 refine I.step (ch:=[it]) (λb hb=>?_) (λb o _ _ hc e _=>k b o (λz=>hc (by simp[z])) e) (λb o _ _ hc e _=>⟨o.slots,k b o (λz=>hc (by simp[z])) e⟩) (λ_ _ _ _ n=>n)
  (λb o hc e=>⟨o,k b o (λz=>hc (by simp[z])) e⟩) (λ_ _ e=>e) (λ_ _ _ e=>e) (λb ps e=>⟨#[],by rw[e];simp⟩) (λm hm=>?_) (λb u e=>?_) I.bare
 .have e:b=it:=by simpa using hb
  subst e;exact⟨h1,hL,h2,h3⟩
 .obtain⟨o,es,ep,ho,r⟩:=hm;exact⟨o,es,ep,k _ o (Bg hL) ho,r⟩
 .refine(I.hok b u e).stay (λc v hc q=>k c v ?_ q) (λ_ q=>q) λ_ _ q=>q;rcases hc with z|z
  .rw[z];exact nit b u e
  .exact nit c _ z
theorem A6.tok (I:A6 X Ad U H s)(t:Nat):A6 X Ad U H {s with toks:=t}:=I.un Un.refl I.hok
theorem A6.kept (I:A6 X Ad U H s)(k:∀b u,s.heap.get? b=some u->h'.get? b=some u):A6 X Ad U H {s with heap:=h',toks:=t' }:=I.un (Un.kept k) (I.hok.kept k)
theorem A6.laid (I:A6 X Ad U H s)(k:∀b u,s.heap.get? b=some u->h'.get? b=some u)(hp:s.heap.objs.size<=a)(new:CQ X.prog X.w (CD H a o) h' a o) :
  A6 X Ad U (CD H a o) {s with heap:=h',toks:=t' }:=I.un (Un.laid k hp (I.hok.fresh hp)) (I.hok.laid k hp new)
theorem A6.write (I:A6 X Ad U H s)(mu:YG (H x))(he:e=x\/H e=some (.own x))(k:∀b u,b≠e->s.heap.get? b=some u->h'.get? b=some u)(heo:∃u,h'.get? e=some u)
  (new:CQ X.prog X.w (CD H x o) h' x o):A6 X Ad U (CD H x o) {s with heap:=h',toks:=t' }:=I.un (Un.write mu he k heo) (I.hok.write mu he k heo new)
theorem A6.pins_of (I:A6 X Ad U H s)(h:∀p∈pins',s.heap.get? p.1=some p.2/\H p.1=none/\p.1≠X.env.locals/\p.1∉X.fs/\∀v,p.2.data≠.cell v):A6 X pins' U H s:=
 ⟨I.ok,I.os,I.bare,I.base,I.loc,I.cell,I.free,I.freeC,λp hp=>(AH.mp hp).elim (λz=>I.pin p (BB _ z)) (h p),I.hok,I.len,I.fzd⟩
theorem qW {N:List Str}(hN:N.Nodup){i j:Nat}{x:Str}(a:N[i]? = some x)(b:N[j]? = some x):i=j:=by
 obtain⟨h1,e1⟩:=Au.mp a;obtain⟨h2,e2⟩:=Au.mp b;exact(JB hN).mp (e1.trans e2.symm)
theorem tN {M:Model}{A:Ck}{E:Ah->Ap->Prop}{i:Nat}{x:Str}{v:V}{u:Ah}{Q:Unit->Ap->Prop}(I:A6 X Ad U H s)(hN:X.N.Nodup)(hi:X.N[i]? = some x)(hx:UW X.env.scope x)(r:RelV v u)
  (h:∀s',A6 X Ad (U.set i (some v)) H s'->(∃a,By a s.heap s'.heap/\(a=X.env.locals\/X.env.cells.lookup x=some a))->Q () s') (hf:X.fn x=true\/X.env.scope.names.lookup x=some .local:=by first | exact .inl rfl | exact .inr rfl | assumption):Aq M A (storeName X.env x u) Q E s:=by
 obtain⟨m,hn,hl⟩:=id I.loc;have hcls:(X.env.scope.kind == .class || (X.env.scope.kind == .module && X.env.locals != X.env.globals))=false:=by rw[I.ok.kind];rfl
 have hiσ:i<U.length:=by rw[I.len];exact(Au.mp hi).1
 have cne:=I.cne
 have tracked:∀{a:Av} {h':CU},(∃o,s.heap.get? a=some o/\H a=none)->By a s.heap h'->Ix X.prog X.w H h':=λ{a h'} ha hs b ob e=>by
  obtain⟨_,_,hfree⟩:=ha;refine(I.hok b ob e).stay (λc w' hc q=>(hs.2 c ?_).trans q) (λ_ q=>q) λ_ _ q=>q;rintro rfl;rcases hc with rfl|hc
  .rw[hfree]at e;cases e
  .rw[hfree]at hc;cases hc
 rcases hx with hk|hk
 .refine wpAny_storeName_local hk hn (λh' hn' hs=>?_) hcls;obtain⟨oL,_,_,hoL,_⟩:=id hn;refine h _ ⟨I.ok,I.os,I.bare,⟨λb o e n hb hx=>?_,λb o e n hb hx=>?_,I.base.free,λb o e hx=>?_,I.base.tups,I.base.frzs,I.base.tbls⟩,⟨_,hn',λj y v' e1 e2 e3=>?_⟩,λy c e=>?_,I.free,I.freeC,λp hp=>?_,tracked ⟨oL,hoL,I.free⟩ hs,by simpa using I.len,I.fzd⟩ ⟨_,hs,.inl rfl⟩
  .exact(hs.2 b (A5 (Bk (An e) I.ok.above))).trans (I.base.keep b o e n hb hx)
  .obtain⟨sl,e1⟩:=I.base.slot b o e n hb hx;exact⟨sl,(hs.2 b (A5 (Bk (An e) I.ok.above))).trans e1⟩
  .obtain⟨o',e1⟩:=I.base.there b o e hx;exact⟨o',(hs.2 b (A5 (Bk (An e) I.ok.above))).trans e1⟩
  .by_cases hj:j=i
   .subst hj;rw[hi]at e1;cases e1;rw[Ng hiσ]at e2;cases e2;exact⟨u,r,.inl ⟨hk,by simp⟩⟩
   .rw[Ow (Bg hj)]at e2;obtain⟨u',r',q⟩:=hl j y v' e1 e2 e3;refine⟨u',r',?_⟩;rcases q with⟨k,e⟩|⟨k,c,e,z⟩
    .refine .inl ⟨k,?_⟩;have:y≠x:=λe=>hj (qW hN e1 (e ▸ hi));simp[this,e]
    .exact .inr ⟨k,c,e,z.sameBut hs (cne y c e)⟩
  .obtain⟨w',z⟩:=I.cell y c e;exact⟨w',z.sameBut hs (cne y c e)⟩
  .obtain⟨e,n,ne,nf,d⟩:=I.pin p hp;exact⟨(hs.2 p.1 ne).trans e,n,ne,nf,d⟩
 .have hfn:X.fn x=true:=by
   rcases hf with z|z
   .exact z
   .rw[z]at hk;cases hk
  obtain⟨c,hc⟩:=I.ok.has x (.inl hk);obtain⟨w',z⟩:=I.cell x c hc;refine wpAny_storeName_cell I.ok.kind hk hc z (λh' hc' hs=>?_);obtain⟨oc,hoc,hocd⟩:=id z;refine h {s with heap:=h' } ⟨I.ok,I.os,I.bare,⟨λb o e n hb hx=>?_,λb o e n hb hx=>?_,I.base.free,λb o e hx=>?_,I.base.tups,I.base.frzs,I.base.tbls⟩,⟨m,hn.sameBut hs (Bg (cne x c hc)),λj y v' e1 e2 e3=>?_⟩,λy c' e=>?_,I.free,I.freeC,λp hp=>?_,tracked ⟨oc,hoc,I.freeC x c hc⟩ hs,by simpa using I.len,I.fzd⟩ ⟨c,hs,.inr hc⟩
  .exact(hs.2 b (A5 (Bk (An e) (I.ok.cab x c hfn hc)))).trans (I.base.keep b o e n hb hx)
  .obtain⟨sl,e1⟩:=I.base.slot b o e n hb hx;exact⟨sl,(hs.2 b (A5 (Bk (An e) (I.ok.cab x c hfn hc)))).trans e1⟩
  .obtain⟨o',e1⟩:=I.base.there b o e hx;exact⟨o',(hs.2 b (A5 (Bk (An e) (I.ok.cab x c hfn hc)))).trans e1⟩
  .by_cases hj:j=i
   .subst hj;rw[hi]at e1;cases e1;rw[Ng hiσ]at e2;cases e2;exact⟨u,r,.inr ⟨.inl hk,c,hc,hc'⟩⟩
   .rw[Ow (Bg hj)]at e2;obtain⟨u',r',q⟩:=hl j y v' e1 e2 e3;refine⟨u',r',?_⟩;rcases q with q|⟨k,c',e,z'⟩
    .exact .inl q
    .refine .inr ⟨k,c',e,z'.sameBut hs ?_⟩;rintro rfl;exact hj (qW hN e1 (I.ok.inj _ _ _ e hc ▸ hi))
  .by_cases hcc:c'=c
   .subst hcc;exact⟨_,hc'⟩
   .obtain⟨w2,z2⟩:=I.cell y c' e;exact⟨w2,z2.sameBut hs hcc⟩
  .obtain⟨e,n,ne,nf,d⟩:=I.pin p hp;refine⟨(hs.2 p.1 ?_).trans e,n,ne,nf,d⟩;intro q;rw[q,hoc]at e;have q':=Ba e;exact d w' (by rw[<- q'];exact hocd)
theorem ZY (I:A6 X Ad U H s)(hN:X.N.Nodup)(hi:X.N[i]? = some x)(hx:UW X.env.scope x)(r:RelV v u)
  (h:∀s',A6 X Ad (U.set i (some v)) H s'->Q () s') (hf:X.fn x=true\/X.env.scope.names.lookup x=some .local:=by first | exact .inl rfl | exact .inr rfl | assumption):Aq M A (storeName X.env x u) Q E s:=
 tN I hN hi hx r (λs' I' _=>h s' I') hf
theorem A6.call' (I:A6 X Ad U H s)(ho:s'.os=s.os)(u:Un (PF X.stack) ch H H' s.heap s'.heap)(hok:Ix X.prog X.w H' s'.heap)(hg:IH s'.gens)
  (hch:∀b∈ch,(b∈X.ex\/X.s₀.heap.objs.size<=b)/\b≠X.env.locals/\(∀x c,X.env.cells.lookup x=some c->c≠b)/\∀p∈X.pn++Ad,p.1≠b):A6 X Ad U H' s':=by
 obtain⟨h',g',d',t',o'⟩:=s';have e:=ho;subst e;exact I.call u hok hg hch
end
abbrev XK:=Ah->Option Av->Hp->Prop
abbrev St:=List (Option V)
abbrev VK:=V->Hp->Prop
abbrev TE:=St->Hp->VK->Prop
abbrev TT:=St->Hp->(Bool->Hp->Prop)->Prop
abbrev TA:=St->Hp->(List V->Hp->Prop)->Prop
structure Oh where
 nx:St->Hp->Prop
 rt:VK
 bk:St->Hp->Prop:=λ_ _=>False
 ct:St->Hp->Prop:=λ_ _=>False
abbrev TS:=Oh->St->Hp->Prop
def EP (X:Cx)(Ad:List (Av×Obj))(U:St)(Q:VK)(u:Ah)(s':Ap):Prop:=∃v H',A6 X Ad U H' s'/\RelV v u/\Q v H'
def TP (X:Cx)(Ad:List (Av×Obj))(U:St)(Q:Bool->Hp->Prop)(b:Bool)(s':Ap):Prop:=∃H',A6 X Ad U H' s'/\Q b H'
def AP (X:Cx)(Ad:List (Av×Obj))(U:St)(Q:List V->Hp->Prop)(us:List Ah)(s':Ap):Prop:=∃vs H',A6 X Ad U H' s'/\BF vs us/\Q vs H'
theorem EP.el {X:Cx}{Ad:List (Av×Obj)}{U:St}{Q:VK}{u:Ah}{s:Ap}{G:Prop}:EP X Ad U Q u s->(∀v H,A6 X Ad U H s->RelV v u->Q v H->G)->G:=λ⟨v,H,i,r,q⟩ k=>k v H i r q
theorem AP.el {X:Cx}{Ad:List (Av×Obj)}{U:St}{Q:List V->Hp->Prop}{u:List Ah}{s:Ap}{G:Prop}:AP X Ad U Q u s->(∀v H,A6 X Ad U H s->BF v u->Q v H->G)->G:=λ⟨v,H,i,r,q⟩ k=>k v H i r q
theorem TP.el {X:Cx}{Ad:List (Av×Obj)}{U:St}{Q:Bool->Hp->Prop}{u:Bool}{s:Ap}{G:Prop}:TP X Ad U Q u s->(∀H,A6 X Ad U H s->Q u H->G)->G:=λ⟨H,i,q⟩ k=>k H i q
def SP (X:Cx)(Ad:List (Av×Obj))(D:Oh)(f:Flow)(s':Ap):Prop:=
 match f with
 |.next=>∃U' H',A6 X Ad U' H' s'/\D.nx U' H'
 |.brk=>∃U' H',A6 X Ad U' H' s'/\D.bk U' H'
 |.cont=>∃U' H',A6 X Ad U' H' s'/\D.ct U' H'
 |.ret u=>∃v U' H',A6 X Ad U' H' s'/\RelV v u/\D.rt v H'
def PE (X:Cx)(e:Cb)(t:TE):Prop:=
 ∀(Ad:List (Av×Obj)) (s:Ap) (U:St) (H:Hp) (Q:VK),A6 X Ad U H s->t U H Q->Aq (Ax X.prog X.w) X.A (eval e X.env) (EP X Ad U Q) X.xe s
def PT (X:Cx)(e:Cb)(t:TT):Prop:=
 ∀(Ad:List (Av×Obj)) (s:Ap) (U:St) (H:Hp) (Q:Bool->Hp->Prop),A6 X Ad U H s->t U H Q->Aq (Ax X.prog X.w) X.A (PX e X.env (eval e X.env)) (TP X Ad U Q) X.xe s
def PW (X:Cx)(e:Cb)(t:TT):Prop:=
 ∀whole (Ad:List (Av×Obj)) (s:Ap) (U:St) (H:Hp) (Q:Bool->Hp->Prop),A6 X Ad U H s->t U H Q->Aq (Ax X.prog X.w) X.A (PX e X.env whole) (TP X Ad U Q) X.xe s
theorem PW.pt (h:PW X e t):PT X e t:=h _
def PA (X:Cx)(es:List Cb)(t:TA):Prop:=
 ∀pos (Ad:List (Av×Obj)) (s:Ap) (U:St) (H:Hp) (Q:List V->Hp->Prop),A6 X Ad U H s->t U H Q->Aq (Ax X.prog X.w) X.A (U8 (Cc pos (Ar es X.env))) (AP X Ad U Q) X.xe s
def PS (X:Cx)(st:DC)(t:TS):Prop:=
 ∀(Ad:List (Av×Obj)) (s:Ap) (U:St) (H:Hp) (D:Oh),A6 X Ad U H s->t D U H->Aq (Ax X.prog X.w) X.A (exec st X.env) (SP X Ad D) X.xe s
def Lz (X:Cx)(st:List DC)(t:TS):Prop:=
 ∀(Ad:List (Av×Obj)) (s:Ap) (U:St) (H:Hp) (D:Oh),A6 X Ad U H s->t D U H->Aq (Ax X.prog X.w) X.A (execs st X.env) (SP X Ad D) X.xe s
theorem Do {α:Type}{t:Sem α}{Q Q':α->Ap->Prop}{M:Model}{A:Ck}{E:Ah->Ap->Prop}{s:Ap}(h:Aq M A t Q E s)(hQ:∀a s,Q a s->Q' a s):Aq M A t Q' E s:=BI h hQ λ_ _ x=>x
section
variable {X:Cx}
theorem bin {a b:Cb}{ta tb:TE}(ha:PE X a ta)(hb:PE X b tb){Ad:List (Av×Obj)}{s:Ap}{U:St}{H:Hp}{R:V->V->Hp->Prop}(I:A6 X Ad U H s)(h:ta U H λx H1=>tb U H1 λy H2=>R x y H2)
  {α:Type} {Q:α->Ap->Prop} {f:Ah->Ah->Sem α}
  (hf:∀v u s2 x y H2,A6 X Ad U H2 s2->RelV x v->RelV y u->R x y H2->Aq (Ax X.prog X.w) X.A (f v u) Q X.xe s2) :
  Aq (Ax X.prog X.w) X.A (eval a X.env) (λv s₁=>Aq (Ax X.prog X.w) X.A (eval b X.env) (λu s₂=>Aq (Ax X.prog X.w) X.A (f v u) Q X.xe s₂) X.xe s₁) X.xe s:=by
 refine Do (ha Ad s U H _ I h) λv s1 e=>e.el λx H1 I1 r1 q1=>?_;refine Do (hb Ad s1 U H1 _ I1 q1) λu s2 e=>e.el λy H2 I2 r2 q2=>?_;exact hf v u s2 x y H2 I2 r1 r2 q2
def RD (i:Nat):TE:=λU H Q=>∃v,U[i]? = some (some v)/\Q v H
def tC (v:V):TE:=λ_ H Q=>Q v H
theorem oP (hN:X.N[i]? = some x)(hv:YB X.env.scope x)(hd:(x == ("__debug__":Str))=false:=by decide)(hcd:(x == ("__classdict__":Str))=false:=by decide):PE X (.Name x pos) (RD i):=by
 intro Ad s U H Q I h;obtain⟨v,e,h⟩:=h;obtain⟨m,hn,hl⟩:=I.loc;obtain⟨u,r,l⟩:=hl i x v hN e hv;have fin:EP X Ad U Q u s:=⟨v,H,I,r,h⟩;rcases l with⟨hk,hm⟩|⟨hk,c,hc,hcell⟩
 .exact To (wpAny_loadName_local I.ok.kind hk hn hm fin) hd
 .rcases hk with hk|hk
  .exact To (wpAny_loadName_cell I.ok.kind hk hc hcell fin) hd
  .exact To (wpAny_loadName_free I.ok.kind hk hc hcell fin hcd) hd
theorem ca {i j pos}:PE X (.Constant (.int i) j pos) (tC (.int i)):=λ_ _ _ H _ I h=>wpAny_Constant_int ⟨.int i,H,I.tok _,⟨_,rfl⟩,h⟩
theorem yH {b j pos}:PE X (.Constant (.bool b) j pos) (tC (.bl b)):=λ_ _ _ H _ I h=>Constant_bool ⟨.bl b,H,I,rfl,h⟩
theorem cb {j pos}:PE X (.Constant .none j pos) (tC .non):=λ_ _ _ H _ I h=>Constant_none ⟨.non,H,I,rfl,h⟩
theorem cg {x j pos}:PE X (.Constant (.str x) j pos) (tC (.str x)):=λ_ _ _ H _ I h=>Calls.Constant_str ⟨.str x,H,I.tok _,⟨_,rfl⟩,h⟩
def Gl (X:Cx)(x:Str):Prop:=X.env.kindOf x=some .globalImplicit
theorem hW (I:A6 X Ad U H s)(hg:Gl X x)(hm:X.mg x=some u)(h:Q u s)
  (hd:(x == ("__debug__":Str))=false:=by decide):Aq (Ax X.prog X.w) X.A (eval (.Name x pos) X.env) Q E s:=
 Ls I.ok.kind hg (Calls.loadGlobal_global (by rw[I.ok.glob];exact I.mod.glob.keeps I.bk) hm h) hd
theorem Qz (I:A6 X Ad U H s)(hg:Gl X x)(hm:X.mg x=none)(hv:Dc x=some u)(h:Q u s)
  (hn:x≠"__name__":=by decide) (hd:(x == ("__debug__":Str))=false:=by decide):Aq (Ax X.prog X.w) X.A (eval (.Name x pos) X.env) Q E s:=by
 obtain⟨mb,h1,h2⟩:=I.mod.blt;exact Ls I.ok.kind hg (Calls.loadGlobal_builtin (by rw[I.ok.glob];exact I.mod.glob.keeps I.bk) hm (by rw[I.ok.blt];exact h1.keeps I.bk) ((h2 x hn).trans hv) h) hd
theorem pU (hg:Gl X x)(hm:X.mg x=some u)(r:RelV v u)(hd:(x == ("__debug__":Str))=false:=by decide):PE X (.Name x pos) (tC v):=
 λ_ _ _ H _ I h=>hW I hg hm ⟨v,H,I,r,h⟩ hd
theorem jq (hg:Gl X x)(hm:X.mg x=none)(hv:Dc x=some u)(r:RelV v u)(hn:x≠"__name__":=by decide)(hd:(x == ("__debug__":Str))=false:=by decide):PE X (.Name x pos) (tC v):=
 λ_ _ _ H _ I h=>Qz I hg hm hv ⟨v,H,I,r,h⟩ hn hd
variable {a b:Cb}{ta tb:TE}{pos:Pos}
def tB (t:TE):TT:=λU H Q=>t U H λx H1=>∃c,x=.bl c/\Q c H1
theorem gp (h:PE X e t)(he:∀whole,PX e X.env whole=(do let v <- whole;Nb e.pos;Gu [v] (truthy v)):=by intro _;rfl):PT X e (tB t):=by
 intro Ad s U H Q I hw;refine isTrue_plain (Do (h Ad s U H _ I hw) λv s1 e=>e.el λx H1 I1 r1 q1=>?_) (he _);obtain⟨d,rfl,q⟩:=q1;cases r1;exact CW ⟨H1,I1,q⟩
variable {tA tB':TT}{CK:List Cb}
def cL (t u:TT):TT:=λU H Q=>t U H λc H1=>if c=true then u U H1 Q else Q false H1
def wV (t u:TT):TT:=λU H Q=>t U H λc H1=>if c=true then Q true H1 else u U H1 Q
def cE (t:TT):TT:=λU H Q=>t U H λc H1=>Q (!c) H1
theorem ng (ha:PT X a tA):PW X (.BoolOp .And [a] pos) tA:=by
 intro wh Ad s U H Q I h;refine isTrue_and (Do (ha Ad s U H Q I h) λc s1 e=>?_);cases c with
 |true=>exact isTrue_and_nil e
 |false=>exact e
theorem gr (ha:PT X a tA):PW X (.BoolOp .Or [a] pos) tA:=by
 intro wh Ad s U H Q I h;refine isTrue_or (Do (ha Ad s U H Q I h) λc s1 e=>?_);cases c with
 |false=>exact isTrue_or_nil e
 |true=>exact e
theorem gq (ha:PT X a tA)(hb:PW X (.BoolOp .And (b::CK) pos) tB'):PW X (.BoolOp .And (a::b::CK) pos) (cL tA tB'):=by
 intro wh Ad s U H Q I h;refine isTrue_and (Do (ha Ad s U H _ I h) λc s1 e=>e.el λH1 I1 q1=>?_);cases c with
 |true=>exact hb wh Ad s1 U H1 Q I1 q1
 |false=>exact⟨H1,I1,q1⟩
theorem zN (ha:PT X a tA)(hb:PW X (.BoolOp .Or (b::CK) pos) tB'):PW X (.BoolOp .Or (a::b::CK) pos) (wV tA tB'):=by
 intro wh Ad s U H Q I h;refine isTrue_or (Do (ha Ad s U H _ I h) λc s1 e=>e.el λH1 I1 q1=>?_);cases c with
 |true=>exact⟨H1,I1,q1⟩
 |false=>exact hb wh Ad s1 U H1 Q I1 q1
theorem gm (ha:PT X a tA):PT X (.UnaryOp .Not a pos) (cE tA):=by
 intro Ad s U H Q I h;exact isTrue_not (ha Ad s U H (λc H1=>Q (!c) H1) I h)
def Xe (ta tb:TE):TE:=λU H Q=>ta U H λx H1=>∃c,x=.bl c/\if c=true then tb U H1 Q else Q (.bl false) H1
def cD (ta tb:TE):TE:=λU H Q=>ta U H λx H1=>∃c,x=.bl c/\if c=true then Q (.bl true) H1 else tb U H1 Q
theorem cf {op}(h:PE X a t):PE X (.BoolOp op [a] pos) t:=λAd s U H Q I hw=>BoolOp_one (h Ad s U H Q I hw)
theorem b5 (ha:PE X a ta)(hb:PE X (.BoolOp .And (b::CK) pos) tb):PE X (.BoolOp .And (a::b::CK) pos) (Xe ta tb):=by
 intro Ad s U H Q I h;refine BoolOp_and (Do (ha Ad s U H _ I h) λv s1 e=>e.el λx H1 I1 r1 q1=>?_);obtain⟨c,rfl,q1⟩:=q1;cases r1;refine CW ?_;cases c with
 |true=>exact hb Ad s1 U H1 Q I1 q1
 |false=>exact⟨.bl false,H1,I1,rfl,q1⟩
theorem yK (ha:PE X a ta)(hb:PE X (.BoolOp .Or (b::CK) pos) tb):PE X (.BoolOp .Or (a::b::CK) pos) (cD ta tb):=by
 intro Ad s U H Q I h;refine BoolOp_or (Do (ha Ad s U H _ I h) λv s1 e=>e.el λx H1 I1 r1 q1=>?_);obtain⟨c,rfl,q1⟩:=q1;cases r1;refine CW ?_;cases c with
 |false=>exact hb Ad s1 U H1 Q I1 q1
 |true=>exact⟨.bl true,H1,I1,rfl,q1⟩
def wW (t:TT)(ta tb:TE):TE:=λU H Q=>t U H λc H1=>if c=true then ta U H1 Q else tb U H1 Q
theorem qq (hc:PT X c tA)(ha:PE X a ta)(hb:PE X b tb):PE X (.IfExp c a b pos) (wW tA ta tb):=by
 intro Ad s U H Q I h;refine wpAny_IfExp (Do (hc Ad s U H _ I h) λd s1 e=>e.el λH1 I1 q1=>?_);cases d with
 |true=>exact ha Ad s1 U H1 Q I1 q1
 |false=>exact hb Ad s1 U H1 Q I1 q1
end
def FS (K:Ac)(H:Hp)(a:Av)(xs:List V):Prop:=
 Rd H a (.lst xs) \/
  ∃o Bj n,K.lookup a=some o/\o.cls=.type "list"/\o.dict=none/\o.data=.seq Bj n/\Bj.size<=Am/\BF xs Bj.toList
def LK (K:Ac)(H:Hp)(a:Av)(xs:List V):Prop:=
 Rd H a (.tup xs) \/
  ∃o Bj n,K.lookup a=some o/\o.cls=.type "tuple"/\o.data=.seq Bj n/\Bj.size<=Am/\BF xs Bj.toList
noncomputable def fS:Ah->Option V
 |.none=>some .non
 |.bool b=>some (.bl b)
 |.int i _=>some (.int i)
 |.str x _=>some (.str x)
 |.bytes b _=>some (.byt b)
 |.float b _=>some (.flt b)
 |.ref a=>some (.ref a)
 |.type n=>some (.ty n)
 |_=>none
theorem RelV.abs (r:RelV x u):fS u=some x:=by
 cases x with
 |non=>cases r;rfl
 |bl _=>cases r;rfl
 |int _=>obtain⟨t,rfl⟩:=r;rfl
 |str _=>obtain⟨t,rfl⟩:=r;rfl
 |byt _=>obtain⟨t,rfl⟩:=r;rfl
 |flt _=>obtain⟨t,rfl⟩:=r;rfl
 |ref _=>cases r;rfl
 |ty _=>cases r;rfl
theorem RelV.inj (r:RelV x u)(q:RelV y u):x=y:=Ba (r.abs.symm.trans q.abs)
theorem BF.inj:∀{xs ys:List V}{us:List Ah},BF xs us->BF ys us->xs=ys
 |_,_,_,.nil,.nil=>rfl
 |_,_,_,.cons r t,.cons r' t'=>by rw[r.inj r',BF.inj t t']
section
theorem FS.of {K:Ac}(h:H a=some (.lst xs)):FS K H a xs:=.inl (.inl h)
theorem A6.list (I:A6 X Ad U H s)(h:FS X.K H a xs):∃Bj,BF xs Bj/\PlainL s.heap a Bj.toArray/\xs.length<=Am:=by
 rcases h with h|⟨o,Bj,n,hk,hc,hd,hs,hz,r⟩
 .obtain⟨z,Bj,n,r,e⟩:=h.ok I.hok;exact⟨Bj,r,⟨_,n,e,rfl,rfl,rfl⟩,z⟩
 .refine⟨Bj.toList,r,⟨o,n,I.kIn a o hk,hc,hd,by simpa using hs⟩,?_⟩;have e:=r.length;simp only[A8]at e;ext
theorem A6.tuple (I:A6 X Ad U H s)(h:LK X.K H a xs):∃Bj,BF xs Bj/\IsTup s.heap a Bj.toArray/\xs.length<=Am:=by
 rcases h with h|⟨o,Bj,n,hk,hc,hs,hz,r⟩
 .obtain⟨z,Bj,r,p⟩:=h.ok I.hok;exact⟨Bj,r,p.tup,z⟩
 .refine⟨Bj.toList,r,⟨o,I.kIn a o hk,hc,n,by simpa using hs⟩,?_⟩;have e:=r.length;simp only[A8]at e;ext
theorem A6.list_inj (I:A6 X Ad U H s)(h:FS X.K H a xs)(h':FS X.K H a ys):xs=ys:=by
 obtain⟨Bj,r,⟨o,n,e,_,_,d⟩,_⟩:=I.list h;obtain⟨its',r',⟨o',n',e',_,_,d'⟩,_⟩:=I.list h';rw[e]at e';cases e';rw[d]at d';injection d' with d1 _
 have:Bj=its':=by simpa using congrArg TR d1
 subst this;exact r.inj r'
theorem A6.tuple_inj (I:A6 X Ad U H s)(h:LK X.K H a xs)(h':LK X.K H a ys):xs=ys:=by
 obtain⟨Bj,r,⟨o,e,_,n,d⟩,_⟩:=I.tuple h;obtain⟨its',r',⟨o',e',_,n',d'⟩,_⟩:=I.tuple h';rw[e]at e';cases e';rw[d]at d';injection d' with d1 _
 have:Bj=its':=by simpa using congrArg TR d1
 subst this;exact r.inj r'
end
noncomputable abbrev Cx.wish (X:Cx)(E:Ah->Ap->Prop):Cx:={X with xe:=E}
noncomputable abbrev Cx.nox (X:Cx):Cx:=X.wish λ_ _=>False
theorem Cx.Ok.wish {X:Cx}(ok:X.Ok)(E:Ah->Ap->Prop):(X.wish E).Ok:=
 ⟨ok.mod,ok.kind,ok.glob,ok.blt,ok.above,ok.inj,ok.has,ok.cab,ok.hd,ok.frames,ok.stk,ok.exf,ok.bs,ok.bsz,ok.noex,ok.exfs,ok.funs,ok.frf⟩
theorem Cx.Ok.unwish {X:Cx}(ok:(X.wish E).Ok):X.Ok:=
 ⟨ok.mod,ok.kind,ok.glob,ok.blt,ok.above,ok.inj,ok.has,ok.cab,ok.hd,ok.frames,ok.stk,ok.exf,ok.bs,ok.bsz,ok.noex,ok.exfs,ok.funs,ok.frf⟩
section
variable {X:Cx}     {E:Ah->Ap->Prop}
theorem A6.wish (I:A6 X Ad U H s)(E:Ah->Ap->Prop):A6 (X.wish E) Ad U H s:=⟨I.ok.wish E,I.os,I.bare,I.base,I.loc,I.cell,I.free,I.freeC,I.pin,I.hok,I.len,I.fzd⟩
theorem A6.unwish (I:A6 (X.wish E) Ad U H s):A6 X Ad U H s:=⟨I.ok.unwish,I.os,I.bare,I.base,I.loc,I.cell,I.free,I.freeC,I.pin,I.hok,I.len,I.fzd⟩
theorem SP.unwish (h:SP (X.wish E) Ad D f s'):SP X Ad D f s':=by
 cases f with
 |next=>obtain⟨U',H',I,q⟩:=h;exact⟨U',H',I.unwish,q⟩
 |brk=>obtain⟨U',H',I,q⟩:=h;exact⟨U',H',I.unwish,q⟩
 |cont=>obtain⟨U',H',I,q⟩:=h;exact⟨U',H',I.unwish,q⟩
 |ret u=>obtain⟨v,U',H',I,r,q⟩:=h;exact⟨v,U',H',I.unwish,r,q⟩
theorem Lz.nox {st:List DC}(h:Lz X.nox st t):Lz X st t:=λAd s U H D I hw=>
 BI (h Ad s U H D (I.wish _) hw) (λ_ _ q=>q.unwish) λ_ _ z=>C6 z
end
section
variable {X:Cx}{st:DC}{CK:List DC}{t:TS}
def W7:TS:=λD U H=>D.nx U H
def bZ (t u:TS):TS:=λD U H=>t {D with nx:=u D} U H
theorem m9:Lz X [] W7:=λ_ _ U H _ I h=>IU ⟨U,H,I,h⟩
theorem rA (h1:PS X st t)(h2:Lz X CK u):Lz X (st::CK) (bZ t u):=by
 intro Ad s U H D I h;refine V6 (Do (h1 Ad s U H {D with nx:=u D} I h) λf s1 q=>?_);cases f with
 |next=>obtain⟨U',H',I',q⟩:=q;exact h2 Ad s1 U' H' D I' q
 |ret v=>exact q
 |brk=>exact q
 |cont=>exact q
theorem na (h1:PS X st t):Lz X [st] t:=by
 intro Ad s U H D I h;refine V6 (Do (h1 Ad s U H D I h) λf s1 q=>?_);cases f with
 |next=>exact IU q
 |ret v=>exact q
 |brk=>exact q
 |cont=>exact q
theorem A6.quiet (I:A6 X Ad U H s):interactive X.env=false:=by simp[interactive,I.ok.kind]
def Xa (te:TE):TS:=λD U H=>te U H λ_ H1=>D.nx U H1
theorem m8 (he:PE X e te)(hs:EE e none pos.line X.env=pure false:=by rfl):PS X (.Expr e pos) (Xa te):=by
 intro Ad s U H D I h;exact wpAny_Expr_any (Do (he Ad s U H _ I h) λv s1 e=>e.el λx H1 I1 r1 q1=>⟨U,H1,I1,q1⟩) I.quiet hs
def cA (te:TE):TS:=λD U H=>te U H D.rt
theorem gj (he:PE X e te):PS X (.Return (some e) pos) (cA te):=by
 intro Ad s U H D I h;exact wpAny_Return_some (Do (he Ad s U H _ I h) λv s1 e=>e.el λx H1 I1 r1 q1=>⟨x,U,H1,I1,r1,q1⟩)
def cG (c:TT)(t u:TS):TS:=λD U H=>c U H λb H1=>if b=true then t D U H1 else u D U H1
theorem zM (hc:PT X c tc)(ha:Lz X a t)(hb:Lz X b u):PS X (.If c a b pos) (cG tc t u):=by
 intro Ad s U H D I h;refine wpAny_If (Do (hc Ad s U H _ I h) λd s1 e=>e.el λH1 I1 q1=>?_);cases d with
 |true=>exact ha Ad s1 U H1 D I1 q1
 |false=>exact hb Ad s1 U H1 D I1 q1
end
abbrev TG:=V->St->Hp->(St->Hp->Prop)->Prop
abbrev UQ:=List V->St->Hp->(St->Hp->Prop)->Prop
def PG (X:Cx)(target:Cb)(t:TG):Prop:=
 ∀(Ad:List (Av×Obj)) (s:Ap) (U:St) (H:Hp) (v:V) (u:Ah) (Q:St->Hp->Prop),A6 X Ad U H s->RelV v u->t v U H Q ->
  Aq (Ax X.prog X.w) X.A (KH target X.env u) (λ_ s'=>∃U' H',A6 X Ad U' H' s'/\Q U' H') X.xe s
def QH (X:Cx)(ts:List Cb)(t:UQ):Prop:=
 ∀(Ad:List (Av×Obj)) (s:Ap) (U:St) (H:Hp) (vs:List V) (us:List Ah) (Q:St->Hp->Prop),A6 X Ad U H s->BF vs us->t vs U H Q ->
  Aq (Ax X.prog X.w) X.A (Kt ((Bz ts X.env).map (·.2)) us) (λ_ s'=>∃U' H',A6 X Ad U' H' s'/\Q U' H') X.xe s
section
def KW (i:Nat):TG:=λv U H Q=>Q (U.set i (some v)) H
theorem JM (hN:X.N.Nodup)(hi:X.N[i]? = some x)(hx:UW X.env.scope x)(hf:X.fn x=true\/X.env.scope.names.lookup x=some .local:=by first | exact .inl rfl | exact .inr rfl | assumption):PG X (.Name x pos) (KW i):=by
 intro Ad s U H v u Q I r h;exact U0 (ZY I hN hi hx r (λs' I'=>⟨_,H,I',h⟩) hf)
def X5:UQ:=λvs U H Q=>vs=[]/\Q U H
def S6 (t:TG)(u:UQ):UQ:=λvs U H Q=>∃v r,vs=v::r/\t v U H λU' H'=>u r U' H' Q
theorem Rb:QH X [] X5:=by
 intro Ad s U H vs us Q I r h;obtain⟨e,h⟩:=h;subst e;cases r;exact Vc ⟨U,H,I,h⟩
theorem Ko (h1:PG X e t)(h2:QH X es u)
  (hs:(Bz (e::es) X.env).map (·.2)=KH e X.env::(Bz es X.env).map (·.2):=by rfl):QH X (e::es) (S6 t u):=by
 intro Ad s U H vs us Q I r h;obtain⟨v,vr,e1,h⟩:=h;subst e1;cases r with
 |cons r rr=>rw[hs];refine KG (Do (h1 Ad s U H _ _ _ I r h) λ_ s1 ⟨U1,H1,I1,q1⟩=>?_);exact h2 Ad s1 U1 H1 _ _ Q I1 rr q1
def Qs (K:Ac)(n:Nat)(t:UQ):TG:=λv U H Q=>∃a xs,v=.ref a/\LK K H a xs/\xs.length=n/\t xs U H Q
theorem oQ (hc:X.calm=true)(h:QH X es t)
  (hn:(Bz es X.env).length=n:=by rfl) (hst:(Bz es X.env).findIdx? (·.1)=none:=by rfl):PG X (.Tuple es k pos) (Qs X.K n t):=by
 intro Ad s U H v u Q I r hw;obtain⟨a,xs,e1,hq,hl,hw⟩:=hw;subst e1;cases r;obtain⟨Bj,rv,ht,hz⟩:=I.tuple hq;refine assign_Tuple_tuple (I.ok.hd hc) ht (by simp[hn,<- hl,rv.length]) hst λh' hx=>?_;have I1:A6 X Ad U H {s with heap:=h' }:=I.kept λb o e=>hx b o (A5 (An e)) e;exact h Ad _ U H xs _ Q I1 (by simpa using rv) hw
def O3 (te:TE)(g:TG):TS:=λD U H=>te U H λx H1=>g x U H1 D.nx
theorem ez (he:PE X e te)(hg:PG X tg g)(hs:Kr [tg] e pos.line X.env=pure false:=by rfl)(hw:Ks [tg] e X.env=pure none:=by rfl)
  (h1:(Bz [tg] X.env).map (·.2)=[KH tg X.env]:=by rfl):PS X (.Assign [tg] e pos) (O3 te g):=by
 intro Ad s U H D I h;refine wpAny_Assign_stores (Do (he Ad s U H _ I h) λv s1 e=>e.el λx H1 I1 r1 q1=>?_) hs hw;rw[h1];exact Do (hg Ad s1 U H1 x v _ I1 r1 q1) λ_ s2 q=>q
theorem gl (hN:X.N.Nodup)(hi:X.N[i]? = some x)(hx:UW X.env.scope x)(he:PE X e te)(hs:EE e (some (.Name x pos')) pos.line X.env=pure false:=by rfl)(hf:X.fn x=true\/X.env.scope.names.lookup x=some .local:=by first | exact .inl rfl | exact .inr rfl | assumption) :
  PS X (.Assign [.Name x pos'] e pos) (O3 te (KW i)):=by
 intro Ad s U H D I h;refine wpAny_Assign_Name (Do (he Ad s U H _ I h) λv s1 e=>e.el λy H1 I1 r1 q1=>?_) hs;exact ZY I1 hN hi hx r1 (λs2 I2=>⟨_,H1,I2,q1⟩) hf
def cC (i j:Nat)(ta:TA):TS:=λD U H=>ta U H λvs H1=>∃v w,vs=[v,w]/\D.nx ((U.set i (some v)).set j (some w)) H1
theorem fe {kt k2 pt2}(hc:X.calm=true)(hN:X.N.Nodup)(hi:X.N[i]? = some x)(hj:X.N[j]? = some y)(hij:i≠j)
  (hx:X.env.scope.names.lookup x=some .local) (hy:X.env.scope.names.lookup y=some .local) (ha:PA X [a,b] ta)
  (hw:Ks [.Tuple [.Name x px,.Name y py] kt pt] (.Tuple [a,b] k2 pt2) X.env=pure (some [x,y]))
  (hs:Kr [.Tuple [.Name x px,.Name y py] kt pt] (.Tuple [a,b] k2 pt2) pos.line X.env=pure false:=by rfl) :
  PS X (.Assign [.Tuple [.Name x px,.Name y py] kt pt] (.Tuple [a,b] k2 pt2) pos) (cC i j ta):=by
 intro Ad s U H D I h;rw[exec_Assign_arm];refine Aa (Kq ?_);rw[hs];refine Aa (Ab ?_);rw[if_neg (by decide)];refine Aa (Tuple_ (Do (ha _ Ad s U H _ I h) λus s1 e=>e.el λvs H1 I1 r1 q1=>?_));obtain⟨v,w,e1,q1⟩:=q1;subst e1
 obtain⟨u1,u2,rfl,rv,rw'⟩:∃u1 u2,us=[u1,u2]/\RelV v u1/\RelV w u2:=by
  cases r1 with
  |cons p q=>
   cases q with
   |cons p' q'=>cases q';exact⟨_,_,rfl,p,p'⟩
 refine BM ?_ (by show 2<=Am;decide);have I2:A6 X Ad U H1 {s1 with heap:=s1.heap.push {cls:=.type "tuple",data:=.seq [u1,u2].toArray} }:=I1.kept (t':=s1.toks) λb o e=>Af _ e;rw[hw];refine Aa (Ab ?_);show Aq (Ax X.prog X.w) X.A (do PR "assign.swapped-stores";let items <- unpackItems (.ref s1.heap.objs.size) 2 none;Kt [λv=>Ro X.env y v,λv=>Ro X.env x v] items.reverse;pure bS) _ _ _;refine Aa (FA (Aa (unpackItems_tuple (items:=#[u1,u2]) (I.ok.hd hc) (IsTup.new s1.heap _) λh' hx'=>?_)));have I3:=I2.kept (h':=h') (t':=s1.toks) λb o e=>hx' b o (A5 (An e)) e;show Aq _ _ (Kt [λv=>Ro X.env y v,λv=>Ro X.env x v] [u2,u1] >>= λ_=>pure bS) _ _ _;refine Aa (KG (bC (ZY I3 hN hj (.inl hy) rw' (λs2 I4=>?_) (.inr hy))));refine KG (bC (ZY I4 hN hi (.inl hx) rv (λs3 I5=>Vc (Ab ?_)) (.inr hx)));rw[List.set_comm _ _ (Bg hij)]at I5;exact⟨_,H1,I5,q1⟩
end
section
def TZ (c:TT)(tb:TS):TS:=λD U H=>∃W:Nat->St->Hp->Prop,(∃m,W m U H)/\∀m U H,W m U H ->
 c U H λb H1=>if b=true then∃N:St->Hp->Prop,(∀U' H',N U' H'->∃m',m' < m/\W m' U' H')/\tb {D with nx:=N,ct:=N,bk:=D.nx} U H1 else D.nx U H1
theorem qw (hp:Pr (Ax X.prog X.w) X.A X.env X.xe)(hc:PT X c tc)(hb:Lz X body tb):PS X (.While c body [] pos) (TZ tc tb):=by
 intro Ad s U H D I h;obtain⟨W,⟨m0,w0⟩,turn⟩:=h;refine wpAny_While (codeAny_whileLoop (λn s'=>∃U' H',A6 X Ad U' H' s'/\W n U' H') ?_ m0 ⟨U,H,I,w0⟩);rintro n s1 ⟨U1,H1,I1,w1⟩;refine Ed hp (Do (hc Ad s1 U1 H1 _ I1 (turn n U1 H1 w1)) λb s2 e=>e.el λH2 I2 q2=>?_);cases b with
 |true=>
  obtain⟨N,hN,q2⟩:=q2;rw[if_pos rfl];refine Ed hp (Do (hb Ad s2 U1 H2 _ I2 q2) λf s3 q3=>?_);cases f with
  |next=>obtain⟨U3,H3,I3,n3⟩:=q3;obtain⟨m',hm,w3⟩:=hN U3 H3 n3;exact⟨m',hm,U3,H3,I3,w3⟩
  |cont=>obtain⟨U3,H3,I3,n3⟩:=q3;obtain⟨m',hm,w3⟩:=hN U3 H3 n3;exact⟨m',hm,U3,H3,I3,w3⟩
  |brk=>exact q3
  |ret v=>exact q3
 |false=>rw[if_neg Aj];exact IU ⟨U1,H2,I2,q2⟩
end
structure It where
 go:Nat->Hp->Prop
 yld:Nat->Hp->V->Hp->Prop
 stop:Nat->Hp->Prop
def Jr (X:Cx)(Ad:List (Av×Obj))(H:Hp)(b:Av):Prop:=
 H b=none/\b≠X.env.locals/\b∉X.fs/\(b∈X.ex\/X.s₀.heap.objs.size<=b)/\(∀x c,X.env.cells.lookup x=some c->c≠b)/\∀p∈X.pn++Ad,p.1≠b
theorem A6.fpOk (I:A6 X Ad U H s)(hb:s.heap.objs.size<=b)(hn:H' b=none):Jr X Ad H' b:=by
 refine⟨hn,ET (Bk I.lt hb),I.nofs hb,.inr (AY I.sz hb),λx c e z=>?_,λp hp z=>?_⟩
 .obtain⟨v,q⟩:=I.cell x c e;exact absurd (Bk q.lt (by rw[z];exact hb)) (E4 _)
 .exact absurd (Bk (An (I.pin p hp).1) (by rw[z];exact hb)) (E4 _)
structure MW (P:Bs)(w:BG)(K:Ac)(F:List (Av×Obj×HO))(tg:Cb)(J:It)(fp:List Av)(it:Av)(tn:Nat->CU->Prop):Prop where
 mem:it∈fp
 obj:∀i h,tn i h->∀b∈fp,∃o,h.get? b=some o/\∀v,o.data≠.cell v
 keep:∀i h h',tn i h->(∀b∈fp,∀o,h.get? b=some o->h'.get? b=some o)->tn i h'
 item:∀(X:Cx),X.prog=P->X.w=w->X.K=K->X.fz=F->X.calm=true->∀(i:Nat) (Ad:List (Av×Obj)) (s:Ap) (U:St) (H:Hp) (E:Ah->Ap->Prop),A6 X Ad U H s->(∀b∈fp,Jr X Ad H b)->tn i s.heap->J.go i H ->
  Aq (Ax P w) X.A (ID (.ref it)) (λr s1=>∃ u,r=some u /\
   Aq (Ax P w) X.A (IX tg (.ref it) u) (λ_ s2=>∃ x H',A6 X Ad U H' s2/\RelV x u/\J.yld i H x H'/\tn (i+1) s2.heap/\∀ b∈fp,H' b=none) E s1) E s
 done:∀(X:Cx),X.prog=P->X.w=w->X.K=K->X.fz=F->X.calm=true->∀(i:Nat) (Ad:List (Av×Obj)) (s:Ap) (U:St) (H:Hp) (E:Ah->Ap->Prop),A6 X Ad U H s->(∀b∈fp,Jr X Ad H b)->tn i s.heap->J.stop i H ->
  Aq (Ax P w) X.A (ID (.ref it)) (λr s1=>r=none/\A6 X Ad U H s1) E s
 self:∀(A:Ck) (i:Nat) (s:Ap) (Q:Ah->Ap->Prop) (E:Ah->Ap->Prop),tn i s.heap->Q (.ref it) s->Aq (Ax P w) A (Tr (.ref it)) Q E s
abbrev TI:=St->Hp->(It->Hp->Prop)->Prop
def YF (X:Cx)(Ad:List (Av×Obj))(U:St)(tg:Cb)(R:It->Hp->Prop)(itv:Ah)(s2:Ap):Prop:=
 ∃it fp tn J H',itv=.ref it/\A6 X Ad U H' s2/\MW X.prog X.w X.K X.fz tg J fp it tn/\tn 0 s2.heap/\(∀b∈fp,Jr X Ad H' b)/\R J H'
def PI (X:Cx)(tg iter:Cb)(wi:TI):Prop:=
 ∀(Ad:List (Av×Obj)) (s:Ap) (U:St) (H:Hp) (R:It->Hp->Prop),A6 X Ad U H s->wi U H R ->
  Aq (Ax X.prog X.w) X.A (eval iter X.env) (λv s1=>Aq (Ax X.prog X.w) X.A (Tr v) (YF X Ad U tg R) X.xe s1) X.xe s
theorem Vt (ho:s.heap.get? it=some o)(hc:o.cls=.type n)(hd:o.data=.fields vs)
    (hn:["enumerate", "zip", "dict_itemiterator", "dict_reverseitemiterator", "odict_iterator", "itertools.zip_longest", "itertools.pairwise"].contains n=false) (hQ:Q () s):Aq M A (IX tg (.ref it) u) Q E s:=by
  unfold IX
  cases tg<;>first
    |exact Ab hQ
    | (cases u<;>first
        |exact Ab hQ
        | (refine Aa (wpAny_load ho ?_)
           rw [hc,hd];show Aq M A (if (["enumerate", "zip", "dict_itemiterator", "dict_reverseitemiterator", "odict_iterator", "itertools.zip_longest", "itertools.pairwise"].contains n && vs[0]? == some (LO _))=true then _ else _) Q E s;rw [if_neg (by intro h;rw [hn,Iq] at h;cases h)];exact Ab hQ))
noncomputable def wP (K:Ac)(a:Av):It:=
 ⟨λi H=>∃xs x,FS K H a xs/\xs[i]? = some x,λi H x H'=>H'=H/\∀xs,FS K H a xs->xs[i]? = some x,λi H=>∃xs,FS K H a xs/\xs.length<=i⟩
noncomputable def wN (K:Ac)(a:Av):It:=
 ⟨λi H=>∃xs x,LK K H a xs/\xs[i]? = some x,λi H x H'=>H'=H/\∀xs,LK K H a xs->xs[i]? = some x,λi H=>∃xs,LK K H a xs/\xs.length<=i⟩
noncomputable def aZ (lo:Int)(n:Nat):It:=⟨λi _=>i<n,λi H x H'=>H'=H/\x=.int (lo+i),λi _=>n<=i⟩
theorem wu {K:Ac}(a it:Av):MW P w K F tg (wP K a) [it] it (λi h=>h.IsListIter it a i) where
 mem:=by simp
 obj:=λi h st b hb=>by
  have e:b=it:=by simpa using hb
  subst e;obtain⟨o,e,c,d⟩:=st;exact⟨o,e,λv z=>by rw[d]at z;cases z⟩
 keep:=λi h h' st k=>st.at λo e=>k it (by simp) o e
 item:=by
  intro X hP hw hK hF hc i Ad s U H E I hf st hg;subst hP hw hK;obtain⟨xs,x,hq,hx⟩:=hg;obtain⟨Bj,rv,p,hz⟩:=I.list hq;obtain⟨u,hu,ru⟩:=rv.get hx;obtain⟨f0,f1,f2,f3,f4,f5⟩:=hf it (by simp);refine Iy st p.isList (by simpa using hu) λh' st' sb=>?_;have I1:A6 X Ad U H {s with heap:=h' }:=I.turned (λb o hb e=>(sb.2 b hb).trans e) f0 f1 f3 f4 f5;obtain⟨o,e,c,d⟩:=id st';exact⟨u,rfl,Vt e c d (by decide) ⟨x,H,I1,ru,⟨rfl,λys hy=>by rw[I.list_inj hy hq];exact hx⟩,st',λb hb=>(hf b hb).1⟩⟩
 done:=by
  intro X hP hw hK hF hc i Ad s U H E I hf st hg;subst hP hw hK;obtain⟨xs,hq,hx⟩:=hg;obtain⟨Bj,rv,p,hz⟩:=I.list hq;obtain⟨f0,f1,f2,f3,f4,f5⟩:=hf it (by simp);have hl:=rv.length;exact Jc (I.ok.hd hc) st p.isList (by simp;ext) λh' eb=>⟨rfl,I.turned (λb o hb e=>eb b o hb e) f0 f1 f3 f4 f5⟩
 self:=λ_ _ _ _ _ st h=>wpAny_pyIter_listiter st h
theorem xo {K:Ac}(a it:Av):MW P w K F tg (wN K a) [it] it (λi h=>h.IsTupleIter it a i) where
 mem:=by simp
 obj:=λi h st b hb=>by
  have e:b=it:=by simpa using hb
  subst e;obtain⟨o,e,c,d⟩:=st;exact⟨o,e,λv z=>by rw[d]at z;cases z⟩
 keep:=λi h h' st k=>st.at λo e=>k it (by simp) o e
 item:=by
  intro X hP hw hK hF hc i Ad s U H E I hf st hg;subst hP hw hK;obtain⟨xs,x,hq,hx⟩:=hg;obtain⟨Bj,rv,p,hz⟩:=I.tuple hq;obtain⟨u,hu,ru⟩:=rv.get hx;obtain⟨f0,f1,f2,f3,f4,f5⟩:=hf it (by simp);refine wpAny_pyNext_tuple_item st (show s.heap.IsTuple a Bj.toArray from p) (by simpa using hu) λh' st' sb=>?_;have I1:A6 X Ad U H {s with heap:=h' }:=I.turned (λb o hb e=>(sb.2 b hb).trans e) f0 f1 f3 f4 f5;obtain⟨o,e,c,d⟩:=id st';exact⟨u,rfl,Vt e c d (by decide) ⟨x,H,I1,ru,⟨rfl,λys hy=>by rw[I.tuple_inj hy hq];exact hx⟩,st',λb hb=>(hf b hb).1⟩⟩
 done:=by
  intro X hP hw hK hF hc i Ad s U H E I hf st hg;subst hP hw hK;obtain⟨xs,hq,hx⟩:=hg;obtain⟨Bj,rv,p,hz⟩:=I.tuple hq;obtain⟨f0,f1,f2,f3,f4,f5⟩:=hf it (by simp);have hl:=rv.length;exact wpAny_pyNext_tuple_end (I.ok.hd hc) st (show s.heap.IsTuple a Bj.toArray from p) (by simp;ext) λh' eb=>⟨rfl,I.turned (λb o hb e=>eb b o hb e) f0 f1 f3 f4 f5⟩
 self:=λ_ _ _ _ _ st h=>wpAny_pyIter_tupleiter st h
theorem xn {K:Ac}(it:Av)(lo:Int)(n:Nat):MW P w K F tg (aZ lo n) [it] it (λi h=>Mt h it (lo+(i:Nat)*1) ((n:Int)-(i:Nat)) 1) where
 mem:=by simp
 obj:=λi h st b hb=>by
  have e:b=it:=by simpa using hb
  subst e
  exact ⟨_,st,λv z=>by
   have z':=z;cases z'⟩
 keep:=λi h h' st k=>k it (by simp) _ st
 item:=by
  intro X hP hw hK hF hc i Ad s U H E I hf st hg;subst hP hw hK;obtain⟨f0,f1,f2,f3,f4,f5⟩:=hf it (by simp);have W:=Ve (prog:=X.prog) (w:=X.w) (I.ok.hd hc) it lo 1 n;refine W.item i s _ _ hg st λv h' tk hv st' kk=>?_;obtain⟨t,rfl⟩:=hv;have I1:A6 X Ad U H {s with heap:=h',toks:=tk}:=I.turned (λb o hb e=>kk b o (by simpa using hb) e) f0 f1 f3 f4 f5;refine⟨_,rfl,Vt (s:={s with heap:=h',toks:=tk}) (n:="range_iterator") st' rfl rfl (by decide) ⟨.int (lo+i),H,I1,⟨t,?_⟩,⟨rfl,rfl⟩,st',λb hb=>(hf b hb).1⟩⟩;rw[Y9]
 done:=by
  intro X hP hw hK hF hc i Ad s U H E I hf st hg;subst hP hw hK;obtain⟨f0,f1,f2,f3,f4,f5⟩:=hf it (by simp);exact PL (I.ok.hd hc) st (by have:n<=i:=hg;ext) λh' eb=>⟨rfl,I.turned (t':=s.toks) (λb o hb e=>eb b o hb e) f0 f1 f3 f4 f5⟩
 self:=λ_ _ _ _ _ st h=>PM st h
section
def X2 (K:Ac)(tl:TE):TI:=λU H R=>tl U H λx H1=>∃a,x=.ref a/\(∃xs,FS K H1 a xs)/\R (wP K a) H1
def fH (K:Ac)(tl:TE):TI:=λU H R=>tl U H λx H1=>∃a,x=.ref a/\(∃xs,LK K H1 a xs)/\R (wN K a) H1
theorem lg {l:Cb}{tl:TE}(hl:PE X l tl):PI X tg l (X2 X.K tl):=by
 intro Ad s U H R I h;refine Do (hl Ad s U H _ I h) λv s1 e=>e.el λx H1 I1 r1 q1=>?_;obtain⟨a,e,⟨xs,hq⟩,q⟩:=q1;subst e;cases r1;obtain⟨Bj,rv,p,hz⟩:=I1.list hq;refine Fe p.isList ?_;refine⟨s1.heap.objs.size,[s1.heap.objs.size],_,_,H1,rfl,I1.kept λb o e=>Af _ e,wu a _,⟨_,Ay _ rfl,rfl,rfl⟩,λb hb=>?_,q⟩;have e:b=s1.heap.objs.size:=by simpa using hb
 subst e;exact I1.fpOk (AJ _) (I1.hok.fresh (AJ _))
theorem eh {l:Cb}{tl:TE}(hl:PE X l tl):PI X tg l (fH X.K tl):=by
 intro Ad s U H R I h;refine Do (hl Ad s U H _ I h) λv s1 e=>e.el λx H1 I1 r1 q1=>?_;obtain⟨a,e,⟨xs,hq⟩,q⟩:=q1;subst e;cases r1;obtain⟨Bj,rv,p,hz⟩:=I1.tuple hq;refine wpAny_pyIter_tuple (show s1.heap.IsTuple a Bj.toArray from p) ?_;refine⟨s1.heap.objs.size,[s1.heap.objs.size],_,_,H1,rfl,I1.kept λb o e=>Af _ e,xo a _,⟨_,Ay _ rfl,rfl,rfl⟩,λb hb=>?_,q⟩;have e:b=s1.heap.objs.size:=by simpa using hb
 subst e;exact I1.fpOk (AJ _) (I1.hok.fresh (AJ _))
theorem Qg {lo hi:Int}(I:A6 X Ad U H s)(h1:-(2^62)<=lo)(h2:lo<2^62)(h3:-(2^62)<=hi)(h4:hi<2^62)
  (q:R (aZ lo (hi-lo).toNat) H):Aq (Ax X.prog X.w) X.A (Tr (.ref s.heap.objs.size)) (YF X Ad U tg R) E {s with heap:=s.heap.push {cls:=.type "range",data:=.fields #[.int lo t,.int hi u,.int 1 v]},toks:=tk}:=by
 refine Tn (Sx ..) (small_one h1 h2 h3 h4) ?_;have I1:A6 X Ad U H {s with heap:=s.heap.push {cls:=.type "range",data:=.fields #[.int lo t,.int hi u,.int 1 v]},toks:=tk}:=I.kept λb o e=>Af _ e
 refine ⟨(s.heap.push { cls:=.type "range",data:=.fields #[.int lo t,.int hi u,.int 1 v] }).objs.size,[(s.heap.push { cls:=.type "range",data:=.fields #[.int lo t,.int hi u,.int 1 v] }).objs.size],_,_,H,rfl,
  I1.kept λb o e=>Af _ e,xn _ lo (hi-lo).toNat,?_,λb hb=>?_,q⟩
 .have e1:lo+((0:Nat):Int)*1=lo:=by simp
  have e2:(((hi-lo).toNat:Nat):Int)-((0:Nat):Int)=Eh lo hi 1:=by rw[rangeSize_one];split<;>ext
  show Mt _ _ (lo+((0:Nat):Int)*1) ((((hi-lo).toNat:Nat):Int)-((0:Nat):Int)) 1;rw[e1,e2];exact Ay _ rfl
 .have e:b=(s.heap.push {cls:=.type "range",data:=.fields #[.int lo t,.int hi u,.int 1 v]}).objs.size:=by simpa using hb
  subst e;exact I1.fpOk (AJ _) (I1.hok.fresh (AJ _))
def X1 (ta:TA):TI:=λU H R=>ta U H λvs H1=>∃j,vs=[.int j]/\-(2^62)<=j/\j<2^62/\R (aZ 0 j.toNat) H1
theorem ud {a:Cb}(hg:Gl X "range")(hm:X.mg "range" = none)(ha:PA X [a] ta)(hs:Ar [a] X.env=[(false,eval a X.env)]:=by rfl):PI X tg (.Call (.Name "range" p) [a] [] pos) (X1 ta):=by
 intro Ad s U H R I h;refine Call_ (Qz I hg hm boot_range (BO (Do (ha pos Ad s U H _ I h) λus s1 e=>e.el λvs H1 I1 r1 q1=>?_) hs rfl));obtain⟨j,e,q1,q2,q⟩:=q1;subst e;cases r1 with
 |cons r rr=>cases rr;obtain⟨t,rfl⟩:=r;exact call_range_1 (Qg I1 (by ext) (by ext) q1 q2 (by simpa using q))
def cH (wi:TI)(g:TG)(tb:TS):TS:=λD U H=>wi U H λJ H1=>∃W:Nat->Nat->St->Hp->Prop,(∃m,W 0 m U H1)/\∀i m U H,W i m U H ->
 (J.stop i H/\D.nx U H)\/(J.go i H/\∃N:St->Hp->Prop,(∀U' H',N U' H'->∃m',m' < m/\W (i+1) m' U' H')/\∀x H',J.yld i H x H'->g x U H' λU2 H2=>tb {D with nx:=N,ct:=N,bk:=D.nx} U2 H2)
noncomputable def IK (fp:List Av)(h:CU):List (Av×Obj):=fp.filterMap λb=>(h.get? b).map λo=>(b,o)
theorem aG (hb:b∈fp)(e:h.get? b=some o):(b,o)∈IK fp h:=Ci.mpr ⟨b,hb,by rw[e];rfl⟩
theorem sR (hp:p∈IK fp h):p.1∈fp/\h.get? p.1=some p.2:=by
 obtain⟨b,hb,e⟩:=Ci.mp hp;cases q:h.get? b with
 |none=>rw[q]at e;cases e
 |some o=>rw[q]at e;have e':=Ba e;subst e';exact⟨hb,q⟩
theorem A6.pinned (I:A6 X Ad U H s)(hf:∀b∈fp,Jr X Ad H b)(ho:∀b∈fp,∃o,s.heap.get? b=some o/\∀v,o.data≠.cell v):A6 X (Ad++IK fp s.heap) U H s:=
 I.pins_of λp hp=>(AH.mp hp).elim (λz=>I.pin p (AR _ z)) λz=>by
  obtain⟨hb,e⟩:=sR z;obtain⟨f0,f1,f2,_⟩:=hf p.1 hb;obtain⟨o,e',d⟩:=ho p.1 hb;rw[e]at e';cases e';exact⟨e,f0,f1,f2,d⟩
theorem A6.unpinned (I:A6 X (Ad++pl) U H s):A6 X Ad U H s:=I.pins_of λp hp=>I.pin p (AR _ (BB _ hp))
theorem fc (hp:Pr (Ax X.prog X.w) X.A X.env X.xe)(hc:X.calm=true)(hi:PI X tg iter wi)(hg:PG X tg g)(hb:Lz X body tb)
  (hs:∀x,BC iter X.env x=pure x:=by intro _;rfl):PS X (.For tg iter body [] pos) (cH wi g tb):=by
 intro Ad s U H D I h;refine wpAny_For (Do (hi Ad s U H _ I h) λv s1 h1=>Do h1 λitv s2 h2=>?_) hs;obtain⟨it,fp,tn,J,H2,e,I2,T,st2,f2,W,⟨m0,w0⟩,turn⟩:_:=h2;subst e;have stat:∀{H':Hp},(∀b∈fp,H' b=none)->∀b∈fp,Jr X Ad H' b:=λhn b hb=>⟨hn b hb,(f2 b hb).2⟩;refine codeAny_forLoop_any (λn s'=>∃i U' H',A6 X Ad U' H' s'/\tn i s'.heap/\(∀b∈fp,H' b=none)/\W i n U' H') ?_ m0 ⟨0,U,H2,I2,st2,λb hb=>(f2 b hb).1,w0⟩;intro n s3 hI';refine Al λG' kk'=>?_;obtain⟨i,U3,H3,I3,st3,fr3,w3⟩:=hI';refine kk' ?_;clear kk';rcases turn i n U3 H3 w3 with⟨stop,qn⟩|⟨go,N,hN,step⟩
 .refine Ed hp (Do (T.done X rfl rfl rfl rfl hc i Ad s3 U3 H3 X.xe I3 (stat fr3) st3 stop) λr s4 ⟨hr,I4⟩=>?_);subst hr;exact IU ⟨U3,H3,I4,qn⟩
 .refine Ed hp (Do (T.item X rfl rfl rfl rfl hc i Ad s3 U3 H3 X.xe I3 (stat fr3) st3 go) λr s4 ⟨u,hr,h4⟩=>?_);subst hr;refine Ed hp (Do h4 λ_ s5 ⟨x,H5,I5,r5,y5,st5,fr5⟩=>?_);have I5':=I5.pinned (stat fr5) (T.obj _ _ st5);refine Ed hp (Do (hg _ s5 U3 H5 x u _ I5' r5 (step x H5 y5)) λ_ s6 ⟨U6,H6,I6,q6⟩=>?_);refine Ed hp (Do (hb _ s6 U6 H6 _ I6 q6) λf s7 q7=>?_)
  have NC:∀{U7:St} {H7:Hp},A6 X (Ad++IK fp s5.heap) U7 H7 s7->N U7 H7->∃m,m<n/\∃i U' H',A6 X Ad U' H' s7/\tn i s7.heap/\(∀b∈fp,H' b=none)/\W i m U' H':=λ{U7 H7} I7 n7=>by
   obtain⟨m',hm,w7⟩:=hN U7 H7 n7;refine⟨m',hm,i+1,U7,H7,I7.unpinned,T.keep _ _ _ st5 λb hb o e=>(I7.pin (b,o) (AR _ (AR _ (aG hb e)))).1,λb hb=>?_,w7⟩;obtain⟨o,e,d⟩:=T.obj _ _ st5 b hb;exact(I7.pin (b,o) (AR _ (AR _ (aG hb e)))).2.1
  cases f with
  |next=>obtain⟨U7,H7,I7,n7⟩:=q7;exact NC I7 n7
  |cont=>obtain⟨U7,H7,I7,n7⟩:=q7;exact NC I7 n7
  |brk=>obtain⟨U7,H7,I7,q7⟩:=q7;exact⟨U7,H7,I7.unpinned,q7⟩
  |ret v=>obtain⟨x7,U7,H7,I7,r7,q7⟩:=q7;exact⟨x7,U7,H7,I7.unpinned,r7,q7⟩
end
abbrev R2:=V->V->Hp->VK->Prop
def Gd (X:Cx)(f:Ah->Ah->Sem Ah)(r:R2):Prop:=
 ∀(Ad:List (Av×Obj)) (s:Ap) (U:St) (H:Hp) (x y:V) (v u:Ah) (Q:VK),A6 X Ad U H s->RelV x v->RelV y u->r x y H Q ->
  Aq (Ax X.prog X.w) X.A (f v u) (EP X Ad U Q) X.xe s
def Ri (X:Cx)(f:Ah->Sem Ah)(r:V->Hp->VK->Prop):Prop:=
 ∀(Ad:List (Av×Obj)) (s:Ap) (U:St) (H:Hp) (x:V) (v:Ah) (Q:VK),A6 X Ad U H s->RelV x v->r x H Q ->
  Aq (Ax X.prog X.w) X.A (f v) (EP X Ad U Q) X.xe s
def EX (X:Cx)(f:Ah)(r:List V->Hp->VK->Prop):Prop:=
 ∀(Ad:List (Av×Obj)) (s:Ap) (U:St) (H:Hp) (xs:List V) (us:List Ah) (Q:VK),A6 X Ad U H s->BF xs us->r xs H Q ->
  Aq (Ax X.prog X.w) X.A (IE f us) (EP X Ad U Q) X.xe s
def W5 (r:R2)(ta tb:TE):TE:=λU H Q=>ta U H λx H1=>tb U H1 λy H2=>r x y H2 Q
def wQ (r:V->Hp->VK->Prop)(ta:TE):TE:=λU H Q=>ta U H λx H1=>r x H1 Q
def rI (C:Int->Int->Prop)(g:Int->Int->V):R2:=λx y H Q=>∃i j,x=.int i/\y=.int j/\C i j/\Q (g i j) H
def PC (g:Int->Int->V):R2:=λx y H Q=>∃i j,x=.int i/\y=.int j/\Q (g i j) H
def rU (g:Int->V):V->Hp->VK->Prop:=λx H Q=>∃i,x=.int i/\Q (g i) H
section
variable {X:Cx}
theorem Ul (ha:PE X a ta)(hb:PE X b tb){Ad:List (Av×Obj)}{s:Ap}{U:St}{H:Hp}{R:V->V->Hp->Prop}(I:A6 X Ad U H s)
  (h:ta U H λx H1=>tb U H1 λy H2=>R x y H2) {Q:Ah->Ap->Prop} {f:Ah->Ah->Sem Ah}
  (hf:∀v u s2 x y H2,A6 X Ad U H2 s2->RelV x v->RelV y u->R x y H2->Aq (Ax X.prog X.w) X.A (f v u) Q X.xe s2) :
  Aq (Ax X.prog X.w) X.A (eval a X.env) (λv s₁=>Aq (Ax X.prog X.w) X.A (eval b X.env) (λu s₂=>Aq (Ax X.prog X.w) X.A (f v u) Q X.xe s₂) X.xe s₁) X.xe s:=by
 refine Do (ha Ad s U H _ I h) λv s1 e=>e.el λx H1 I1 r1 q1=>?_;refine Do (hb Ad s1 U H1 _ I1 q1) λu s2 e=>e.el λy H2 I2 r2 q2=>?_;exact hf v u s2 x y H2 I2 r1 r2 q2
theorem yJ {op:NG}{r:R2}(ho:Gd X (BD op) r)(ha:PE X a ta)(hb:PE X b tb):PE X (.BinOp a op b pos) (W5 r ta tb):=by
 intro Ad s U H Q I h;exact wpAny_BinOp (Ul ha hb I h λv u s2 x y H2 I2 rx ry q=>ho Ad s2 U H2 x y v u Q I2 rx ry q)
theorem yL (ho:Ri X (Na op) r)(ha:PE X a ta):PE X (.UnaryOp op a pos) (wQ r ta):=by
 intro Ad s U H Q I h;exact UnaryOp_ (Do (ha Ad s U H _ I h) λv s1 e=>e.el λx H1 I1 r1 q1=>ho Ad s1 U H1 x v Q I1 r1 q1)
theorem XM {f:Ah->Ah->Sem Ah}{C:Int->Int->Prop}{g:Int->Int->Int}
  (PR:∀i j t u s Q E,C i j->Q (.int (g i j) s.toks) {s with toks:=s.toks+1}->Aq (Ax X.prog X.w) X.A (f (.int i t) (.int j u)) Q E s) :
  Gd X f (rI C λi j=>.int (g i j)):=by
 intro Ad s U H x y v u Q I rx ry h;obtain⟨i,j,rfl,rfl,hc,q⟩:=h;obtain⟨t,rfl⟩:=rx;obtain⟨t',rfl⟩:=ry;exact PR i j t t' s _ _ hc ⟨.int (g i j),H,I.tok _,⟨_,rfl⟩,q⟩
theorem Qk {g:Int->Int->Int}
  (PR:∀i j t u s Q E,Q (.int (g i j) s.toks) {s with toks:=s.toks+1}->Aq (Ax X.prog X.w) X.A (f (.int i t) (.int j u)) Q E s) :
  Gd X f (PC λi j=>.int (g i j)):=by
 intro Ad s U H x y v u Q I rx ry h;obtain⟨i,j,rfl,rfl,q⟩:=h;obtain⟨t,rfl⟩:=rx;obtain⟨t',rfl⟩:=ry;exact PR i j t t' s _ _ ⟨.int (g i j),H,I.tok _,⟨_,rfl⟩,q⟩
theorem RM {g:Int->Int->Bool}
  (PR:∀i j t u s Q E,Q (.bool (g i j)) s->Aq (Ax X.prog X.w) X.A (f (.int i t) (.int j u)) Q E s) :
  Gd X f (PC λi j=>.bl (g i j)):=by
 intro Ad s U H x y v u Q I rx ry h;obtain⟨i,j,rfl,rfl,q⟩:=h;obtain⟨t,rfl⟩:=rx;obtain⟨t',rfl⟩:=ry;exact PR i j t t' s _ _ ⟨.bl (g i j),H,I,rfl,q⟩
def Sl (i j:Int):Prop:=0<j/\j<1073741824
def Sk (i j:Int):Prop:=0<=j/\j<=1000000/\i.natAbs<2^64
def QK (i j:Int):Prop:=(-(2^64)<i/\i<2^64)\/(-(2^64)<j/\j<2^64)
theorem QK.ok (h:QK i j):IntMulOk i j:=by
 rcases h with⟨h1,h2⟩|⟨h1,h2⟩
 .exact .of_left (intBits_le_64 h1 h2)
 .exact .of_right (intBits_le_64 h1 h2)
theorem xr (k:Nat):(0:Int)<=2^k:=by
 rw[two_pow_cast];exact Int.natCast_nonneg _
theorem bm:Gd X (BD .Add) (PC λi j=>.int (i+j)):=Qk λ_ _ _ _ _ _ _ q=>add_int q
theorem bw:Gd X (BD .Sub) (PC λi j=>.int (i-j)):=Qk λ_ _ _ _ _ _ _ q=>sub_int q
theorem br:Gd X (BD .Mult) (rI QK λi j=>.int (i*j)):=XM λ_ _ _ _ _ _ _ hc q=>mul_int q hc.ok
theorem ji:Gd X (BD .FloorDiv) (rI Sl λi j=>.int (i / j)):=XM λi j _ _ _ _ _ hc q=>by
 have h1:=hc.1;have h2:=hc.2;exact floordiv_int (by ext) (by rw[LW i (by ext)];exact q) (.inl (PyProof.noPylong_small (by ext)))
theorem bq:Gd X (BD .Mod) (rI (λ_ j=>0<j) λi j=>.int (i%j)):=XM λi j _ _ _ _ _ hc q=>by
 have h1:=hc;exact mod_int' (by ext) (by rw[Int.fmod_eq_emod_of_nonneg i (by ext)];exact q)
theorem bu:Gd X (BD .LShift) (rI Sk λi j=>.int (i*2^j.toNat)):=XM λ_ _ _ _ _ _ _ hc q=>lshift_int_small hc.1 hc.2.1 hc.2.2 q
theorem bv:Gd X (BD .RShift) (rI (λ_ j=>0<=j) λi j=>.int (i / 2^j.toNat)):=XM λi j _ _ _ _ _ hc q=>
 rshift_int hc (by rw[LW i (xr _)];exact q)
theorem bo:Gd X (BD .BitAnd) (PC λi j=>.int (AD i j)):=Qk λ_ _ _ _ _ _ _ q=>and_int q
theorem yE:Gd X (BD .BitOr) (PC λi j=>.int (AK i j)):=Qk λ_ _ _ _ _ _ _ q=>or_int q
theorem bz:Gd X (BD .BitXor) (PC λi j=>.int (Be i j)):=Qk λ_ _ _ _ _ _ _ q=>xor_int q
theorem kN {g:Int->Int}
  (PR:∀i t s Q E,Q (.int (g i) s.toks) {s with toks:=s.toks+1}->Aq (Ax X.prog X.w) X.A (f (.int i t)) Q E s) :
  Ri X f (rU λi=>.int (g i)):=by
 intro Ad s U H x v Q I rx h;obtain⟨i,rfl,q⟩:=h;obtain⟨t,rfl⟩:=rx;exact PR i t s _ _ ⟨.int (g i),H,I.tok _,⟨_,rfl⟩,q⟩
theorem jv:Ri X (Na .USub) (rU λi=>.int (-i)):=kN λ_ _ _ _ _ q=>neg_int q
theorem ju:Ri X (Na .Invert) (rU λi=>.int (D8 i)):=kN λ_ _ _ _ _ q=>invert_int q
end
noncomputable def T1:V->V->Bool
 |.non,.non=>true | .non,.int _=>true | .int _,.non=>true | .non,.bl _=>true | .bl _,.non=>true | .non,.str _=>true | .str _,.non=>true
 |.int _,.int _=>true | .bl _,.bl _=>true | .str _,.str _=>true | .byt _,.byt _=>true
 |.int _,.str _=>true | .str _,.int _=>true | .bl _,.str _=>true | .str _,.bl _=>true
 |_,_=>false
def xA:R2:=λx y H Q=>T1 x y=true/\Q (.bl (decide (x=y))) H
def wY:R2:=λx y H Q=>T1 x y=true/\Q (.bl (!decide (x=y))) H
theorem pM :decide (V.int i=V.int j)=(i == j):=by
 rw[EG];simp
theorem nS :decide (V.bl i=V.bl j)=(i == j):=by
 rw[EG];simp
theorem pN :decide (V.str i=V.str j)=(i == j):=by
 rw[EG];simp
theorem pL :decide (V.byt i=V.byt j)=(i.toList == j.toList):=by
 rw[EG];cases i;cases j;simp
section
variable {X:Cx}{a b c:Cb}{ta tb:TE}{pos:Pos}
theorem Iv (I:A6 X Ad U H s)(q:Q (.bl k) H)(e:k=k'):EP X Ad U Q (.bool k') s:=by
 subst e;exact⟨.bl k,H,I,rfl,q⟩
theorem xY:Gd X (Bd .Eq) xA:=by
 intro Ad s U H x y v u Q I rx ry h;obtain⟨hs,q⟩:=h;cases x with
 |non=>
  cases rx;cases y with
  |non=>cases ry;exact Y0 (Iv I q (by simp))
  |bl j=>cases ry;exact Y2 (Iv I q (by simp))
  |int j=>obtain⟨t',rfl⟩:=ry;exact Y1 (Iv I q (by simp))
  |str j=>obtain⟨t',rfl⟩:=ry;exact YZ (Iv I q (by simp))
  |_=>exact absurd (show false=true from hs) Aj
 |bl i=>
  cases rx;cases y with
  |non=>cases ry;exact Y4 (Iv I q (by simp))
  |bl j=>cases ry;exact eq_bool (Iv I q nS)
  |str j=>obtain⟨t',rfl⟩:=ry;exact Ws (Iv I q (by simp))
  |_=>exact absurd (show false=true from hs) Aj
 |int i=>
  obtain⟨t,rfl⟩:=rx;cases y with
  |non=>cases ry;exact Y3 (Iv I q (by simp))
  |int j=>obtain⟨t',rfl⟩:=ry;exact eq_int (Iv I q pM)
  |str j=>obtain⟨t',rfl⟩:=ry;exact Wr (Iv I q (by simp))
  |_=>exact absurd (show false=true from hs) Aj
 |str i=>
  obtain⟨t,rfl⟩:=rx;cases y with
  |non=>cases ry;exact YY (Iv I q (by simp))
  |bl j=>cases ry;exact Wq (Iv I q (by simp))
  |int j=>obtain⟨t',rfl⟩:=ry;exact Wp (Iv I q (by simp))
  |str j=>obtain⟨t',rfl⟩:=ry;exact eq_str (Iv I q pN)
  |_=>exact absurd (show false=true from hs) Aj
 |byt i=>
  obtain⟨t,rfl⟩:=rx;cases y with
  |byt j=>obtain⟨t',rfl⟩:=ry;exact PySem.W.eq_bytes (Iv I q pL)
  |_=>exact absurd (show false=true from hs) Aj
 |_=>cases y<;>exact absurd (show false=true from hs) Aj
theorem yD:Gd X (Bd .NotEq) wY:=by
 intro Ad s U H x y v u Q I rx ry h;obtain⟨hs,q⟩:=h;cases x with
 |non=>
  cases rx;cases y with
  |non=>cases ry;exact YT (Iv I q (by simp))
  |bl j=>cases ry;exact YV (Iv I q (by simp))
  |int j=>obtain⟨t',rfl⟩:=ry;exact YU (Iv I q (by simp))
  |str j=>obtain⟨t',rfl⟩:=ry;exact YS (Iv I q (by simp))
  |_=>exact absurd (show false=true from hs) Aj
 |bl i=>
  cases rx;cases y with
  |non=>cases ry;exact YX (Iv I q (by simp))
  |bl j=>cases ry;exact ne_bool (Iv I q (congrArg not nS))
  |str j=>obtain⟨t',rfl⟩:=ry;exact Wo (Iv I q (by simp))
  |_=>exact absurd (show false=true from hs) Aj
 |int i=>
  obtain⟨t,rfl⟩:=rx;cases y with
  |non=>cases ry;exact YW (Iv I q (by simp))
  |int j=>obtain⟨t',rfl⟩:=ry;exact ne_int (Iv I q (congrArg not pM))
  |str j=>obtain⟨t',rfl⟩:=ry;exact Wn (Iv I q (by simp))
  |_=>exact absurd (show false=true from hs) Aj
 |str i=>
  obtain⟨t,rfl⟩:=rx;cases y with
  |non=>cases ry;exact YR (Iv I q (by simp))
  |bl j=>cases ry;exact Wm (Iv I q (by simp))
  |int j=>obtain⟨t',rfl⟩:=ry;exact Wl (Iv I q (by simp))
  |str j=>obtain⟨t',rfl⟩:=ry;exact ne_str (Iv I q (congrArg not pN))
  |_=>exact absurd (show false=true from hs) Aj
 |byt i=>
  obtain⟨t,rfl⟩:=rx;cases y with
  |byt j=>obtain⟨t',rfl⟩:=ry;exact PySem.W.ne_bytes (Iv I q (congrArg not pL))
  |_=>exact absurd (show false=true from hs) Aj
 |_=>cases y<;>exact absurd (show false=true from hs) Aj
theorem yC:Gd X (Bd .Lt) (PC λi j=>.bl (decide (i<j))):=RM λ_ _ _ _ _ _ _ q=>lt_int q
theorem yB:Gd X (Bd .LtE) (PC λi j=>.bl (decide (i<=j))):=RM λ_ _ _ _ _ _ _ q=>le_int q
theorem yA:Gd X (Bd .Gt) (PC λi j=>.bl (decide (j<i))):=RM λ_ _ _ _ _ _ _ q=>gt_int q
theorem xZ:Gd X (Bd .GtE) (PC λi j=>.bl (decide (j<=i))):=RM λ_ _ _ _ _ _ _ q=>ge_int q
theorem bp:Gd X (Bd .Is) (λx y H Q=>y=.non/\Q (.bl (decide (x=.non))) H):=by
 intro Ad s U H x y v u Q I rx ry h;obtain⟨rfl,q⟩:=h;cases ry;refine is_none_gen (Iv I q ?_)
 cases x<;>first
  |(cases rx;rfl)
  |(obtain⟨t,rfl⟩:=rx;rfl)
theorem Qq (b:Cb)(h:op≠.In:=by decide)(h2:op≠.NotIn:=by decide):FR op b=false:=by
 have e1:(op == CmpOp.In)=false:=by cases op<;>first | rfl | exact absurd rfl h
 have e2:(op == CmpOp.NotIn)=false:=by cases op<;>first | rfl | exact absurd rfl h2
 cases b<;>simp[FR,e1,e2]
theorem jt {op:CmpOp}{r:R2}(ho:Gd X (Bd op) r)(ha:PE X a ta)(hb:PE X b tb)(hm:FR op b=false):PE X (.Compare a [op] [b] pos) (W5 r ta tb):=by
 intro Ad s U H Q I h;exact wpAny_Compare1 (Ul ha hb I h λv u s2 x y H2 I2 rx ry q=>ho Ad s2 U H2 x y v u Q I2 rx ry q) hm
def W3 (t:TE):TT:=λU H Q=>t U H λx H'=>∃k,x=.bl k/\Q k H'
theorem nc (ho:Gd X (Bd op) r)(ha:PE X a ta)(hb:PE X b tb)(hm:FR op b=false):PT X (.Compare a [op] [b] pos) (W3 (W5 r ta tb)):=by
 intro Ad s U H Q I h
 refine wpAny_isTrue_Compare1 (Do (ha Ad s U H _ I h) λv s1 e=>e.el λx H1 I1 r1 q1=>Do (hb Ad s1 U H1 _ I1 q1) λu s2 e=>e.el λy H2 I2 r2 q2 =>
  Do (ho Ad s2 U H2 x y v u _ I2 r1 r2 q2) λc s3 e=>e.el λz H3 I3 r3 ⟨k,e,q3⟩=>?_) hm
 subst e;cases r3;exact CW ⟨H3,I3,q3⟩
def Qa (r r':R2)(ta tb tc:TE):TE:=λU H Q=>ta U H λx H1=>tb U H1 λy H2=>r x y H2 λz H3=>∃k,z=.bl k /\
 (if k=true then tc U H3 λw' H4=>r' y w' H4 Q else Q (.bl false) H3)
theorem qd (ho:Gd X (Bd op) r)(ho':Gd X (Bd op') r')(ha:PE X a ta)(hb:PE X b tb)(hc:PE X c tc)
  (hm:lastMarks [op,op'] [b,c]=false:=by with_unfolding_all rfl):PE X (.Compare a [op,op'] [b,c] pos) (Qa r r' ta tb tc):=by
 intro Ad s U H Q I h
 refine Compare_chain (Do (ha Ad s U H _ I h) λv s1 e=>e.el λx H1 I1 r1 q1=>chain_link (Do (hb Ad s1 U H1 _ I1 q1) λu s2 e=>e.el λy H2 I2 r2 q2 =>
  Do (ho Ad s2 U H2 x y v u _ I2 r1 r2 q2) λd s3 e=>e.el λz H3 I3 r3 ⟨k,e,q3⟩=>?_)) hm
 subst e;cases r3;refine CW ?_;cases k with
 |false=>exact ite_ff ⟨.bl false,H3,I3,rfl,q3⟩
 |true=>exact ite_tt (chain_last (Do (hc Ad s3 U H3 _ I3 q3) λw' s4 ⟨z',H4,I4,r4,q4⟩=>ho' Ad s4 U H4 y z' u w' Q I4 r2 r4 q4))
theorem KS:(Am:Nat)<2^63:=by rw[Hn];decide
theorem wg:Gd X (BD .Add) (λx y H Q=>∃i j,x=.str i/\y=.str j/\i.length+j.length<=Am/\Q (.str (i++j)) H):=by
 intro Ad s U H x y v u Q I rx ry h;obtain⟨i,j,rfl,rfl,hz,q⟩:=h;obtain⟨t,rfl⟩:=rx;obtain⟨t',rfl⟩:=ry;exact add_str (λt' tk=>⟨.str (i++j),H,I.tok _,⟨_,rfl⟩,q⟩) hz
theorem HA (r:BF [x] us):∃u,us=[u]/\RelV x u:=by
 cases r with
 |cons r1 r2=>cases r2;exact⟨_,rfl,r1⟩
theorem MJ (r:BF [x,y] us):∃u w',us=[u,w']/\RelV x u/\RelV y w':=by
 cases r with
 |cons r1 r2=>
  cases r2 with
  |cons r3 r4=>cases r4;exact⟨_,_,rfl,r1,r3⟩
theorem rg (hc:X.calm=true):EX X (.builtin "max") (λxs H Q=>∃i j,xs=[.int i,.int j]/\Q (.int (if j > i then j else i)) H):=by
 intro Ad s U H xs us Q I r h;obtain⟨i,j,rfl,q⟩:=h;obtain⟨u,w',e1',⟨t,e2'⟩,⟨t',e3'⟩⟩:_:=MJ r;refine max_two_ints (I.ok.hd hc) λh' tk k=>⟨_,H,I.kept k,?_,q⟩;by_cases hj:j > i
 .rw[if_pos hj,if_pos hj];exact⟨_,rfl⟩
 .rw[if_neg hj,if_neg hj];exact⟨_,rfl⟩
theorem rh (hc:X.calm=true):EX X (.builtin "min") (λxs H Q=>∃i j,xs=[.int i,.int j]/\Q (.int (if j<i then j else i)) H):=by
 intro Ad s U H xs us Q I r h;obtain⟨i,j,rfl,q⟩:=h;obtain⟨u,w',e1',⟨t,e2'⟩,⟨t',e3'⟩⟩:_:=MJ r;refine min_two_ints (I.ok.hd hc) λh' tk k=>⟨_,H,I.kept k,?_,q⟩;by_cases hj:j<i
 .rw[if_pos hj,if_pos hj];exact⟨_,rfl⟩
 .rw[if_neg hj,if_neg hj];exact⟨_,rfl⟩
end
structure Of (h:CU)(x dx C:Av)(mA:Str->Option Ah):Prop where
 obj:h.get? x=some (De C dx)
 ns:h.Ns1 dx mA
 ne:dx≠x
theorem uv {h:CU}(n:h.Ns1 dx mA):∃od,h.get? dx=some od/\∀name,Hw name od=some (mA name):=by
 obtain⟨o,es,ep,ho,hd,hk,_,hm⟩:_:=n;refine⟨o,ho,λname=>?_⟩;have e:=hm name;unfold nsFind findBy at e;rw[<- Array.find?_toList]at e;unfold Hw;rw[hd];dsimp only;split
 .rename_i y q;rw[q]at e;exact congrArg some e
 .rename_i q;rw[q]at e
  have a:es.toList.any (·.refKey)=false:=by
   rw[P4];intro y hy;obtain⟨z,t,hkey⟩:=hk y (Ic.mp hy);simp[DictEntry.refKey,hkey]
  have a':¬es.toList.any (·.refKey)=true:=by rw[a];exact Aj
  rw[if_neg a'];exact congrArg some e
theorem Of.look (I:Of h x dx C mA):∃od,PySem.W.InstAt h x (De C dx) C (some od)/\∀name,Hw name od=some (mA name):=
 let ⟨od,ho,hl⟩:=uv I.ns
 ⟨od,⟨I.obj,rfl,rfl,ho⟩,hl⟩
section
variable      {K:Ac}
theorem kh (X:K.In s.heap)(I:Of s.heap x dx C mA)(hg:Gx K C name=true)(hh:Je K C=true)
  (ha:CI K (.ref C) name=some none) (hv:mA name=some v) (hv':OR v=true) (h:Q v {s with toks:=s.toks+1}) :
  Aq (Ax prog w) A (getAttr (.ref x) name expr) Q E s:=by
 obtain⟨od,J,hl⟩:=I.look;exact PySem.W.get_value X J (Mm hg).1 (PySem.W.findObj_own hh ha rfl (by rw[hl,hv])) hv' h
theorem ph (X:K.In s.heap)(I:Of s.heap x dx C mA)(hg:Gx K C name=true)
  (hf:CI K (.ref C) name=some (some (.ref f))) (ht:LR K (.ref f)=true) (hv:mA name=none) (h:Q (.ref f,[.ref x]) s) :
  Aq (Ax prog w) A (JR (.ref x) name pl) Q E s:=by
 obtain⟨od,J,hl⟩:=I.look;exact PySem.W.method_fn X J (Mm hg).1 (Mm hg).2 hf (beq_iff_eq.mp ht) (by show(Hw name od).map (·.isSome)=some false;rw[hl,hv];rfl) h
theorem me (X:K.In s.heap)(I:Of s.heap x dx C mA)
  (hs:CI K (.ref C) "__setattr__" = some (some (.builtin "object.__setattr__"))) (hp:Ol K C=true) (ht:Ke K C name=some none) (hh:Je K C=true)
  (hw:MG mA ns) (hsz:ns.length<=Am)
  (h:∀h',Of h' x dx C (λy=>if y=name then some v else mA y)->By dx s.heap h'->Q () {s with heap:=h',toks:=s.toks+2}) :
  Aq (Ax prog w) A (setAttr (.ref x) name v) Q E s:=by
 obtain⟨od,J,hl⟩:=I.look;refine PySem.W.set_plain X J hs (PySem.W.osa_open X J hp ht λb=>?_);obtain⟨cd,hc,hd'⟩:=PySem.W.any_some hh;have hx:=I.obj;refine Aa (Ab (Aa (Aa (wpAny_loadPart hx (Aa (Wf (PySem.W.looks_clsIn X hc) ?_))))));rw[hd'];refine Ab (Aa (Ab (Aa ?_)));refine wpAny_nsSet1 I.ns λh' hn2 hs2=>?_;obtain⟨oD,esD,epD,hoD,hdD,hcD⟩:=hn2.count (YQ name v hw);refine Aa (wpAny_lookBehind hoD (by rw[hdD];exact pastItsLine_dict (AY hcD (by rw[AO];ext))) ?_);exact Ab (h _ ⟨(hs2.2 _ (Bg I.ne)).trans I.obj,hn2,I.ne⟩ hs2)
theorem p7 (X:K.In s.heap)(hm:Pp K C=true)
  (hi:CI K (.ref C) "__init__" = some (some (.ref f))) (hf:PySem.W.typeIn K (.ref f)=some (.type "function"))
  (h:DP (Ax prog w) (A.under (.builtin "type.__call__" ⟨.ref C::vs,kw⟩)) (.call (.ref f) ⟨.ref (s.heap.objs.size+1)::vs,kw⟩) (PySem.W.InitBack (s.heap.objs.size+1) R)
   { s with heap:=(s.heap.push Cp).push (De C s.heap.objs.size) }) :
  DP (Ax prog w) A (.call (.ref C) ⟨vs,kw⟩) R s:=by
 obtain⟨hh,g,d,t,os⟩:=s;exact PySem.W.make_core (PySem.W.makes_of X hm) (PySem.W.looks_findIn X hi) (λself=>PySem.W.bind_fn X self hf) (.inl rfl) h
end
noncomputable def Hj (f:Str)(v:V):List (Str×V)->List (Str×V)
 |[]=>[(f,v)]
 |(g,x)::r=>if g=f then(g,v)::r else(g,x)::Hj f v r
theorem uW (f g:Str)(v:V):∀fs,(Hj f v fs).lookup g=if g=f then some v else fs.lookup g
 |[]=>by
  show BS g [(f,v)]=_;by_cases h:g=f
  .have hb:=beq_iff_eq.mpr h;simp only[BS,hb,if_pos h]
  .have hb:=beq_eq_false_iff_ne.mpr h;simp only[BS,hb,if_neg h]
 |(k,x)::r=>by
  have ih:=uW f g v r;rw[show Hj f v ((k,x)::r)=(if k=f then(k,v)::r else(k,x)::Hj f v r)from rfl];by_cases hk:k=f
  .rw[if_pos hk];by_cases h:g=k
   .have hb:=beq_iff_eq.mpr h;simp only[BS,hb,if_pos (h.trans hk)]
   .have hb:=beq_eq_false_iff_ne.mpr h;simp only[BS,hb,if_neg (λe:g=f=>h (e.trans hk.symm))]
  .rw[if_neg hk];by_cases h:g=k
   .have hb:=beq_iff_eq.mpr h;simp only[BS,hb,if_neg (λe:g=f=>hk (h.symm.trans e))]
   .have hb:=beq_eq_false_iff_ne.mpr h;simp only[BS,hb];exact ih
theorem jE (f:Str)(v:V):∀fs,f∈(Hj f v fs).map (·.1)/\∀g,g∈fs.map (·.1)->g∈(Hj f v fs).map (·.1)
 |[]=>⟨by simp[Hj],λg h=>by simp at h⟩
 |(k,x)::r=>by
  obtain⟨i1,i2⟩:=jE f v r;rw[show Hj f v ((k,x)::r)=(if k=f then(k,v)::r else(k,x)::Hj f v r)from rfl];by_cases hk:k=f
  .rw[if_pos hk];subst hk;exact⟨by simp,λg h=>by simpa using h⟩
  .rw[if_neg hk];refine⟨?_,λg h=>?_⟩
   .rw[AM];exact Aw _ i1
   .rw[AM]at h ⊢;rcases AU.mp h with e|e
    .exact AU.mpr (.inl e)
    .exact Aw _ (i2 g e)
theorem uV (f:Str)(v:V):∀fs,(Hj f v fs).length<=fs.length+1
 |[]=>by simp[Hj]
 |(k,x)::r=>by
  have ih:=uV f v r;rw[show Hj f v ((k,x)::r)=(if k=f then(k,v)::r else(k,x)::Hj f v r)from rfl];by_cases hk:k=f
  .rw[if_pos hk,AO,AO];ext
  .rw[if_neg hk,AO,AO];ext
theorem Il.some_of (r:Il (some v) o):∃u,o=some u/\RelV v u:=by
 cases o with
 |none=>exact(show False from r).elim
 |some u=>exact⟨u,rfl,r⟩
theorem Il.none_of (r:Il none o):o=none:=by
 cases o with
 |none=>rfl
 |some u=>exact(show False from r).elim
theorem t7 (r:RelV v u):OR u=true:=by
 cases v with
 |non=>cases(show u=FZ from r);rfl
 |bl b=>cases(show u=Jd b from r);rfl
 |int i=>obtain⟨t,e⟩:=(show∃t,u=DB i t from r);cases e;rfl
 |str x=>obtain⟨t,e⟩:=(show∃t,u=C2 x t from r);cases e;rfl
 |byt b=>obtain⟨t,e⟩:=(show∃t,u=Vh b t from r);cases e;rfl
 |flt b=>obtain⟨t,e⟩:=(show∃t,u=ND b t from r);cases e;rfl
 |ref a=>cases(show u=AF a from r);rfl
 |ty n=>cases(show u=DJ n from r);rfl
section
theorem ZQ (hok:Ix P w H h)(e:H a=some (.ins C dx fs)):∃mA,Of h a dx C mA/\(∀f,Il (fs.lookup f) (mA f))/\MG mA (fs.map (·.1))/\fs.length<=1000/\H dx=some (.own a):=by
 obtain⟨d,z,ne,ob,mA,n,r,q⟩:=(show CQ P w H h a (.ins C dx fs)from hok a _ e);exact⟨mA,⟨ob,n,ne⟩,r,q,z,d⟩
end
structure Oi (K:Ac)(C:Av):Prop where
 pg:Gx K C Str.empty=true
 hd:Je K C=true
 po:Ol K C=true
 sa:CI K (.ref C) "__setattr__" = some (some (.builtin "object.__setattr__"))
theorem Oi.get {K:Ac}(c:Oi K C)(f:Str):Gx K C f=true:=c.pg
def DZ (K:Ac)(C:Av)(f:Str):Prop:=CI K (.ref C) f=some none
theorem DZ.taker {K:Ac}(n:DZ K C f):Ke K C f=some none:=by
 unfold Ke;rw[show CI K (.ref C) f=some none from n];rfl
structure Sj (K:Ac)(C:Av)(m:Str)(f:Av):Prop where
 at_:CI K (.ref C) m=some (some (.ref f))
 fn:LR K (.ref f)=true
 kp:FG K (.ref f)=true
section
theorem vg (I:A6 X Ad U H s)(e:H a=some (.ins C dx fs))(c:Oi X.K C)(n:DZ X.K C f)(l:fs.lookup f=some v)
  (h:∀u s',A6 X Ad U H s'->RelV v u->Q u s'):Aq (Ax X.prog X.w) A (getAttr (.ref a) f b) Q E s:=by
 obtain⟨mA,O,r,_,_,_⟩:=ZQ I.hok e;obtain⟨u,hu,ru⟩:=Il.some_of (by rw[<- l];exact r f);exact kh I.kIn O (c.get f) c.hd n hu (t7 ru) (h u _ (I.tok _) ru)
theorem uL (I:A6 X Ad U H s)(e:H a=some (.ins C dx fs))(c:Oi X.K C)(k:Sj X.K C m g)(l:fs.lookup m=none)
  (h:Q (.ref g,[.ref a]) s):Aq (Ax X.prog X.w) A (JR (.ref a) m pl) Q E s:=by
 obtain⟨mA,O,r,_,_,_⟩:=ZQ I.hok e;have hn:=Il.none_of (by rw[<- l];exact r m);exact ph I.kIn O (c.get m) k.at_ k.fn hn h
theorem wm (I:A6 X Ad U H s)(e:H a=some (.ins C dx fs))(c:Oi X.K C)(n:DZ X.K C f)(hl:fs.length<1000)(ry:RelV y u)
  (h:∀s',A6 X Ad U (CD H a (.ins C dx (Hj f y fs))) s'->Q () s'):Aq (Ax X.prog X.w) A (setAttr (.ref a) f u) Q E s:=by
 obtain⟨mA,O,r,wi,_,ho⟩:=ZQ I.hok e;have hz:(fs.map (·.1)).length<=Am:=by rw[Ae,Hn];ext
 refine me I.kIn O c.sa c.po n.taker c.hd wi hz λh' O' sb=>h _ ?_;have hd:∃o,h'.get? dx=some o:=let ⟨o,_,_,e',_⟩:=O'.ns;⟨o,e'⟩;refine I.write (by rw[e];exact Ch) (.inr ho) (λb q hb z=>(sb.2 b hb).trans z) hd ?_;refine⟨by rw[Ij O.ne];exact ho,?_,O.ne,O'.obj,_,O'.ns,λg=>?_,λg hg=>?_⟩
 .have:=uV f y fs;ext
 .show Il ((Hj f y fs).lookup g) (if g=f then some u else mA g);rw[uW];by_cases q:g=f
  .rw[if_pos q,if_pos q];exact ry
  .rw[if_neg q,if_neg q];exact r g
 .by_cases q:g=f
  .rw[q];exact(jE f y fs).1
  .refine(jE f y fs).2 g (wi g λz=>hg ?_);show(if g=f then some u else mA g)=none;rw[if_neg q];exact z
theorem A6.made (I:A6 X Ad U H s):A6 X Ad U (CD (CD H s.heap.objs.size (.own (s.heap.objs.size+1))) (s.heap.objs.size+1) (.ins C s.heap.objs.size []))
  {s with heap:=(s.heap.push Cp).push (De C s.heap.objs.size)}:=by
 have e1:(s.heap.push Cp).get? s.heap.objs.size=some Cp:=Ay s.heap rfl
 have e2:((s.heap.push Cp).push (De C s.heap.objs.size)).get? (s.heap.objs.size+1)=some (De C s.heap.objs.size):=by
  have:=Ay (s.heap.push Cp) (o:=De C s.heap.objs.size) rfl;rwa[F8]at this
 have e3:(s.heap.push Cp).Ns s.heap.objs.size (λ_=>none):=⟨Cp,#[],_,e1,rfl,(λe he=>absurd he (by simp)),λ_=>rfl⟩;have I1:=I.laid (o:=.own (s.heap.objs.size+1)) (h':=s.heap.push Cp) (t':=s.toks) (λb u q=>Af _ q) (AJ _) ⟨_,e1⟩;refine I1.laid (λb u q=>Af _ q) (Wt (F8 _ _)) ?_;have ne:s.heap.objs.size≠s.heap.objs.size+1:=A5 (Hc _);refine⟨by rw[Ij ne,MA],C9 _,ne,e2,λ_=>none,(Heap.Ns1.of_empty e3).at λo q=>Af _ q,λ_=>Ch,λy hy=>absurd rfl hy⟩
theorem jy (hb:Cz e f env (eval e env)=eval e env)
  (h:Aq (Ax prog w) A (eval e env) (λo s₁=>Aq (Ax prog w) A (getAttr o f true) Q E s₁) E s):Aq (Ax prog w) A (eval (.Attribute e f pos) env) Q E s:=
 Attribute_any_ h (by rw[arm_eval_Attribute,hb])
end
def cI (K:Ac)(ta:TE)(f:Str):TE:=λU H Q=>ta U H λx H1=>∃a C dx fs v,x=.ref a/\H1 a=some (.ins C dx fs)/\Oi K C/\DZ K C f/\fs.lookup f=some v/\Q v H1
def cP (K:Ac)(ta tv:TE)(f:Str):TS:=λD U H=>tv U H λy H1=>ta U H1 λx H2=>∃a C dx fs,x=.ref a/\H2 a=some (.ins C dx fs)/\Oi K C/\DZ K C f/\fs.length<1000 /\
 D.nx U (CD H2 a (.ins C dx (Hj f y fs)))
section
theorem b9 (he:PE X e ta)(hb:Cz e f X.env (eval e X.env)=eval e X.env):PE X (.Attribute e f pos) (cI X.K ta f):=by
 intro Ad s U H Q I h;refine jy hb (Do (he Ad s U H _ I h) λu s1 e=>e.el λx H1 I1 rx ⟨a,C,dx,fs,v,ex,ea,c,n,l,q⟩=>?_);subst ex;obtain rfl:u=AF a:=rx;exact vg I1 ea c n l λu' s2 I2 ru=>⟨v,H1,I2,ru,q⟩
theorem fb (ha:PE X o ta)(hv:PE X value tv)(hs:EE value (some (.Attribute o f pos')) pos.line X.env=pure false):PS X (.Assign [.Attribute o f pos'] value pos) (cP X.K ta tv f):=by
 intro Ad s U H D I h;refine plainObj_wpAny_Assign_Attribute (Do (hv Ad s U H _ I h) λu s1 e=>e.el λy H1 I1 ry q=>Do (ha Ad s1 U H1 _ I1 q) λov s2 e=>e.el λx H2 I2 rx ⟨a,C,dx,fs,ex,ea,c,n,l,q2⟩=>?_) hs;subst ex;obtain rfl:ov=AF a:=rx;exact wm I2 ea c n l ry λs3 I3=>⟨U,_,I3,q2⟩
end
section
inductive Ik (K:Ac)(H:Hp):V->Ah->Prop where
 |non:Ik K H .non (.type "NoneType")
 |bl (x:Bool):Ik K H (.bl x) (.type "bool")
 |int (i:Int):Ik K H (.int i) (.type "int")
 |str (x:Str):Ik K H (.str x) (.type "str")
 |flt (x:UInt64):Ik K H (.flt x) (.type "float")
 |lst {a:Av} {xs:List V} (e:H a=some (.lst xs)):Ik K H (.ref a) (.type "list")
 |frz {a:Av} {o:Obj} {xs:List V} (e:H a=some (.frz o (.lst xs))):Ik K H (.ref a) (.type "list")
 |tup {a:Av} {xs:List V} (e:H a=some (.tup xs)):Ik K H (.ref a) (.type "tuple")
 |dK {a:Av} {AQ:List (Cd×V)} (e:H a=some (.dK AQ)):Ik K H (.ref a) (.type "dict")
 |dT {a:Av} {AQ:List (List Cd×V)} (e:H a=some (.dT AQ)):Ik K H (.ref a) (.type "dict")
 |ins {a C dx:Av} {fs:List (Str×V)} (e:H a=some (.ins C dx fs)) (cl:Oi K C) (ha:CI K (.ref C) "__class__" = some (some (.builtin "object.__class__")))
   (hn:PySem.W.specialIn K (.builtin "object.__class__") "__get__" = some (some (.builtin "getset_descriptor.__get__"))) (htk:PySem.W.takesIn K (.builtin "object.__class__")=some true)
   (hm:PySem.W.mroIn K C (.type "object")=some true):Ik K H (.ref a) (.ref C)
theorem aC (I:A6 X Ad U H s)(rx:RelV x u)(ty:Ik X.K H x t)(e:C3 X.K t c=some b)(h:∀tk,Q (.bool b) {s with toks:=tk}) :
  Aq (Ax X.prog X.w) A (IE (.builtin "isinstance") [u,c]) Q E s:=by
 cases ty with
 |non=>cases(show u=FZ from rx);exact En PySem.W.kitx_none I.kIn Ch e (λz=>nomatch z) h
 |bl y=>cases(show u=Jd y from rx);exact En PySem.W.kitx_bool I.kIn Ch e (λz=>nomatch z) h
 |int i=>obtain⟨t,q⟩:=(show∃t,u=DB i t from rx);cases q;exact En PySem.W.kitx_int I.kIn Ch e (λz=>nomatch z) h
 |str y=>obtain⟨t,q⟩:=(show∃t,u=C2 y t from rx);cases q;exact En PySem.W.kitx_str I.kIn Ch e (λz=>nomatch z) h
 |flt y=>obtain⟨t,q⟩:=(show∃t,u=ND y t from rx);cases q;exact En PySem.W.kitx_float I.kIn Ch e (λz=>nomatch z) h
 | @lst a xs ea=>cases(show u=AF a from rx);obtain⟨_,_,n,_,h1⟩:=(show CQ X.prog X.w H s.heap a (.lst xs)from I.hok a _ ea);exact En Pg I.kIn ⟨_,h1,rfl⟩ e (λz=>nomatch z) h
 | @frz a ob xs ea=>cases(show u=AF a from rx);obtain⟨_,_,_,n,_,h1⟩:=(show CQ X.prog X.w H s.heap a (.frz ob (.lst xs))from I.hok a _ ea);exact En Pg I.kIn ⟨_,h1,rfl⟩ e (λz=>nomatch z) h
 | @tup a xs ea=>cases(show u=AF a from rx);obtain⟨_,_,_,p⟩:=(show CQ X.prog X.w H s.heap a (.tup xs)from I.hok a _ ea);obtain⟨o,h1,h2,_⟩:=p;exact En Ts I.kIn ⟨o,h1,h2⟩ e (λz=>nomatch z) h
 | @dK a AQ ea=>cases(show u=AF a from rx);obtain⟨_,_,vs,_,p⟩:=(show CQ X.prog X.w H s.heap a (.dK AQ)from I.hok a _ ea);obtain⟨o,es,ep,h1,h2,_⟩:=p;exact En LP I.kIn ⟨o,h1,h2.1⟩ e (λz=>nomatch z) h
 | @dT a AQ ea=>cases(show u=AF a from rx);obtain⟨_,_,xs,_,o,es,ep,h1,h2,_⟩:=(show CQ X.prog X.w H s.heap a (.dT AQ)from I.hok a _ ea);exact En LP I.kIn ⟨o,h1,h2.1⟩ e (λz=>nomatch z) h
 | @ins a C dx fs ea cl ha hn htk hm=>cases(show u=AF a from rx);obtain⟨mA,O,_⟩:=ZQ I.hok ea;obtain⟨od,J,_⟩:=O.look;exact En (PySem.W.kitx_own (cl.get _) cl.hd ha hn htk hm) I.kIn J e (λz=>nomatch z) h
end
structure Dt (k:Nat)(A:Ck):Prop where
 hd:A.handled=none
 dp:A.depth+3*k+5<bJ
 un:A.units+16*k+200<Dk
theorem Dt.mono (r:Dt k A)(h:j<=k):Dt j A:=⟨r.hd,by have:=r.dp;ext,by have:=r.un;ext⟩
theorem Dt.deeper (r:Dt (k+1) A)(env:Env):Dt k (A.deeper env):=
 ⟨r.hd,by have:=r.dp;show A.depth+1+3*k+5<_;ext,by have:=r.un;show A.units+3+16*k+200<_;ext⟩
theorem vp {A:Ck} :(A.under (.builtin "type.__call__" ⟨.ref C::us,kw⟩)).depth=A.depth+1:=by
 first | rfl | simp[Mv,Code.weight,Code.isCreation,Code.isGuard,Code.isCaller,WC,Nj,guardIds]
theorem vq {A:Ck} :(A.under (.builtin "type.__call__" ⟨.ref C::us,kw⟩)).units=A.units+1:=by
 first | rfl | simp[Mv,Code.cUnits,WC,Nj]
theorem Dt.make (r:Dt (k+1) A)(C:Av)(us:List Ah)(kw:List (Str×Ah)):Dt k (A.under (.builtin "type.__call__" ⟨.ref C::us,kw⟩)):=
 ⟨r.hd,by have:=r.dp;rw[vp];ext,by have:=r.un;rw[vq];ext⟩
theorem Dt.depth (r:Dt k A):A.depth<bJ:=by have:=r.dp;ext
theorem Dt.units (r:Dt k A):A.units+64<Dk:=by have:=r.un;ext
def W6:TA:=λ_ H Q=>Q [] H
def Xd (ta:TE)(tr:TA):TA:=λU H Q=>ta U H λx H1=>tr U H1 λxs H2=>Q (x::xs) H2
section
theorem ZC:PA X [] W6:=λ_ _ _ _ H Q I h=>JF ⟨[],H,I,.nil,h⟩
theorem ZJ (ha:PE X e te)(hr:PA X es t)(hs:Ar (e::es) X.env=(false,eval e X.env)::Ar es X.env:=by rfl):PA X (e::es) (Xd te t):=by
 intro pos Ad s U H Q I h;rw[hs];show Aq _ _ (U8 ((false,eval e X.env)::Cc pos (Ar es X.env))) _ _ s;refine Ji (Do (ha Ad s U H _ I h) λu s1 e=>e.el λx H1 I1 r1 q1=>?_);exact Do (hr pos Ad s1 U H1 _ I1 q1) λus s2 e=>e.el λxs H2 I2 r2 q2=>⟨x::xs,H2,I2,.cons r1 r2,q2⟩
def bY (t:TA):TE:=λU H Q=>t U H λxs H1=>xs.length<=Am/\∀p,H1 p=none->Q (.ref p) (CD H1 p (.tup xs))
def cF (t:TA):TE:=λU H Q=>t U H λxs H1=>xs.length<=Am/\∀p,H1 p=none->Q (.ref p) (CD H1 p (.lst xs))
theorem dm {x1}(h:PA X es t):PE X (.Tuple es x1 pos) (bY t):=by
 intro Ad s U H Q I hq;refine wpAny_Tuple_spliced (Do (h pos Ad s U H _ I hq) λus s1 e=>e.el λxs H1 I1 r ⟨z,q⟩=>⟨by rw[<- r.length];exact z,?_⟩);have hf:=I1.hok.fresh (AJ _);refine⟨.ref s1.heap.objs.size,CD H1 s1.heap.objs.size (.tup xs),I1.laid (λb u e=>Af _ e) (AJ _) ?_,rfl,q _ hf⟩;exact⟨z,us,r,Mh.new _ _⟩
theorem oO (h:PA X es t):PE X (.List es pos) (cF t):=by
 intro Ad s U H Q I hq;refine wpAny_List_spliced (Do (h pos Ad s U H _ I hq) λus s1 e=>e.el λxs H1 I1 r ⟨z,q⟩=>⟨by rw[<- r.length];exact z,?_⟩);have hf:=I1.hok.fresh (AJ _);refine⟨.ref s1.heap.objs.size,CD H1 s1.heap.objs.size (.lst xs),I1.laid (λb u e=>Af _ e) (AJ _) ?_,rfl,q _ hf⟩;exact⟨z,us,0,r,Ay _ rfl⟩
end
abbrev Sp:=List V->Hp->VK->XK->Prop
abbrev V0:=List Env->Hp->Ap->XK->Ah->Ap->Prop
structure Og (P:Bs)(w:BG)(K:Ac)(mg:Str->Option Ah)(base:CU)(A:Ck)(outer:List Env)(s:Ap)(H:Hp):Prop where
 frames:A.frames=some outer
 mod:Mod K mg base
 bs:∀b o,base.get? b=some o->s.heap.get? b=some o/\H b=none
 bsz:base.objs.size<=s.heap.objs.size
 funs:s.heap.FunFrames base outer
 frf:∀b∈PF outer,H b=none
 hok:Ix P w H s.heap
 bare:IH s.gens
def CE (outer:List Env)(P:Bs)(w:BG)(H:Hp)(s:Ap)(Q:VK)(u:Ah)(s':Ap):Prop:=
 ∃v H',s'.os=s.os/\IH s'.gens/\Un (PF outer) [] H H' s.heap s'.heap/\Ix P w H' s'.heap/\RelV v u/\Q v H'
def CR (CX:V0)(outer:List Env)(P:Bs)(w:BG)(H:Hp)(s:Ap)(Q:VK)(E:XK)(r:Tz)(s':Ap):Prop:=
 match r with
 |.ok (.ret u)=>CE outer P w H s Q u s'
 |.ok _=>False
 |.error e=>CX outer H s E e s'
structure FnOk (P:Bs)(w:BG)(K:Ac)(mg:Str->Option Ah)(base:CU)(CX:V0)(k:Nat)(f:Av)(fd:Dm)(ps:List Str)(sp:Sp):Prop where
 len:∀vs H Q E,sp vs H Q E->vs.length=ps.length
 run:∀(A:Ck) (outer:List Env) (s:Ap) (H:Hp) (args:Args) (us:List Ah) (vs:List V) (Q:VK) (E:XK),Dt k A->Og P w K mg base A outer s H->Nk s fd args (ps.zip us)->BF vs us->sp vs H Q E ->
  DP (Ax P w) A (.call (.ref f) args) (CR CX outer P w H s Q E) s
theorem Og.make {K:Ac}(e:Og P w K mg base A outer s H)(C:Av)(us:List Ah)(kw:List (Str×Ah)) :
  Og P w K mg base (A.under (.builtin "type.__call__" ⟨.ref C::us,kw⟩)) outer s H:=⟨by first | exact e.frames | (simpa[Mv,Code.envs,Nj,pushEnvs]using e.frames),e.mod,e.bs,e.bsz,e.funs,e.frf,e.hok,e.bare⟩
section
theorem A6.env0 (I:A6 X Ad U H s):Og X.prog X.w X.K X.mg X.base X.A X.stack s H:=
 ⟨I.ok.frames,I.ok.mod,I.bs,AY I.ok.bsz I.sz,I.stack,I.stkFree,I.hok,I.bare⟩
theorem A6.after (I:A6 X Ad U H s)(h:CE X.stack X.prog X.w H s Q u s'):EP X Ad U Q u s':=by
 obtain⟨v,H',os,bare,un,hok,r,q⟩:_:=h;obtain⟨hh,g,d,t,os'⟩:=s';obtain rfl:os'=s.os:=os;exact⟨v,H',I.call un hok bare (λb z=>absurd z (by simp)),r,q⟩
end
def SV (sp:Sp)(dvs:List V)(E:XK)(t:TA):TE:=λU H Q=>t U H λvs H1=>sp (vs++dvs) H1 Q E
def P9 (C:Av)(m:Str)(sp:Sp)(dvs:List V)(E:XK)(ta:TE)(t:TA):TE:=λU H Q=>ta U H λx H1=>∃a dx fs,x=.ref a/\H1 a=some (.ins C dx fs)/\fs.lookup m=none /\
 t U H1 λvs H2=>sp (x::(vs++dvs)) H2 Q E
def W8 (C:Av)(sp:Sp)(dvs:List V)(E:XK)(t:TA):TE:=λU H Q=>t U H λvs H1=>∀x dx,H1 x=none->H1 dx=none->dx≠x ->
 sp (.ref x::(vs++dvs)) (CD (CD H1 dx (.own x)) x (.ins C dx [])) (λv H2=>v=.non/\Q (.ref x) H2) E
def HI (K:Ac)(fd:Dm)(ps:List Str)(ds:List Ah):Prop:=
 ∀s us,K.In s.heap->(us++ds).length=ps.length->Nk s fd ⟨us,[]⟩ (ps.zip (us++ds))
theorem HI.all {K:Ac}(h:∀us,us.length=ps.length->DA fd ⟨us,[]⟩=pure (ps.zip us)):HI K fd ps []:=λs us _ hl=>by
 rw[C1]at hl ⊢;exact .of_eq (h us hl)
def IS (CX:V0)(X:Cx)(E:XK):Prop:=∀(Ad:List (Av×Obj)) (U:St) (H:Hp) (s:Ap) (e:Ah) (s':Ap),A6 X Ad U H s->CX X.stack H s E e s'->X.xe e s'
section
theorem gP (F:FnOk X.prog X.w X.K X.mg X.base CX k f fd ps sp)(hr:Dt k X.A)(hb:HI X.K fd ps ds)(hd:BF dvs ds)(hx:IS CX X E)
  (I:A6 X Ad U H s) (r:BF vs us) (h:sp (vs++dvs) H Q E):Aq (Ax X.prog X.w) X.A (IE (.ref f) us) (EP X Ad U Q) X.xe s:=by
 have r2:=r.append hd;have hl:(us++ds).length=ps.length:=by rw[<- r2.length];exact F.len _ _ _ _ h
 refine Kz (Gv (F.run X.A X.stack s H ⟨us,[]⟩ (us++ds) (vs++dvs) Q E hr I.env0 (hb s us I.kIn hl) r2 h) λr s' hq=>?_);cases r with
 |error e=>exact hx Ad U H s e s' I hq
 |ok fl=>
  cases fl with
  |ret u=>exact I.after hq
  |next=>exact C6 hq
  |brk=>exact C6 hq
  |cont=>exact C6 hq
theorem jr (F:FnOk X.prog X.w X.K X.mg X.base CX k f fd ps sp)(hr:Dt k X.A)(hg:Gl X x)(hm:X.mg x=some (.ref f))(hk:FG X.K (.ref f)=true)(hb:HI X.K fd ps ds)(hd:BF dvs ds)(hx:IS CX X E)
  (ha:PA X (e::es) t) (hdb:(x == ("__debug__":Str))=false:=by decide) (he:Ar (e::es) X.env=(false,eval e X.env)::Ar es X.env:=by rfl) (hpl:(Cc pos (Ar es X.env)).any (·.1)=false:=by rfl) :
  PE X (.Call (.Name x p) (e::es) [] pos) (SV sp dvs E t):=by
 intro Ad s U H Q I h;refine Co (hW I hg hm ?_ hdb);refine NA I.ok.mod.kin hk (Do (ha pos Ad s U H _ I h) λus s1 e=>e.el λvs H1 I1 r q=>⟨I1.kIn,?_⟩) he hpl;exact gP F hr hb hd hx I1 r q
theorem k9 (he:PE X o ta)(c:Oi X.K C)(hm:Sj X.K C m f)(F:FnOk X.prog X.w X.K X.mg X.base CX k f fd ps sp)(hr:Dt k X.A)(hb:HI X.K fd ps ds)(hd:BF dvs ds)(hx:IS CX X E)(ha:PA X (e::es) t)
  (hst:Ar (e::es) X.env=(false,eval e X.env)::Ar es X.env:=by rfl) (hpl:(Cc pos (Ar es X.env)).any (·.1)=false:=by rfl)
  (ht:eval (.Call (.Attribute o m apos) (e::es) [] pos) X.env=(do
   let ov <- eval o X.env
   Nb apos.atName
   let (f,first) <- Gu [ov] (JR ov m pl)
   Rn pos f first (Cc pos (Ar (e::es) X.env)) (Fk pos (Dy [] X.env))):=by rfl) :
  PE X (.Call (.Attribute o m apos) (e::es) [] pos) (P9 C m sp dvs E ta t):=by
 intro Ad s U H Q I h;refine Mq (Do (he Ad s U H _ I h) λu s1 e=>e.el λx H1 I1 rx ⟨a,dx,fs,ex,ea,l,q⟩=>?_) ht;subst ex;obtain rfl:u=AF a:=rx;refine uL I1 ea c hm l ?_;refine NA I.ok.mod.kin hm.kp (Do (ha pos Ad s1 U H1 _ I1 q) λus s2 e=>e.el λvs H2 I2 r q2=>⟨I2.kIn,?_⟩) hst hpl;exact gP (vs:=.ref a::vs) F hr hb hd hx I2 (.cons rfl r) q2
theorem qr (he:PE X o ta)(c:Oi X.K C)(hm:Sj X.K C m f)(F:FnOk X.prog X.w X.K X.mg X.base CX k f fd ps sp)(hr:Dt k X.A)(hb:HI X.K fd ps ds)(hd:BF dvs ds)(hx:IS CX X E)
  (ht:eval (.Call (.Attribute o m apos) [] [] pos) X.env=(do
   let ov <- eval o X.env
   Nb apos.atName
   let (f,first) <- Gu [ov] (JR ov m pl)
   Rn pos f first (Cc pos (Ar [] X.env)) (Fk pos (Dy [] X.env))):=by rfl) :
  PE X (.Call (.Attribute o m apos) [] [] pos) (P9 C m sp dvs E ta W6):=by
 intro Ad s U H Q I h;refine Mq (Do (he Ad s U H _ I h) λu s1 e=>e.el λx H1 I1 rx ⟨a,dx,fs,ex,ea,l,q⟩=>?_) ht;subst ex;obtain rfl:u=AF a:=rx;refine uL I1 ea c hm l ?_;exact PySem.W.callWith_K0 I1.kIn hm.kp (gP (vs:=[.ref a]) F hr hb hd hx I1 (.cons rfl .nil) q)
structure Mk (K:Ac)(C f:Av):Prop where
 makes:Pp K C=true
 init:CI K (.ref C) "__init__" = some (some (.ref f))
 fn:LR K (.ref f)=true
 kp:FG K (.ref C)=true
theorem sh (M:Mk X.K C f)(F:FnOk X.prog X.w X.K X.mg X.base CX k f fd ps sp)(hr:Dt (k+1) X.A)(hb:HI X.K fd ps ds)(hd:BF dvs ds)
  (hx:IS CX X E) (I:A6 X Ad U H s) (r:BF vs us)
  (h:∀x dx,H x=none->H dx=none->dx≠x->sp (.ref x::(vs++dvs)) (CD (CD H dx (.own x)) x (.ins C dx [])) (λv H2=>v=.non/\Q (.ref x) H2) E) :
  Aq (Ax X.prog X.w) X.A (IE (.ref C) us) (EP X Ad U Q) X.xe s:=by
 have hq:=h (s.heap.objs.size+1) s.heap.objs.size (I.hok.fresh (Lj _)) (I.hok.fresh (AJ _)) (A5 (Hc _));have I2:=A6.made (C:=C) I;have r2:BF (V.ref (s.heap.objs.size+1)::(vs++dvs)) (AF (s.heap.objs.size+1)::(us++ds)):=.cons rfl (r.append hd)
 have hl:(AF (s.heap.objs.size+1)::us++ds).length=ps.length:=by
  have e:=r2.length;rw[F.len _ _ _ _ hq]at e;exact e.symm
 refine Kz (p7 (f:=f) I.kIn M.makes M.init (beq_iff_eq.mp M.fn) (Gv (F.run _ X.stack _ _ ⟨AF (s.heap.objs.size+1)::us,[]⟩ (AF (s.heap.objs.size+1)::(us++ds)) _ _ E (hr.make C us [])
  (I2.env0.make C us []) (hb _ (AF (s.heap.objs.size+1)::us) I2.kIn hl) r2 hq) λr s' hq'=>?_))
 cases r with
 |error e=>exact hx Ad U _ _ e s' I2 hq'
 |ok fl=>
  cases fl with
  |ret u=>obtain⟨v,H',I3,rv,ev,q3⟩:=I2.after hq';subst ev;exact⟨rv,⟨V.ref (s.heap.objs.size+1),H',I3,rfl,q3⟩⟩
  |next=>exact C6 hq'
  |brk=>exact C6 hq'
  |cont=>exact C6 hq'
theorem k8 (M:Mk X.K C f)(F:FnOk X.prog X.w X.K X.mg X.base CX k f fd ps sp)(hr:Dt (k+1) X.A)(hg:Gl X x)(hm:X.mg x=some (.ref C))(hb:HI X.K fd ps ds)(hd:BF dvs ds)(hx:IS CX X E)
  (ha:PA X (e::es) t) (hdb:(x == ("__debug__":Str))=false:=by decide) (he:Ar (e::es) X.env=(false,eval e X.env)::Ar es X.env:=by rfl) (hpl:(Cc pos (Ar es X.env)).any (·.1)=false:=by rfl) :
  PE X (.Call (.Name x p) (e::es) [] pos) (W8 C sp dvs E t):=by
 intro Ad s U H Q I h;refine Co (hW I hg hm ?_ hdb);refine NA I.ok.mod.kin M.kp (Do (ha pos Ad s U H _ I h) λus s1 e=>e.el λvs H1 I1 r q=>⟨I1.kIn,?_⟩) he hpl;exact sh M F hr hb hd hx I1 r q
end
section
end
structure EM (N P:List Str)(sc:Lo):Prop where
 kind:sc.kind=.function
 co:sc.isCoroutine=false
 gen:sc.isGenerator=false
 nd:N.Nodup
 pre:N.take P.length=P
 par:∀x∈P,sc.names.lookup x=some .local\/sc.names.lookup x=some .cell
 nofree:∀y∈sc.names,y.2≠.free
theorem sF {kindOf:Str->Option Fm} :∀{binds:List (Str×Ah)}{m:Str->Option Ah},(∀v,(x,v)∉binds)->Pk kindOf binds m x=m x
 |[],_,_=>rfl
 |(n,v)::r,m,h=>by
  unfold Pk;rw[sF λw hw=>h w (Aw _ hw)];split
  .have:x≠n:=by rintro rfl;exact h v AA
   simp[this]
  .rfl
theorem sD {kindOf:Str->Option Fm} :∀{binds:List (Str×Ah)}{m:Str->Option Ah},(∀v,(x,v)∉binds)->Pm kindOf binds m x=m x
 |[],_,_=>rfl
 |(n,v)::r,m,h=>by
  unfold Pm;rw[sD λw hw=>h w (Aw _ hw)];split
  .rfl
  .have:x≠n:=by rintro rfl;exact h v AA
   simp[this]
theorem sE {kindOf:Str->Option Fm}{x:Str} :∀{P:List Str}{vs:List Ah}{i:Nat}{m:Str->Option Ah},P.Nodup->P[i]? = some x->vs[i]? = some v->kindOf x=some .local ->
  Pk kindOf (P.zip vs) m x=some v
 |[],_,_,_,_,h,_,_=>by simp at h
 |_::_,[],_,_,_,_,h,_=>by simp at h
 |p::P,w::vs,0,m,nd,h1,h2,hk=>by
  simp at h1 h2;subst h1;subst h2;show Pk kindOf ((p,w)::P.zip vs) m p=_;unfold Pk;rw[sF λv hv=>(Fx.mp nd).1 (Nw hv).1,if_pos hk];simp
 |p::P,w::vs,i+1,m,nd,h1,h2,hk=>by
  show Pk kindOf ((p,w)::P.zip vs) m x=_;unfold Pk;exact sE (Fx.mp nd).2 (by simpa using h1) (by simpa using h2) hk
theorem sC {kindOf:Str->Option Fm}{x:Str} :∀{P:List Str}{vs:List Ah}{i:Nat}{m:Str->Option Ah},P.Nodup->P[i]? = some x->vs[i]? = some v->kindOf x≠some .local ->
  Pm kindOf (P.zip vs) m x=some v
 |[],_,_,_,_,h,_,_=>by simp at h
 |_::_,[],_,_,_,_,h,_=>by simp at h
 |p::P,w::vs,0,m,nd,h1,h2,hk=>by
  simp at h1 h2;subst h1;subst h2;show Pm kindOf ((p,w)::P.zip vs) m p=_;unfold Pm;rw[sD λv hv=>(Fx.mp nd).1 (Nw hv).1,if_neg hk];simp
 |p::P,w::vs,i+1,m,nd,h1,h2,hk=>by
  show Pm kindOf ((p,w)::P.zip vs) m x=_;unfold Pm;exact sC (Fx.mp nd).2 (by simpa using h1) (by simpa using h2) hk
noncomputable def start (N:List Str)(vs:List V):St:=vs.map some++AE (N.length-vs.length) none
noncomputable def Kn (CX:V0)(P:Bs)(w:BG)(K:Ac)(mg:Str->Option Ah)(base:CU)(N:List Str)(qual:Str)(scope:Lo)(f:Av)(cd:Ah)(A:Ck)(outer:List Env)(s:Ap)(H:Hp)(E:XK):Cx where
 prog:=P
 w:=w
 K:=K
 mg:=mg
 base:=base
 A:=A.deeper (FE qual scope s.heap.objs.size f cd)
 N:=N
 s₀:=s
 H₀:=H
 env:=FE qual scope s.heap.objs.size f cd
 outer:=outer
 stack:=FE qual scope s.heap.objs.size f cd::outer
 ex:=[]
 calm:=true
 fn:=λ_=>true
 pn:=[]
 xe:=λe s'=>Aq (Ax P w) (A.deeper (FE qual scope s.heap.objs.size f cd)) (leaving (FE qual scope s.heap.objs.size f cd) e) (λ_ s''=>CX outer H s E e s'') (λe' s''=>CX outer H s E e' s'') s'
theorem rN {sc:Lo}(h:sc.names.lookup x=some .cell):∃c,(Wa n sc.names []).lookup x=some c:=by
 have q:=LS sc.names n [] (.inl h);exact LC.mp q
theorem um {K:Ac}
  (S:EM N ps scope) (hd:A.handled=none) (e0:Og P w K mg base A outer s H) (hl:vs.length=ps.length) (r:BF vs us)
  (x:InCallC s s.heap.objs.size (Pk (FE qual scope s.heap.objs.size f cd).kindOf (ps.zip us) λ_=>none) (Wa (s.heap.objs.size+1) scope.names []) (Pm (FE qual scope s.heap.objs.size f cd).kindOf (ps.zip us) λ_=>none) s1) :
  A6 (Kn CX P w K mg base N qual scope f cd A outer s H E) [] (start N vs) H s1:=by
 have hpl:ps.length<=N.length:=by have:=congrArg Eg S.pre;rw[AW]at this;ext
 obtain⟨h1,tk,rfl,hk⟩:=x.done;have noA:∀b,b∉(Kn CX P w K mg base N qual scope f cd A outer s H E).ex:=λb z=>absurd (show b∈([]:List Av)from z) (by simp)
 refine ⟨⟨e0.mod,S.kind,rfl,rfl,AJ _,λy z c h1 h2=>?_,λy hy=>?_,λy c _ h=>?_,λ_=>hd,Around.frames_deeper e0.frames,.inr ⟨rfl,rfl⟩,λb z=>absurd z (noA b),e0.bs,e0.bsz,λb _ _=>noA b,λb z=>absurd z (noA b),e0.funs,e0.frf⟩,
  rfl,e0.bare,Un.kept hk,⟨_,x.toInCall.ns,λi y v h1 h2 h3=>?_⟩,λy c h=>⟨_,x.cell y c h⟩,e0.hok.fresh (AJ _),λy c h=>?_,λp hp=>absurd (show p∈([]:List (Av×Obj)) from hp) (by simp),e0.hok.kept hk,?_,λ_ h=>nomatch h⟩
 .exact name_of_addr x.apart (Ep h1) (Ep h2)
 .have hy:=hy;rcases hy with hy|hy
  .exact rN hy
  .exact absurd rfl (S.nofree _ (Ep hy))
 .exact FW (x.above y c (Ep h))
 .have hi:i<vs.length:=by
   unfold start at h2;by_cases hi:i<vs.length
   .exact hi
   .rw[C7 (by simpa using hi)]at h2;rw[List.getElem?_replicate]at h2;split at h2<;>cases h2
  have ha:vs[i]? = some v:=by
   unfold start at h2;rw[Es (by simpa using hi),AL]at h2;cases e:vs[i]? with
   |none=>rw[e]at h2;cases h2
   |some a=>rw[e]at h2;cases h2;rfl
  obtain⟨u,hu,rv⟩:=r.get ha
  have hp:ps[i]? = some y:=by
   rw[<- S.pre,List.getElem?_take_of_lt (by ext)];exact h1
  have ndP:ps.Nodup:=by rw[<- S.pre];exact S.nd.sublist (List.take_sublist _ _)
  refine⟨u,rv,?_⟩;rcases S.par y (AG hp)with k|k
  .exact .inl ⟨k,sE ndP hp hu k⟩
  .obtain⟨c,e⟩:=rN k;refine .inr ⟨.inl k,c,e,?_⟩;have q:=x.cell y c e;rw[sC ndP hp hu (by show scope.names.lookup y≠_;rw[k];decide)]at q;exact q
 .exact e0.hok.fresh (FW (x.above y c (Ep h)))
 .unfold start;show _=N.length;rw[Ao,Ae,Ca];ext
theorem xQ {K:Ac}{dV kV doc pm cdv ct oc:Ah}
  (lk:K.lookup f=some ⟨oc,od,.func (Ft name qual params body scope dV kV doc pm an cdv ct),osl⟩) (hcd:KI K cdv qual=true) (S:EM N ps scope)
  (len:∀vs H Q E,sp vs H Q E->vs.length=ps.length)
  (hbody:∀ A outer s H vs Q E,Dt k (A.deeper (FE qual scope s.heap.objs.size f cdv))->sp vs H Q E ->
   ∃ t,Lz (Kn CX P w K mg base N qual scope f cdv A outer s H E) body t/\t { nx:=λ_ H'=>Q .non H',rt:=Q } (start N vs) H) :
  FnOk P w K mg base CX (k+1) f (Ft name qual params body scope dV kV doc pm an cdv ct) ps sp:=by
 refine⟨len,λA outer s H args us vs Q E hr e0 hb r hsp=>?_⟩;have hl:=len _ _ _ _ hsp;have KX:=e0.mod.kin.keeps λb o e=>(e0.bs b o e).1;have lim:=e0.mod.nolimit.keeps λb o e=>(e0.bs b o e).1
 have hkind:∀y∈ps.zip us,scope.names.lookup y.1=some .local\/(scope.names.lookup y.1=some .cell/\((Wa (s.heap.objs.size+1) scope.names []).lookup y.1).isSome=true):=λ⟨n,v⟩ hy=>by
  rcases S.par n (Nw hy).1 with q|q
  .exact .inl q
  .exact .inr ⟨q,LS _ _ _ (.inl q)⟩
 refine codeAny_call_function hr.depth (KX _ _ lk) rfl S.co S.gen rfl (PySem.W.codeRec_of KX hcd) (hb _ _ _ _ ?_);refine wpAny_newFunctionEnv_cells S.kind hkind λenv he s1 x=>?_;subst he;refine⟨lim.keeps x.toInCall.keep,codeAny_func ?_⟩;obtain⟨t,ht,hq⟩:=hbody A outer s H vs Q E (hr.deeper _) hsp;have I:A6 (Kn CX P w K mg base N qual scope f cdv A outer s H E) [] (start N vs) H s1:=um S hr.hd e0 hl r x;refine BI (ht [] s1 (start N vs) H _ I hq) (λfl s' hs=>?_) λe s' hs=>hs
 have fin:∀{U':St} {H':Hp} {v:V} {u:Ah},A6 (Kn CX P w K mg base N qual scope f cdv A outer s H E) [] U' H' s'->RelV v u->Q v H'->CE outer P w H s Q u s':=
  λ{U' H' v u} J rv q=>⟨v,H',J.os,J.bare,J.base,J.hok,rv,q⟩
 cases fl with
 |ret u=>obtain⟨v,U',H',J,rv,q⟩:=hs;exact fin J rv q
 |next=>obtain⟨U',H',J,q⟩:=hs;exact fin (v:=V.non) (u:=FZ) J rfl q
 |brk=>obtain⟨_,_,_,q⟩:=hs;exact C6 q
 |cont=>obtain⟨_,_,_,q⟩:=hs;exact C6 q
section
variable       {id:String}
def cJ (r:List V->Hp->VK->Prop)(t:TA):TE:=λU H Q=>t U H λvs H1=>r vs H1 Q
theorem qb (hc:EX X (.builtin id) r)(hg:Gl X x)(hm:X.mg x=none)(hv:Dc x=some (.builtin id))(ha:PA X (e::es) t)(hn:x≠"__name__":=by decide)(hdb:(x == ("__debug__":Str))=false:=by decide)
  (he:Ar (e::es) X.env=(false,eval e X.env)::Ar es X.env:=by rfl) (hpl:(Cc pos (Ar es X.env)).any (·.1)=false:=by rfl):PE X (.Call (.Name x p) (e::es) [] pos) (cJ r t):=by
 intro Ad s U H Q I h;refine Co (Qz I hg hm hv ?_ hn hdb);exact EJ (Do (ha pos Ad s U H _ I h) λus s1 e=>e.el λvs H1 I1 r1 q1=>hc Ad s1 U H1 vs us Q I1 r1 q1) he hpl
theorem uc (hc:EX X (.type T) r)(hg:Gl X x)(hm:X.mg x=none)(hv:Dc x=some (.type T))(ha:PA X (e::es) t)(hn:x≠"__name__":=by decide)(hdb:(x == ("__debug__":Str))=false:=by decide)
  (he:Ar (e::es) X.env=(false,eval e X.env)::Ar es X.env:=by rfl) (hpl:(Cc pos (Ar es X.env)).any (·.1)=false:=by rfl):PE X (.Call (.Name x p) (e::es) [] pos) (cJ r t):=by
 intro Ad s U H Q I h;refine Co (Qz I hg hm hv ?_ hn hdb);exact BO (Do (ha pos Ad s U H _ I h) λus s1 e=>e.el λvs H1 I1 r1 q1=>hc Ad s1 U H1 vs us Q I1 r1 q1) he hpl
end
end L2
namespace HT
open PySem PyProof.Rows
section
open PySem.SeqAt
open PySem.MeetsSeq PySem.MeetsSeq2 PySem.MeetsSeq3
end
section
noncomputable def sIx (n d:Nat):Option Int->Nat
 |none=>d
 |some v=>if v<0 then(v+(n:Int)).toNat else min v.toNat n
theorem sIx_none (n d:Nat):sIx n d none=d:=rfl
theorem sIx_nat (n d k:Nat):sIx n d (some (k:Int))=min k n:=by
 show(if (k:Int)<0 then((k:Int)+(n:Int)).toNat else min (k:Int).toNat n)=min k n;rw[if_neg (by ext),BN]
theorem gi (n d:Nat)(hd:d<=n)(o:Option Int):sIx n d o<=n:=by
 cases o with
 |none=>exact hd
 |some v=>
  show(if v<0 then(v+(n:Int)).toNat else min v.toNat n)<=n;by_cases hv:v<0
  .rw[if_pos hv];ext
  .rw[if_neg hv];exact Nat.min_le_right _ _
theorem pK (v:Int)(n d:Nat):(if v<0 then max (v+(n:Int)) 0 else min v (n:Int))=((sIx n d (some v):Nat):Int):=by
 show(if v<0 then max (v+(n:Int)) 0 else min v (n:Int))=(((if v<0 then(v+(n:Int)).toNat else min v.toNat n):Nat):Int);by_cases hv:v<0
 .simp only[if_pos hv];ext
 .simp only[if_neg hv];ext
theorem wz (lo hi:Option Int)(n:Nat):Fo lo hi 1 (n:Int)=(((sIx n 0 lo:Nat):Int),((sIx n n hi:Nat):Int)):=by
 have h1:¬((1:Int)<0):=by ext
 unfold Fo;simp only[h1,if_false];refine Su ?_ ?_
 .cases lo with
  |none=>rfl
  |some v=>exact pK v n 0
 .cases hi with
  |none=>rfl
  |some v=>exact pK v n n
theorem wj (i j:Nat):D3 (i:Int) (j:Int) 1=j-i:=by
 unfold D3;have h1:(1:Int) > 0:=by ext
 simp only[h1,if_true,WB];split<;>ext
theorem tZ (p:LV v o)(h:Q o s):Aq (Ax prog w) A (WE v) Q E s:=by
 cases p with
 |none=>exact bG h
 |int i t=>exact slicePart_int h
theorem Zd4 {lo hi:Option Int}{n:Nat}(hs:s.heap.IsSliceOf sl vl vu .none)(pl:LV vl lo)(pu:LV vu hi)
  (h:Q (((sIx n 0 lo:Nat):Int),1,sIx n n hi-sIx n 0 lo) s):Aq (Ax prog w) A (Jj (.ref sl) (pure (n:Int))) Q E s:=by
 obtain⟨os,hos,hcs,hds⟩:=id hs;unfold Jj WF;refine Aa (Aa (Rl hos hds rfl (Aa (Rl hos hds rfl (Aa (Rl hos hds rfl (Ab ?_)))))));refine Aa (bG ?_);show Aq _ _ (if ((1:Int) == 0)=true then _ else _) _ _ s;rw[if_neg (by decide)];refine Aa (tZ pl (Aa (tZ pu (Aa (Ab ?_)))));show Aq _ _ (match Fo lo hi 1 (n:Int)with | (lo,hi)=>pure (lo,(1:Int),D3 lo hi 1)) _ _ s;rw[wz lo hi n];show Aq _ _ (pure (((sIx n 0 lo:Nat):Int),(1:Int),D3 ((sIx n 0 lo:Nat):Int) ((sIx n n hi:Nat):Int) 1)) _ _ s;rw[wj];exact Ab h
theorem qu (xs:Array Ah)(i k:Nat):((Bl k).filterMap λ(m:Nat)=>xs[((i:Int)+(m:Int)*1).toNat]?).toArray=((xs.toList.drop i).take k).toArray:=by
 have e:(λ(m:Nat)=>xs[((i:Int)+(m:Int)*1).toNat]?)=λm=>xs[i+m]?:=by
  funext m;have:((i:Int)+(m:Int)*1).toNat=i+m:=by ext
  rw[this]
 rw[e];have:=pick_run xs i k;rw[Ju]at this;have e2:((λx=>xs[x]?) ∘ λx=>i+x)=λm=>xs[i+m]?:=rfl;rw[e2]at this;rw[this]
theorem getItem_tuple_cut {lo hi:Option Int}(ht:IsTup s.heap t items)(hs:s.heap.IsSliceOf sl vl vu .none)(pl:LV vl lo)(pu:LV vu hi)
  (hw:¬(sIx items.size 0 lo=0/\sIx items.size items.size hi=items.size))
  (h:Q (.ref s.heap.objs.size) {s with heap:=s.heap.push {cls:=.type "tuple",data:=.seq ((items.toList.drop (sIx items.size 0 lo)).take (sIx items.size items.size hi-sIx items.size 0 lo)).toArray} })
  (hsz:items.size<=Am):Aq (Ax prog w) A (JS (.ref t) (.ref sl)) Q E s:=by
 have htake:sizeOk (.seq ((items.toList.drop (sIx items.size 0 lo)).take (sIx items.size items.size hi-sIx items.size 0 lo)).toArray):=by
  show((items.toList.drop (sIx items.size 0 lo)).take (sIx items.size items.size hi-sIx items.size 0 lo)).toArray.size<=Am;rw[A4,AW,FV,A8];ext
 have hj:sIx items.size items.size hi<=items.size:=gi _ _ (AJ _) hi;obtain⟨os,hos,hcs,hds⟩:=id hs;have hTs:s.TypeIs (.ref sl) "slice":=⟨os,hos,hcs⟩;unfold JS;try with_reducible refine Bh ?_
 first | refine Aa (Ab ?_) | skip
 refine Aa (wpAny_sequenceKey ht.typeIs (by decide) ?_)
 refine Aa (HU ht.typeIs EB
  (B9 EB ht.typeIs entry_tuple_getitem ?_ (args_tuple_getitem _ _)))
 show Aq _ _ (WD (.ref t) >>= _) _ _ s;refine Aa (tupleItemsOf_ ht ?_);refine Aa (Fd hTs ?_);rw[if_pos (by decide)];refine Aa (Zd4 hs pl pu ?_)
 have hno:¬((((sIx items.size 0 lo:Nat):Int) == 0 && (1:Int) == 1 && (sIx items.size items.size hi-sIx items.size 0 lo) == items.size)=true):=by
  intro q;rw[BQ,BQ]at q;have q1:=eq_of_beq q.1.1;have q2:=eq_of_beq q.2;exact hw ⟨by ext,by ext⟩
 show Aq _ _ (if (((sIx items.size 0 lo:Nat):Int) == 0 && (1:Int) == 1 && (sIx items.size items.size hi-sIx items.size 0 lo) == items.size)=true then _ else _) _ _ s;rw[if_neg hno,qu]
 first
  |exact Aa (BM (Ab ⟨_,rfl,Ab h⟩) htake)
  |exact Aa (BM (Aa (Ab (Ab ⟨_,rfl,Ab h⟩))) htake)
  |exact Aa (Aa (BM (Ab (Ab ⟨_,rfl,Ab h⟩)) htake))
  |exact Aa (Aa (BM (Ab ⟨_,rfl,Ab h⟩) htake))
end
end HT
namespace L2
open PySem PySem.Spec PyProof.Rows
abbrev TO:=St->Hp->(Option Int->Hp->Prop)->Prop
def PO (X:Cx)(e:Option Cb)(t:TO):Prop:=
 ∀(Ad:List (Av×Obj)) (s:Ap) (U:St) (H:Hp) (Q:Option Int->Hp->Prop),A6 X Ad U H s->t U H Q ->
  Aq (Ax X.prog X.w) X.A (evalPart e X.env) (λu s'=>∃o H',A6 X Ad U H' s'/\LV u o/\Q o H') X.xe s
def RE:TO:=λ_ H Q=>Q none H
def W4 (t:TE):TO:=λU H Q=>t U H λx H1=>∃i,x=.int i/\Q (some i) H1
section
variable    {lo:Option Cb}
theorem lm:PO X none RE:=by
 intro Ad s U H Q I h;rw[evalPart_none];exact Ab ⟨none,H,I,.none,h⟩
theorem lq (h:PE X e te):PO X (some e) (W4 te):=by
 intro Ad s U H Q I hw;rw[evalPart_some];refine Do (h Ad s U H _ I hw) λu s1 e=>e.el λx H1 I1 r1 q1=>?_;obtain⟨i,rfl,q⟩:=q1;obtain⟨t,rfl⟩:=r1;exact⟨some i,H1,I1,.int i t,q⟩
def Sf (X:Cx)(r:V->Option Int->Option Int->Hp->VK->Prop):Prop:=
 ∀(Ad:List (Av×Obj)) (s:Ap) (U:St) (H:Hp) (x:V) (v vl vu:Ah) (lo hi:Option Int) (sl:Av) (Q:VK),A6 X Ad U H s->RelV x v->s.heap.IsSliceOf sl vl vu .none->LV vl lo->LV vu hi->r x lo hi H Q ->
  ∃T id,Nv (.type T) "__getitem__" = pure (some (.builtin id))/\s.TypeIs v T/\Aq (Ax X.prog X.w) X.A (JS v (.ref sl)) (EP X Ad U Q) X.xe s
def wS (r:V->Option Int->Option Int->Hp->VK->Prop)(te:TE)(tl th:TO):TE:=λU H Q=>te U H λx H1=>tl U H1 λl H2=>th U H2 λu H3=>r x l u H3 Q
theorem qt (hr:Sf X r)(he:PE X e te)(hl:PO X lo tl)(hu:PO X hi th):PE X (.Subscript e (.Slice lo hi none p2) pos) (wS r te tl th):=by
 intro Ad s U H Q I h;refine Tw (Do (he Ad s U H _ I h) λv s1 ⟨x,H1,I1,r1,q1⟩=>?_);refine wpAny_Slice (Do (hl Ad s1 U H1 _ I1 q1) λvl s2 ⟨l,H2,I2,pl,q2⟩=>Do (hu Ad s2 U H2 _ I2 q2) λvu s3 ⟨u,H3,I3,pu,q3⟩=>?_);rw[evalPart_none];refine Ab ?_;have I4:A6 X Ad U H3 {s3 with heap:=s3.heap.push {cls:=.type "slice",data:=.fields #[vl,vu,.none]} }:=I3.kept λb ob q=>Af _ q;obtain⟨T,id,hT,ht,hg⟩:=hr Ad {s3 with heap:=s3.heap.push {cls:=.type "slice",data:=.fields #[vl,vu,.none]} } U H3 x v vl vu l u s3.heap.objs.size Q I4 r1 (Vm ..) pl pu q3;show Aq (Ax X.prog X.w) X.A (ON e (.Slice lo hi none p2) v (.ref s3.heap.objs.size)) (EP X Ad U Q) X.xe {s3 with heap:=s3.heap.push {cls:=.type "slice",data:=.fields #[vl,vu,.none]} };exact bE ht hT hg (by with_unfolding_all rfl)
noncomputable def O7 (xs:List V)(lo hi:Option Int):List V:=(xs.drop (HT.sIx xs.length 0 lo)).take (HT.sIx xs.length xs.length hi-HT.sIx xs.length 0 lo)
theorem uO (xs:List V)(lo hi:Option Int):(O7 xs lo hi).length<=xs.length:=by
 unfold O7;rw[AW,FV];ext
def eF (K:Ac):V->Option Int->Option Int->Hp->VK->Prop:=λx lo hi H Q=>∃a xs,x=.ref a/\LK K H a xs /\
 ¬(HT.sIx xs.length 0 lo=0/\HT.sIx xs.length xs.length hi=xs.length)/\∀p,H p=none->Q (.ref p) (CD H p (.tup (O7 xs lo hi)))
theorem iq:Sf X (eF X.K):=by
 intro Ad s U H x v vl vu lo hi sl Q I rx hs pl pu h;obtain⟨a,xs,rfl,hx,hw,q⟩:=h;cases rx;obtain⟨Bj,r,ht,hz⟩:=I.tuple hx;have hlen:Bj.toArray.size=xs.length:=by rw[A4];exact r.length.symm
 refine⟨"tuple",_,EB.lookup,ht.typeIs,?_⟩;refine HT.getItem_tuple_cut ht hs pl pu (by rw[hlen];exact hw) ?_ (by rw[hlen];exact hz);rw[hlen];refine⟨.ref s.heap.objs.size,_,I.laid (λb ob q=>Af _ q) (AJ _) ?_,rfl,q _ (I.hok.fresh (AJ _))⟩;exact⟨AY (uO xs lo hi) hz,_,(r.drop (HT.sIx xs.length 0 lo)).take (HT.sIx xs.length xs.length hi-HT.sIx xs.length 0 lo),Mh.new _ _⟩
end
noncomputable def RV (n:Nat)(i:Int):Option Nat:=if 0<=i then(if i<n then some i.toNat else none)else if -(n:Int)<=i then some (i+n).toNat else none
noncomputable def GY {α:Type}(xs:List α)(i:Int):Option α:=(RV xs.length i).bind λj=>xs[j]?
theorem km (h:RV n i=some j):seqIndex? i n=some j/\j<n/\-(n:Int)<=i/\i<n:=by
 unfold RV at h;by_cases h0:0<=i
 .rw[if_pos h0]at h;by_cases h1:i<n
  .rw[if_pos h1]at h;have e:=Ba h;exact⟨by rw[seqIndex_of h0 h1,e],by ext,by ext,h1⟩
  .rw[if_neg h1]at h;cases h
 .rw[if_neg h0]at h;by_cases h1:-(n:Int)<=i
  .rw[if_pos h1]at h;have e:=Ba h;exact⟨by rw[seqIndex_neg (by ext) h1,e],by ext,h1,by ext⟩
  .rw[if_neg h1]at h;cases h
theorem gX (h:GY xs i=some v):∃j,seqIndex? i xs.length=some j/\xs[j]? = some v/\j<xs.length/\-(xs.length:Int)<=i/\i<xs.length:=by
 unfold GY at h;cases e:RV xs.length i with
 |none=>rw[e]at h;cases h
 |some j=>rw[e]at h;obtain⟨h1,h2,h3,h4⟩:=km e;exact⟨j,h1,h,h2,h3,h4⟩
theorem Oc {α:Type}{xs:List α}{j:Nat}{v:α}(h:xs[j]? = some v):GY xs (j:Int)=some v:=by
 have hj:=(Au.mp h).1
 have e:RV xs.length (j:Int)=some j:=by
  unfold RV;rw[if_pos (by ext),if_pos (by ext)];simp
 unfold GY;rw[e];exact h
theorem qg (xs:List α)(v:α):GY (xs++[v]) (-1)=some v:=by
 have hl:(xs++[v]).length=xs.length+1:=by simp
 have e:RV (xs++[v]).length (-1)=some xs.length:=by
  unfold RV;rw[hl,if_neg (by decide),if_pos (by ext)];congr 1
  ext
 unfold GY;rw[e];show(xs++[v])[xs.length]? = some v;simp
def OM (b:Cb):Prop:=∀o i,Ml b false o i=operate [o,i] (JS o i)
def Pe (X:Cx)(r:R2):Prop:=
 ∀value slice (Ad:List (Av×Obj)) (s:Ap) (U:St) (H:Hp) (x y:V) (v u:Ah) (Q:VK),A6 X Ad U H s->RelV x v->RelV y u->r x y H Q ->
  Ml slice false v u=operate [v,u] (JS v u)->Aq (Ax X.prog X.w) X.A (ON value slice v u) (EP X Ad U Q) X.xe s
def MY (X:Cx)(id:String)(r:V->List V->Hp->VK->Prop):Prop:=
 ∀(Ad:List (Av×Obj)) (s:Ap) (U:St) (H:Hp) (x:V) (xs:List V) (v:Ah) (us:List Ah) (Q:VK),A6 X Ad U H s->RelV x v->BF xs us->r x xs H Q ->
  Aq (Ax X.prog X.w) X.A (IE (.builtin id) (v::us)) (EP X Ad U Q) X.xe s
section
variable {X:Cx}
theorem yI (hr:Pe X r)(ha:PE X a ta)(hb:PE X b tb)(hs:OM b):PE X (.Subscript a b pos) (W5 r ta tb):=by
 intro Ad s U H Q I h;exact Tw (Ul ha hb I h λv u s2 x y H2 I2 rx ry q=>hr a b Ad s2 U H2 x y v u Q I2 rx ry q (hs _ _))
def eL (K:Ac):R2:=λx y H Q=>∃p xs i v,x=.ref p/\y=.int i/\FS K H p xs/\GY xs i=some v/\Q v H
def eJ (K:Ac):R2:=λx y H Q=>∃p xs i v,x=.ref p/\y=.int i/\LK K H p xs/\GY xs i=some v/\Q v H
def eK:R2:=λx y H Q=>∃z i c,x=.str z/\y=.int i/\z.length<=Am/\GY z.cps.toList i=some c/\Q (.str ⟨#[c]⟩) H
theorem kq:Pe X (eL X.K):=by
 intro value slice Ad s U H x y v u Q I rx ry h hs;obtain⟨p,xs,i,z,e1',e2',hq,he,q⟩:_:=h;cases rx;obtain⟨t,rfl⟩:=ry;obtain⟨Bj,r,pl,hz⟩:=I.list hq;obtain⟨j,h1,h2,h3,h4,h5⟩:=gX he;obtain⟨w,ew,rw'⟩:=r.get h2;have hl:=r.length;have hn:=KS;have fin:EP X Ad U Q w s:=⟨z,H,I,rw',q⟩;by_cases h0:0<=i
 .have hj:i.toNat=j:=by
   rw[seqIndex_of h0 h5]at h1;exact Ba h1
  exact item_listR pl.isList h0 (by ext) (by rw[hj];simpa using ew) fin hs
 .have hj:(i+(Bj.toArray.size:Int)).toNat=j:=by
   rw[seqIndex_neg (by ext) h4]at h1;rw[A4,<- hl];exact Ba h1
  exact PP pl.isList.typeIs U9.lookup
   (wpAny_getItem_list_neg pl.isList (by ext) (by rw[A4]<;>ext) (by ext) (by rw[hj];simpa using ew) ⟨rfl,fin⟩) hs
theorem cw:Pe X (eJ X.K):=by
 intro value slice Ad s U H x y v u Q I rx ry h hs;obtain⟨p,xs,i,z,e1',e2',hq,he,q⟩:_:=h;cases rx;obtain⟨t,rfl⟩:=ry;obtain⟨Bj,r,pl,hz⟩:=I.tuple hq;obtain⟨j,h1,h2,h3,h4,h5⟩:=gX he;obtain⟨w,ew,rw'⟩:=r.get h2;have hl:=r.length;have hn:=KS;have fin:EP X Ad U Q w s:=⟨z,H,I,rw',q⟩
 exact PP pl.typeIs slot_tuple_getitem.lookup
  (getItem_tuple pl (by ext) (by ext) (by rw[A4,<- hl];exact h1) (by simpa using ew) ⟨rfl,fin⟩) hs
theorem cu:Pe X eK:=by
 intro value slice Ad s U H x y v u Q I rx ry h hs;obtain⟨z,i,c,e1',e2',hz,he,q⟩:_:=h;obtain⟨t,rfl⟩:=rx;obtain⟨t',rfl⟩:=ry;obtain⟨j,h1,h2,h3,h4,h5⟩:=gX he;have hl:z.cps.toList.length=z.length:=by simp[bO]
 rw[hl]at h1 h4 h5;have hn:=KS
 exact bE (Iz s z t) slot_str_getitem.lookup (getItem_str (by
  have e1:decide (i < -(2^63:Int))=false:=decide_eq_false (by ext);have e2:decide (i >= 2^63)=false:=decide_eq_false (by ext);rw [e1,e2,TN]) (by rw [h1];simpa using h2) ⟨.str ⟨#[c]⟩,H,I.tok _,⟨_,rfl⟩,q⟩) hs
theorem z7 (lo hi:Option Int)(n:Nat):(FT lo hi none n).1=((HT.sIx n 0 lo:Nat):Int)/\(FT lo hi none n).2.1=((HT.sIx n n hi:Nat):Int)/\(FT lo hi none n).2.2=1:=by
 refine⟨?_,?_,rfl⟩
 .cases lo with
  |none=>simp[FT,HT.sIx]
  |some i=>
   simp only[FT,HT.sIx,Ps,show(1:Int) > 0 by decide,if_true];by_cases h:i<0
   .simp only[h,if_true]<;>ext
   .simp only[h,if_false]<;>ext
 .cases hi with
  |none=>simp[FT,HT.sIx]
  |some i=>
   simp only[FT,HT.sIx,Ps,show(1:Int) > 0 by decide,if_true];by_cases h:i<0
   .simp only[h,if_true]<;>ext
   .simp only[h,if_false]<;>ext
theorem Ο (Bj:List Ah)(lo hi:Option Int):slicePick Bj.toArray lo hi none=((Bj.drop (HT.sIx Bj.length 0 lo)).take (HT.sIx Bj.length Bj.length hi-HT.sIx Bj.length 0 lo)).toArray:=by
 obtain⟨h1,h2,h3⟩:=z7 lo hi Bj.toArray.size;unfold slicePick;rw[h1,h2,h3];simp only[sliceRange_one,pick_run,A4]<;>rfl
def eG (K:Ac):V->Option Int->Option Int->Hp->VK->Prop:=λx lo hi H Q=>∃a xs,x=.ref a/\FS K H a xs/\∀p,H p=none->Q (.ref p) (CD H p (.lst (O7 xs lo hi)))
theorem mf:Sf X (eG X.K):=by
 intro Ad s U H x v vl vu lo hi sl Q I rx hs pl pu h;obtain⟨a,xs,rfl,hx,q⟩:=h;cases rx;obtain⟨Bj,r,ht,hz⟩:=I.list hx;have hlen:=r.length;refine⟨"list",_,U9.lookup,ht.isList.typeIs,?_⟩;refine wpAny_getItem_list_slice ht.isList hs pl pu .none (by simp) ?_ (by rw[A4]<;>ext);rw[Ο,<- hlen];refine⟨.ref s.heap.objs.size,_,I.laid (λb ob q=>Af _ q) (AJ _) ?_,rfl,q _ (I.hok.fresh (AJ _))⟩;exact⟨AY (uO xs lo hi) hz,_,0,(r.drop (HT.sIx xs.length 0 lo)).take (HT.sIx xs.length xs.length hi-HT.sIx xs.length 0 lo),Ay _ rfl⟩
noncomputable def G6:V->Bool
 |.non=>true
 |.bl _=>true
 |.int _=>true
 |.str _=>true
 |_=>false
noncomputable def Qt:V->V->Bool
 |.non,.non=>true
 |.bl a,.bl b=>a == b
 |.bl a,.int b=>(if a then 1 else 0) == b
 |.int a,.bl b=>a == (if b then 1 else 0)
 |.int a,.int b=>a == b
 |.str a,.str b=>a == b
 |_,_=>false
theorem nU (ry:RelV y u)(rx:RelV x v)(fy:G6 y=true)(fx:G6 x=true):E6 A s u v (Qt y x):=by
 cases y with
 |non=>
  cases ry;cases x with
  |non=>cases rx;exact Gw _
  |bl b=>cases rx;exact SeqAt.EqAt.none_bool b
  |int b=>obtain⟨t,rfl⟩:=rx;exact SeqAt.EqAt.none_int b t
  |str b=>obtain⟨t,rfl⟩:=rx;exact SeqAt.EqAt.none_str b t
  |_=>exact absurd (show false=true from fx) Aj
 |bl a=>
  cases ry;cases x with
  |non=>cases rx;exact SeqAt.EqAt.bool_none a
  |bl b=>cases rx;exact SeqAt.EqAt.bool_bool a b
  |int b=>obtain⟨t,rfl⟩:=rx;exact SeqAt.EqAt.bool_int a b t
  |str b=>obtain⟨t,rfl⟩:=rx;exact SeqAt.EqAt.bool_str a b t
  |_=>exact absurd (show false=true from fx) Aj
 |int a=>
  obtain⟨t',rfl⟩:=ry;cases x with
  |non=>cases rx;exact SeqAt.EqAt.int_none a t'
  |bl b=>cases rx;exact SeqAt.EqAt.int_bool a t' b
  |int b=>obtain⟨t,rfl⟩:=rx;exact SeqAt.EqAt.int_int a t' b t
  |str b=>obtain⟨t,rfl⟩:=rx;exact Mo a t' b t
  |_=>exact absurd (show false=true from fx) Aj
 |str a=>
  obtain⟨t',rfl⟩:=ry;cases x with
  |non=>cases rx;exact SeqAt.EqAt.str_none a t'
  |bl b=>cases rx;exact SeqAt.EqAt.str_bool a t' b
  |int b=>obtain⟨t,rfl⟩:=rx;exact Mn a t' b t
  |str b=>obtain⟨t,rfl⟩:=rx;exact SeqAt.EqAt.str_str a t' b t
  |_=>exact absurd (show false=true from fx) Aj
 |_=>exact absurd (show false=true from fy) Aj
noncomputable def RX (x:V)(u:Ah):Bool:=match u with
 |.none=>Qt .non x
 |.bool b=>Qt (.bl b) x
 |.int i _=>Qt (.int i) x
 |.str z _=>Qt (.str z) x
 |_=>false
theorem nV (r:RelV y u)(f:G6 y=true):RX x u=Qt y x:=by
 cases y with
 |non=>cases r;rfl
 |bl b=>cases r;rfl
 |int i=>obtain⟨t,rfl⟩:=r;rfl
 |str z=>obtain⟨t,rfl⟩:=r;rfl
 |_=>exact absurd (show false=true from f) Aj
theorem gW :∀{xs:List V}{us:List Ah},BF xs us->xs.all G6=true->us.any (RX x)=xs.any λy=>Qt y x
 |_,_,.nil,_=>rfl
 |y::xs,u::us,.cons r t,f=>by
  rw[FY,BQ]at f;rw[FX,FX,nV r f.1,gW t f.2]
theorem iP (rx:RelV x v)(fx:G6 x=true):∀{xs:List V}{us:List Ah},BF xs us->xs.all G6=true->∀u∈us,E6 A s u v (RX x u)
 |_,_,.nil,_=>λu hu=>by cases hu
 |y::xs,u::us,.cons r t,f=>λu' hu=>by
  rw[FY,BQ]at f;rcases AU.mp hu with rfl|hu
  .rw[nV r f.1];exact nU r rx f.1 fx
  .exact iP rx fx t f.2 u' hu
noncomputable def Zo (x:V)(xs:List V):Bool:=xs.any λy=>Qt y x
def wZ (K:Ac)(neg:Bool):R2:=λx y H Q=>∃p xs,y=.ref p/\(FS K H p xs\/LK K H p xs)/\G6 x=true/\xs.all G6=true/\Q (.bl (if neg then !Zo x xs else Zo x xs)) H
theorem u9:Gd X (Bd .In) (wZ X.K false):=by
 intro Ad s U H x y v u Q I rx ry;ext1⟨p,xs,e1',hq,fx,fs,q⟩;cases ry;rcases hq with hq|hq
 .obtain⟨Bj,r,pl,hz⟩:=I.list hq;refine SeqAt.in_listAt (RX x) pl.isList (λw hw=>iP rx fx r fs w (by simpa using hw)) ⟨.bl _,H,I,rfl,?_⟩;rw[show Bj.toArray.any (RX x)=Bj.any (RX x) by simp,gW r fs];exact q
 .obtain⟨Bj,r,pl,hz⟩:=I.tuple hq;refine SeqAt.in_tupleAt (RX x) pl (λw hw=>iP rx fx r fs w (by simpa using hw)) ⟨.bl _,H,I,rfl,?_⟩;rw[show Bj.toArray.any (RX x)=Bj.any (RX x) by simp,gW r fs];exact q
theorem zg:EX X (.builtin "len") (λxs H Q=>∃p ys,xs=[.ref p]/\(FS X.K H p ys\/LK X.K H p ys)/\Q (.int ys.length) H):=by
 intro Ad s U H xs us Q I r h;obtain⟨p,ys,rfl,hq,q⟩:=h;obtain⟨u,rfl,rx⟩:=HA r;cases rx;have hn:=KS;rcases hq with hq|hq
 .obtain⟨Bj,r',pl,hz⟩:=I.list hq;have hlen:=r'.length;exact Calls.call_len_list pl.isList (by simp only[A4]<;>ext) ⟨.int ys.length,H,I.tok _,⟨s.toks+1,by rw[A4,hlen]⟩,q⟩
 .obtain⟨Bj,r',pl,hz⟩:=I.tuple hq;have hlen:=r'.length;exact len_tuple pl (by simp only[A4]<;>ext) ⟨.int ys.length,H,I.tok _,⟨s.toks+1,by rw[A4,hlen]⟩,q⟩
theorem zh:EX X (.builtin "len") (λxs H Q=>∃z,xs=[.str z]/\z.length<=Am/\Q (.int z.length) H):=by
 intro Ad s U H xs us Q I r h;obtain⟨z,rfl,hz,q⟩:=h;obtain⟨u,rfl,t,rfl⟩:=HA r;have hn:=KS;exact len_str (by ext) ⟨.int z.length,H,I.tok _,⟨_,rfl⟩,q⟩
theorem zi:EX X (.type "list") (λxs H Q=>∃p ys,xs=[.ref p]/\(FS X.K H p ys\/LK X.K H p ys)/\∀l,H l=none->Q (.ref l) (CD H l (.lst ys))):=by
 intro Ad s U H xs us Q I r h;obtain⟨p,ys,rfl,hq,q⟩:=h;obtain⟨u,rfl,rx⟩:=HA r;cases rx
 have fin:∀Bj,BF ys Bj->ys.length<=Am->∀h' c',(∀b o',s.heap.get? b=some o'->h'.get? b=some o') ->
   h'.get? s.heap.objs.size=some {cls:=.type "list",dict:=none,data:=.seq Bj.toArray c',slots:=#[]}->EP X Ad U Q (.ref s.heap.objs.size) {s with heap:=h' }:=λBj r' hz h' c' kp e=>
  ⟨.ref s.heap.objs.size,_,I.laid kp (AJ _) (show CQ X.prog X.w _ h' _ (.lst ys)from⟨hz,Bj,c',r',e⟩),rfl,q _ (I.hok.fresh (AJ _))⟩
 rcases hq with hq|hq
 .obtain⟨Bj,r',pl,hz⟩:=I.list hq;have hlen:=r'.length;obtain⟨o,ho,hc,n,hd⟩:=pl.isList;exact call_list_seq p (.inl rfl) ho hc hd (λh' c' kp e=>fin Bj r' hz h' c' kp e) (by simp only[A4]<;>ext)
 .obtain⟨Bj,r',pl,hz⟩:=I.tuple hq;have hlen:=r'.length;obtain⟨o,ho,hc,n,hd⟩:=pl;exact call_list_seq p (.inr rfl) ho hc hd (λh' c' kp e=>fin Bj r' hz h' c' kp e) (by simp only[A4]<;>ext)
theorem ZfJ:EX X (.type "tuple") (λxs H Q=>∃p ys,xs=[.ref p]/\((FS X.K H p ys/\∀l,H l=none->Q (.ref l) (CD H l (.tup ys)))\/(LK X.K H p ys/\Q (.ref p) H))):=by
 intro Ad s U H xs us Q I r h;obtain⟨p,ys,rfl,h⟩:=h;obtain⟨u,rfl,rx⟩:=HA r;cases rx;rcases h with⟨hq,q⟩|⟨hq,q⟩
 .obtain⟨Bj,r',pl,hz⟩:=I.list hq;have hlen:=r'.length;refine call_tuple_list pl.isList (λh' kp=>?_) (by simp only[A4]<;>ext);have I1:A6 X Ad U H {s with heap:=h' }:=I.kept kp
  have I2:A6 X Ad U (CD H h'.objs.size (.tup ys)) {s with heap:=h'.push {cls:=.type "tuple",data:=.seq Bj.toArray} }:=
   I1.laid (λb o e=>Af _ e) (AJ _) (show CQ X.prog X.w _ _ _ (.tup ys)from⟨hz,Bj,r',Mh.new _ _⟩)
  exact⟨.ref h'.objs.size,_,I2,rfl,q _ (I1.hok.fresh (AJ _))⟩
 .obtain⟨Bj,r',pl,hz⟩:=I.tuple hq;exact call_tuple_same pl ⟨.ref p,H,I,rfl,q⟩
def Zh (K:Ac)(T:String)(x:V)(H:Hp):Prop:=match x with
 |.str _=>T = "str"
 |.int _=>T = "int"
 |.ref p=>(T = "list"/\∃xs,FS K H p xs)\/(T = "tuple"/\∃o,K.lookup p=some o/\o.cls=.type "tuple"/\o.dict=none) \/
   (T = "dict"/\((∃AQ,H p=some (.dK AQ))\/∃AQ,H p=some (.dT AQ)))\/(T = "set"/\∃S n,H p=some (.set S n))
 |_=>False
theorem pC (I:A6 X Ad U H s)(r:RelV x v)(ty:Zh X.K T x H) :
  s.TypeIs v T/\∀a,v=.ref a->∃ob,s.heap.get? a=some ob/\ob.dict=none:=by
 cases x with
 |str z=>obtain⟨t,rfl⟩:=r;cases(show T = "str" from ty);exact⟨Iz s z t,λ_ e=>nomatch e⟩
 |int i=>obtain⟨t,rfl⟩:=r;cases(show T = "int" from ty);exact⟨typeIs_int s i t,λ_ e=>nomatch e⟩
 |ref p=>
  cases r;rcases ty with⟨rfl,xs,hq⟩|⟨rfl,o,hk,hc,hd⟩|⟨rfl,hk⟩|⟨rfl,S,n,hk⟩
  .obtain⟨Bj,_,pl,_⟩:=I.list hq;refine⟨pl.isList.typeIs,λa e=>?_⟩;cases e;obtain⟨o,n,e,c,hd,_⟩:=pl;exact⟨o,e,hd⟩
  .refine⟨⟨o,I.kIn p o hk,hc⟩,λa e=>?_⟩;cases e;exact⟨o,I.kIn _ o hk,hd⟩
  .have z:∃o,s.heap.get? p=some o/\o.ExactDict:=by
    rcases hk with⟨AQ,hk⟩|⟨AQ,hk⟩
    .obtain⟨_,_,_,_,o,_,_,e,ex,_⟩:=I.hok p _ hk;exact⟨o,e,ex⟩
    .obtain⟨_,_,_,_,o,_,_,e,ex,_⟩:=I.hok p _ hk;exact⟨o,e,ex⟩
   obtain⟨o,e,ex⟩:=z;refine⟨⟨o,e,ex.1⟩,λa e2=>?_⟩;cases e2;exact⟨o,e,ex.2.1⟩
  .obtain⟨o,_,_,_,e,ex,_⟩:=I.hok p _ hk;refine⟨⟨o,e,ex.1⟩,λa e2=>?_⟩;cases e2;exact⟨o,e,ex.2.1⟩
 |_=>exact C6 ty
def cK (K:Ac)(T:String)(r:V->List V->Hp->VK->Prop)(to:TE):TE:=λU H Q=>to U H λx H1=>Zh K T x H1/\r x [] H1 Q
def wX (K:Ac)(T:String)(r:V->List V->Hp->VK->Prop)(to:TE)(t:TA):TE:=λU H Q=>to U H λx H1=>Zh K T x H1/\t U H1 λxs H2=>r x xs H2 Q
variable {o e:Cb}{es:List Cb}{to:TE}{t:TA}{name:Str}{apos cpos:Pos}{T id:String}{r:V->List V->Hp->VK->Prop}
theorem b7 (pa:NF T)(slot:bP T name id)(hty:Tp (.builtin id)=pure (.type "method_descriptor"))(hm:MY X id r)(ho:PE X o to)
  (hbase:Cz o name X.env (eval o X.env)=eval o X.env:=by rfl) (hline:(apos.endLine == cpos.line)=true:=by rfl):PE X (.Call (.Attribute o name apos) [] [] cpos) (cK X.K T r to):=by
 intro Ad s U H Q I h;refine wpAny_Call_method0_late hbase hline (Do (ho Ad s U H _ I h) λv s1 e=>e.el λx H1 I1 r1 ⟨ty,q1⟩=>?_);obtain⟨h1,h2⟩:=pC I1 r1 ty;exact⟨T,id,pa,slot,hty,h1,h2,Hg rfl (PySem.evalArgs_none (hm Ad s1 U H1 x [] v [] Q I1 r1 .nil q1))⟩
theorem mI (pa:NF T)(slot:bP T name id)(hty:Tp (.builtin id)=pure (.type "method_descriptor"))(hm:MY X id r)(ho:PE X o to)(ha:PA X (e::es) t)
  (hbase:Cz o name X.env (eval o X.env)=eval o X.env:=by rfl)
  (hfew:((Cc cpos (Ar (e::es) X.env)).all (λx=>!x.1) && (Fk cpos (Dy [] X.env)).all (λx=>x.1.isSome)
   && decide ((e::es).length+([]:List EW).length+(if ([]:List EW).isEmpty then 0 else 1)<30))=true:=by rfl)
  (hline:(apos.endLine == cpos.line)=true:=by rfl) (hs:Ar (e::es) X.env=(false,eval e X.env)::Ar es X.env:=by rfl) (hplain:(Cc cpos (Ar es X.env)).any (·.1)=false:=by rfl) :
  PE X (.Call (.Attribute o name apos) (e::es) [] cpos) (wX X.K T r to t):=by
 intro Ad s U H Q I h;refine PN hbase hfew hline rfl (Do (ho Ad s U H _ I h) λv s1 e=>e.el λx H1 I1 r1 ⟨ty,q1⟩=>?_);obtain⟨h1,h2⟩:=pC I1 r1 ty;refine⟨T,id,pa,slot,hty,h1,h2,?_⟩;have hA:=ha cpos Ad s1 U H1 _ I1 q1;rw[hs]at hA ⊢;refine Hg (by show(false || (Cc cpos (Ar es X.env)).any (·.1))=false;rw[hplain]<;>rfl) (NO ?_);exact Do hA λus s2 e=>e.el λvs H2 I2 r2 q2=>hm Ad s2 U H2 x vs v us Q I2 r1 r2 q2
end
def aY (X:Cx)(id:String)(r:V->List V->Hp->VK->Prop):Prop:=
 ∀(Ad:List (Av×Obj)) (s:Ap) (U:St) (H:Hp) (x:V) (xs:List V) (v:Ah) (us:List Ah) (Q:VK),A6 X Ad U H s->RelV x v->BF xs us->r x xs H Q ->
  Aq (Ax X.prog X.w) X.A (IE (.builtin id) (v::us)) (EP X Ad U Q) X.xe s
theorem BF.one:∀{x:V}{us:List Ah},BF [x] us->∃u,us=[u]/\RelV x u
 |_,_,h=>by
  cases h with | cons r t=>cases t;exact⟨_,rfl,r⟩
theorem BF.zero:∀{us:List Ah},BF [] us->us=[]
 |_,.nil=>rfl
theorem BF.dropLast {xs:List V}{us:List Ah}(h:BF xs us):BF xs.dropLast us.dropLast:=by
 induction h with
 |nil=>exact .nil
 |cons r t ih=>
  cases t with
  |nil=>exact .nil
  |cons q t'=>exact .cons r ih
theorem BF.reverse {xs:List V}{us:List Ah}(h:BF xs us):BF xs.reverse us.reverse:=by
 induction h with
 |nil=>exact .nil
 |cons r t ih=>rw[Gr,Gr];exact BF.append ih (.cons r .nil)
theorem xg {α:Type}(l:List α):l.eraseIdx (l.length-1)=l.dropLast:=by
 induction l with
 |nil=>rfl
 |cons a r ih=>
  cases r with
  |nil=>rfl
  |cons b r=>
   have e:(a::b::r).length-1=((b::r).length-1)+1:=by
    have h1:(a::b::r).length=r.length+2:=rfl;have h2:(b::r).length=r.length+1:=rfl;ext
   rw[e,List.eraseIdx_cons_succ,ih]
   all_goals rfl
section
theorem A6.lset {Bj its':List Ah}{n:Nat}{f:Array Ah->Array Ah}{t':Nat}(I:A6 X Ad U H s)(hH:H l=some (.lst xs))
  (e:s.heap.get? l=some {cls:=.type "list",data:=.seq Bj.toArray n}) (hf:f Bj.toArray=its'.toArray) (hv:BF ys its') (hz:ys.length<=Am) :
  A6 X Ad U (CD H l (.lst ys)) {s with heap:=s.heap.update l (Hx f),toks:=t' }:=by
 have q:=PySem.IsL.update e f;rw[hf]at q;refine I.write (by rw[hH];exact trivial) (.inl rfl) (λb' u hb hu=>(Bb s.heap (Hx f) (Bg hb)).trans hu) ⟨_,q⟩ ?_;exact⟨hz,its',_,hv,q⟩
theorem A6.lnew (I:A6 X Ad U H s)(hv:BF ys Bj)(hz:ys.length<=Am) :
  A6 X Ad U (CD H s.heap.objs.size (.lst ys)) {s with heap:=s.heap.push {cls:=.type "list",data:=.seq Bj.toArray},toks:=t' }:=
 I.laid (λ_ _ q=>Af _ q) (AJ _) ⟨hz,Bj,0,hv,Ay _ rfl⟩
theorem A6.fresh (I:A6 X Ad U H s):H s.heap.objs.size=none:=I.hok.fresh (AJ _)
theorem A6.lstM (I:A6 X Ad U H s)(hH:H l=some (.lst xs)):xs.length<=Am/\∃(Bj:List Ah) (n:Nat),BF xs Bj/\xs.length=Bj.length/\s.heap.get? l=some {cls:=.type "list",data:=.seq Bj.toArray n}:=by
 obtain⟨z,Bj,n,r,e⟩:=I.hok l _ hH;exact⟨z,Bj,n,r,r.length,e⟩
theorem Qp {n:Nat}(h:n<=Am):JX n=false:=by
 unfold JX;exact decide_eq_false (by ext)
end
section
variable {X:Cx}
def RH:V->List V->Hp->VK->Prop:=λx vs H Q=>∃l xs y,x=.ref l/\vs=[y]/\H l=some (.lst xs)/\xs.length<Am/\Q .non (CD H l (.lst (xs++[y])))
theorem uy:aY X "list.append" RH:=by
 intro Ad s U H x vs v us Q I rx rv;ext1⟨l,xs,y,e1',e2',hH,hz,q⟩;cases rx;obtain⟨u,rfl,ru⟩:=rv.one;obtain⟨z,Bj,n,r,hl,e⟩:=I.lstM hH;refine KD F.slot_list_append ⟨_,e,rfl⟩ F.entry_list_append (F.args_list_append_2 _ _) (PySem.list_append l Bj.toArray n u (by rw[A4];ext)) ⟨e,?_⟩;refine⟨.non,_,I.lset hH e (by simp) (r.append (.cons ru .nil)) ?_,rfl,q⟩;rw[Ao,E8];ext
def eI:V->List V->Hp->VK->Prop:=λx vs H Q=>∃l xs y,x=.ref l/\vs=[]/\H l=some (.lst xs)/\xs[xs.length-1]? = some y/\Q y (CD H l (.lst xs.dropLast))
theorem bf:aY X "list.pop" eI:=by
 intro Ad s U H x vs v us Q I rx rv;ext1⟨l,xs,y,e1',e2',hH,hy,q⟩;cases rx;have hus:=rv.zero;subst hus;obtain⟨z,Bj,n,r,hl,e⟩:=I.lstM hH;obtain⟨u,hu,ru⟩:=r.get hy
 have hy':Bj.toArray[Bj.toArray.size-1]? = some u:=by
  show Bj.toArray[Bj.length-1]? = some u;rw[<- C0,<- hl];exact hu
 refine KD F.slot_list_pop ⟨_,e,rfl⟩ F.entry_list_pop (F.args_list_pop_1 _) (MeetsSeq.list_pop_last l Bj.toArray n u hy' (by rw[A4];ext)) ⟨e,?_⟩;refine⟨y,_,I.lset hH e ?_ r.dropLast ?_,ru,q⟩
 .show Bj.toArray.eraseIdxIfInBounds (Bj.toArray.size-1)=Bj.dropLast.toArray;rw[A4,List.eraseIdxIfInBounds_toArray,xg]
 .rw[List.length_dropLast];ext
def Qh:V->List V->Hp->VK->Prop:=λx vs H Q=>∃l xs,x=.ref l/\vs=[]/\H l=some (.lst xs)/\Q .non (CD H l (.lst xs.reverse))
theorem vx:aY X "list.reverse" Qh:=by
 intro Ad s U H x vs v us Q I rx rv h;obtain⟨l,xs,rfl,rfl,hH,q⟩:=h;cases rx;have hus:=rv.zero;subst hus;obtain⟨z,Bj,n,r,hl,e⟩:=I.lstM hH;refine KD F.slot_list_reverse ⟨_,e,rfl⟩ F.entry_list_reverse (F.args_list_reverse_1 _) (AutoSeq1.list_reverse_list_0 l Bj.toArray n (by rw[A4];ext)) ⟨e,?_⟩;refine⟨.non,_,I.lset hH e (by simp) r.reverse ?_,rfl,q⟩;rw[OW];ext
end
section
end
section
end
end L2
namespace Att
open PySem PySem.W PySem.Calls PyProof.Rows
theorem ZdU :∀ns vs,WellAll P h vs (ns.map YO)->P5 vs ns:=by
 intro ns;induction ns with
 |nil=>intro vs w;rw[CY]at w;cases w;exact .nil
 |cons n ns ih=>
  intro vs w;rw[AM]at w;cases w with
  |cons a b=>cases a;exact .cons _ _ (ih _ b)
theorem vb {l:OpenLaw}(hn:l.most=some n)
  (hpre:l.row.toRowW.claim.pre args=true) (hwl:WellAll P h WG args) :
  ∃a vs ns,WG=[AF a]/\args=[WData.list (ns.map YO)]/\h.get? a=some {cls:=.type "list",data:=.seq vs.toArray}/\P5 vs ns/\ns.length<=n:=by
 have hsh:=(pre_splitW hpre).1;have hc:l.pre.holds [] {args:=args}=true:=(pre_splitW hpre).2;obtain⟨d,r,rfl,h1,h2⟩:=hasAllW_cons hsh;obtain rfl:=hasAllW_nil h2;obtain⟨xs,rfl,h3⟩:=hasW_list h1;obtain⟨ns,rfl⟩:=items_int h3
 have hlen:ns.length<=n:=by
  unfold OpenLaw.pre at hc
  have h4:(WTm.not (.lt (.lit (.int (n:Int))) (.len (.arg 0)))).holds [] {args:=[.list (ns.map .int)]}=true:=by
   have h4:=(holds_andW hc).1;rw[hn]at h4;exact h4
  have h5:=condW_of h4 (w_not (w_lt w_lit (w_len_list (w_arg rfl))));rw[Ae]at h5;refine Nat.le_of_not_lt λq=>?_;have q':(n:Int)<((ns.length:Nat):Int):=by ext
  first
   |(rw[decide_eq_true q']at h5;exact absurd h5 (by decide))
   |(simp at h5;ext)
 cases hwl with
 |cons w1 w2=>
  cases w2;cases w1 with
  |list ho hall=>exact⟨_,_,ns,rfl,rfl,ho,ZdU ns _ hall,hlen⟩
theorem uf (l:OpenLaw)(args:List WData):l.row.toRowW.claim.post args (.bool true) args=true:=
 postW_of
  (show Vf [] (.bool true) .bool=true by first | rfl | decide | simp[Vf,WShape.arms,WShape.armsAll])
  (show(WTm.eq .res (.lit (.bool true))).value [] {args:=args,res:=some (.bool true),after:=args}=some (.bool (true == true))from w_eq_bool (w_res rfl) w_lit) rfl
theorem attach_call {l:OpenLaw}
  (hn:l.most=some n) (hdf:d.params.defaults=[])
  (IE:∀ w s₀ s₁ mg mb fa o pm cd doc a vs ns,
   Ground q loose [] XP w s₀ mg mb s₁.heap->YP w s₁.heap ->
   s₁.heap.get? fa=some o->o.data=.func (docDef d.name d.params d.body d.scope pm cd doc)->s₁.heap.CodeRec cd d.name->mg d.name=some (.ref fa) ->
   s₁.heap.get? a=some {cls:=.type "list",data:=.seq vs.toArray}->P5 vs ns->ns.length<=n->s₁.gens=#[] ->
   DP (Ax l.prog w) JT (.call (.ref fa) ⟨[.ref a],[]⟩) (λr s'=>r=.ok (.ret (.bool true))/\OldK s₁.heap s'.heap/\s'.os=s₁.os/\IH s'.gens) s₁) :
  WalkO q loose XP YP l.row.toRowW d [] (λf vs=>OQ f vs):=by
 intro w s₀ s₁ mg mb G Y fa o pm cd doc dV kV ho hd hcd hD hmg hg args WG as hpre hlay hrd hwl hlo;obtain rfl:dV=.none:=Dflts.none hD hdf;obtain rfl:kV=.none:=Dflts.noKw hD;obtain⟨a,vs,ns,e1',e2',hobj,hints,hlen⟩:_:=vb hn hpre hwl;refine enter_call (Gv (IE w s₀ s₁ mg mb fa o pm cd doc a vs ns G Y ho (fd_plain hd) hcd hmg hobj hints hlen hg) λr s' hq=>?_);obtain⟨rfl,h2,h3,h4⟩:=hq;exact⟨.inl ⟨.bool true,.bool true,[],rfl,λ_=>rfl,.bool true,uf l _,λ_=>⟨Wv,λ_ hm=>(nomatch hm)⟩⟩,h2,h3,h4⟩
section
variable      {K:TL}
end
end Att
namespace L2
open PySem PySem.Spec PyProof.Rows
theorem tP:∀{vs:List Ah}{ns:List Int},P5 vs ns->BF (ns.map V.int) vs
 |_,_,.nil=>.nil
 |_,_,.cons n t h=>.cons ⟨t,rfl⟩ (tP h)
def UT (H:Hp):Prop:=∀b,H b=none\/∃o xs,H b=some (.frz o (.lst xs))
theorem p6 {K:Ac}
  (KX:K.In s₁.heap) (hns:s₁.heap.Ns BY mg) (hb:s₁.heap.Ns Tu mb) (hbb:∀x:Str,x≠"__name__"->mb x=Dc x) (hlim:s₁.heap.NoLimit) (hg:s₁.gens=#[])
  (ha:s₁.heap.get? a=some {cls:=.type "list",data:=.seq vs.toArray}) (hi:P5 vs ns) (hl:ns.length<=Am) (hr:Dt k JT)
  (F:∀base:CU,K.In base->base.Ns BY mg->FnOk P w K mg base CX k fa fd [x] sp) (hbind:∀(s:Ap) (u:Ah),Nk s fd ⟨[u],[]⟩ [(x,u)])
  (hsp:∀H:Hp,UT H->FS K H a (ns.map V.int)->sp [.ref a] H (λv _=>v=.bl true) λ_ _ _=>False)
  (hCX:∀H e s',CX [] H s₁ (λ_ _ _=>False) e s'->False) :
  DP (Ax P w) JT (.call (.ref fa) ⟨[.ref a],[]⟩) (λr s'=>r=.ok (.ret (.bool true))/\OldK s₁.heap s'.heap/\s'.os=s₁.os/\IH s'.gens) s₁:=by
 have rv:=tP hi;have lenV:=hi.length
 have core:∀H:Hp,UT H->FS K H a (ns.map V.int)->Ix P w H s₁.heap->(∀b,H b≠none->b=a)->(H a≠none->K.lookup a=none) ->
   DP (Ax P w) JT (.call (.ref fa) ⟨[.ref a],[]⟩) (λr s'=>r=.ok (.ret (.bool true))/\OldK s₁.heap s'.heap/\s'.os=s₁.os/\IH s'.gens) s₁:=by
  intro H hO hS hok hA hK;have base_of:∀{b:Av} {o:Obj},s₁.heap.get? b=some o->H b=none->(Mb s₁.heap H).get? b=some o:=λe n=>pi e n
  have noA:∀{b:Av} {o:Obj} {es:Array H9} {ep:Nat},s₁.heap.get? b=some o->o.data=.dict es ep->H b=none:=λ{b o es ep} e d=>by
   cases q:H b with
   |none=>rfl
   |some u=>have e':=hA b (by rw[q];simp);subst e';rw[ha]at e;cases e;have d':=d;cases d'
  have nsK:∀{b:Av} {m:Str->Option Ah},s₁.heap.Ns b m->(Mb s₁.heap H).Ns b m:=λ{b m} ⟨o,es,ep,e,d,r⟩=>⟨o,es,ep,base_of e (noA e d),d,r⟩
  have hKb:K.In (Mb s₁.heap H):=λb o e=>base_of (KX b o e) (by
   cases q:H b with
   |none=>rfl
   | some u=>have e':=hA b (by rw [q];simp);subst e';rw [hK (by rw [q];simp)] at e;cases e)
  have hM:Mod K mg (Mb s₁.heap H):=⟨hKb,nsK hns,⟨mb,nsK hb,hbb⟩,let ⟨mc,h1,h2⟩:=hlim;⟨mc,nsK h1,h2⟩⟩;have e0:Og P w K mg (Mb s₁.heap H) JT [] s₁ H:=⟨rfl,hM,λb o e=>jf e,Wt (ul _ _),trivial,λb hb=>absurd (show b∈([]:List Av)from hb) (by simp),hok,.of_eq hg⟩;refine Gv ((F _ hKb (nsK hns)).run JT [] s₁ H ⟨[.ref a],[]⟩ [.ref a] [.ref a] _ _ hr e0 (hbind s₁ (.ref a)) (.cons rfl .nil) (hsp H hO hS)) λr s' h=>?_;cases r with
  |error e=>exact(hCX H e s' h).elim
  |ok fl=>
   cases fl with
   |next=>exact C6 h
   |brk=>exact C6 h
   |cont=>exact C6 h
   |ret u=>
    obtain⟨v,H',os,bare,un,hok',r',q⟩:_:=h;have q':=q;subst q';obtain rfl:u=Jd true:=r';refine⟨rfl,OldK.of_keep λb o e=>?_,os,bare⟩;cases q:H b with
    |none=>exact un.keep b o e q (by intro z;exact absurd (show b∈([]:List Av)from z) (by simp)) (by simp)
    |some u=>
     rcases hO b with z|⟨ob,xs,z⟩
     .rw[q]at z;cases z
     .have z2:=un.frzs b ob _ z;obtain⟨e1,_⟩:=hok b _ z;obtain⟨e2,_⟩:=hok' b _ z2;rw[e]at e1;cases e1;exact e2
 cases hk:K.lookup a with
 |some o=>have e:=KX a o hk;rw[ha]at e;cases e;refine core (λ_=>none) (λ_=>.inl rfl) (.inr ⟨_,vs.toArray,_,hk,rfl,rfl,rfl,by rw[A4,lenV];exact hl,by simpa using rv⟩) (λb u z=>by have z':(none:Option HO)=some u:=z;cases z') (λb z=>absurd rfl z) λz=>absurd rfl z
 |none=>
  refine core (λb=>if b=a then some (.frz {cls:=.type "list",data:=.seq vs.toArray} (.lst (ns.map V.int)))else none) (λb=>?_) (.inl (.inr ⟨{cls:=.type "list",data:=.seq vs.toArray},if_pos rfl⟩)) (λb u z=>?_) (λb z=>?_) λ_=>hk
  .by_cases hb:b=a
   .exact .inr ⟨_,_,if_pos hb⟩
   .exact .inl (if_neg hb)
  .by_cases hb:b=a
   .have z':=(if_pos hb).symm.trans z;cases z';subst hb;exact⟨ha,by rw[Ae];exact hl,vs,_,rv,ha⟩
   .have z':=(if_neg hb).symm.trans z;cases z'
  .by_cases hb:b=a
   .exact hb
   .exact absurd (if_neg hb) z
theorem walk_of {l:Pq}{n k:Nat}{q:Bs}{loose:List Str}{XP:(Str->Option Ah)->CU->Prop}{YP:BG->CU->Prop}{d:DefRec}{K:KJ->Ac}{CX:BG->V0}{sp:BG->Sp}{x:Str}
  (hn:l.most=some n) (hn2:n<=Am) (hdf:d.params.defaults=[]) (hr:Dt k JT)
  (hY:∀w h,YP w h->(K w.params).In h)
  (F:∀ w mg fa h,(K w.params).In h->h.Ns BY mg->mg d.name=some (.ref fa) ->
   ∃fd,(∀s u,Nk s fd ⟨[u],[]⟩ [(x,u)]) /\
    ∀ base,(K w.params).In base->base.Ns BY mg->FnOk l.prog w (K w.params) mg base (CX w) k fa fd [x] (sp w))
  (hsp:∀w H a (ns:List Int),ns.length<=n->UT H->FS (K w.params) H a (ns.map V.int)->sp w [.ref a] H (λv _=>v=.bl true) λ_ _ _=>False)
  (hCX:∀(w:BG) (H:Hp) (s:Ap) (e:Ah) (s':Ap),CX w [] H s (λ_ _ _=>False) e s'->False) :
  QP q loose XP YP l.row.toRowW d [] (λf vs=>OQ f vs):=by
 refine Att.attach_call hn hdf λw s₀ s₁ mg mb fa o pm cd doc a vs ns G Y ho hd hcd hmg hobj hints hlen hg=>?_;have KX:=hY w _ Y;obtain⟨fd,hb,hF⟩:=F w mg fa _ KX G.T.g hmg;exact p6 KX G.T.g G.T.b G.T.builtins G.T.nolimit hg hobj hints (AY hlen hn2) hr hF hb (λH hO hS=>hsp w H a ns hlen hO hS) λH e s'=>hCX w H s₁ e s'
noncomputable def RY (s:DC):Arguments:=match s with
 |.FunctionDef _ a _ _ _ _ _ _ _ _=>a
 |_=>{posonlyargs:=[],args:=[],vararg:=none,kwonlyargs:=[],kw_defaults:=[],kwarg:=none,defaults:=[]}
noncomputable def N9 (s:DC):List DC:=match s with
 |.FunctionDef _ _ b _ _ _ _ _ _ _=>b
 |_=>[]
noncomputable def IP (s:DC):Lo:=match s with
 |.FunctionDef _ _ _ _ _ _ sc _ _ _=>sc
 |_=>{kind:=.function,names:=[],isGenerator:=false,isCoroutine:=false}
abbrev CX0:V0:=λ_ _ _ _ _ _=>False
abbrev E0:XK:=λ_ _ _=>False
theorem OF :IS CX0 X E0:=λ_ _ _ _ _ _ _ h=>h.elim
structure CM (K:Ac)(x qual:Str)(st:DC)(f:Av)(fd:Dm):Prop where
 ex:∃(oc:Ah) (od:Option Av) (kV doc pm:Ah) (an:Option Av) (cdv ct:Ah) (osl:Array (Option Ah)),
  fd=Ft x qual (RY st) (N9 st) (IP st) .none kV doc pm an cdv ct/\K.lookup f=some ⟨oc,od,.func fd,osl⟩/\KI K cdv qual=true
 kp:FG K (.ref f)=true
section
variable   {K:Ac}
theorem CM.ok {st:DC}(F:CM K x qual st f fd)(S:EM N ps (IP st))(len:∀vs H Q E,sp vs H Q E->vs.length=ps.length)
  (hbody:∀ cdv A outer s H vs Q E,Dt k (A.deeper (FE qual (IP st) s.heap.objs.size f cdv))->sp vs H Q E ->
   ∃ t,Lz (Kn CX0 P w K mg base N qual (IP st) f cdv A outer s H E).nox (N9 st) t/\t { nx:=λ_ H'=>Q .non H',rt:=Q } (start N vs) H):FnOk P w K mg base CX0 (k+1) f fd ps sp:=by
 obtain⟨oc,od,kV,doc,pm,an,cdv,ct,osl,rfl,lk,hcd⟩:=F.ex;refine xQ lk hcd S len λA outer s H vs Q E hr hsp=>?_;obtain⟨t,h,q⟩:=hbody cdv A outer s H vs Q E hr hsp;exact⟨t,h.nox,q⟩
theorem CM.binds {st:DC}(F:CM K x qual st f fd)
  (h:∀kV doc pm an cdv ct us,us.length=ps.length->DA (Ft x qual (RY st) (N9 st) (IP st) .none kV doc pm an cdv ct) ⟨us,[]⟩=pure (ps.zip us)):HI K fd ps []:=by
 obtain⟨oc,od,kV,doc,pm,an,cdv,ct,osl,rfl,lk,hcd⟩:=F.ex;exact .all (h kV doc pm an cdv ct)
theorem fun_mk {x qual:Str}{st:DC}{f:Av}{oc:Ah}{od an:Option Av}{osl:Array (Option Ah)}{kV doc pm cdv ct:Ah}(l:K.lookup f=some ⟨oc,od,.func (Ft x qual (RY st) (N9 st) (IP st) .none kV doc pm an cdv ct),osl⟩)
  (c:KI K cdv qual=true) (k:FG K (.ref f)=true):CM K x qual st f (Ft x qual (RY st) (N9 st) (IP st) .none kV doc pm an cdv ct):=⟨⟨oc,od,kV,doc,pm,an,cdv,ct,osl,rfl,l,c⟩,k⟩
end
theorem Ly (hr:Dt k A):A.units+1<Dk:=Fh (Jg (by decide:1<=64) _) hr.units
theorem B5 (h:n<=1000):n<Am:=Fh h (by decide)
section
theorem pv (i:Nat)(hN:X.N[i]? = some x:=by rfl)(hv:YB X.env.scope x:=by first | exact BH rfl | exact I0 (BH rfl) | exact I0 (I0 rfl))(hd:(x == ("__debug__":Str))=false:=by decide)
  (hcd:(x == ("__classdict__":Str))=false:=by decide):PE X (.Name x pos) (RD i):=oP hN hv hd hcd
end
theorem Cv {c A B:Prop}[Decidable c](h1:c->A)(h2:¬c->B):if c then A else B:=by
 by_cases h:c
 .rw[if_pos h];exact h1 h
 .rw[if_neg h];exact h2 h
theorem pk (K)(c):C3 K (.type c) (.type c)=some true:=by
 unfold C3;rw[if_pos (beq_self_eq_true _)]
theorem je :MY X "int.bit_length" (λx xs H Q=>∃i,x=.int i/\xs=[]/\Q (.int (D9 i)) H):=by
 intro Ad s U H x xs v us Q I rx r h;obtain⟨i,rfl,rfl,q⟩:=h;obtain⟨t,rfl⟩:=(show∃t,v=DB i t from rx);cases r;exact Y5 ⟨.int _,H,I.tok _,⟨_,rfl⟩,q⟩
theorem A6.track (I:A6 X Ad U H s)(f:Jr X Ad H D)
  (new:CQ X.prog X.w (CD H D o) s.heap D o):A6 X Ad U (CD H D o) s:=by
 obtain⟨hn,h2,_,h1,h3,h4⟩:=f;have hu:∀b u,H b=some u->CD H D o b=some u:=λb u e=>by rw[Ij (VW e hn)];exact e
 have hok:Ix X.prog X.w (CD H D o) s.heap:=λb u e=>by
  by_cases hb:b=D
  .subst hb;rw[MA]at e;cases e;exact new
  .rw[Ij hb]at e;exact(I.hok b u e).stay (λ_ _ _ q=>q) (λc q=>hu c _ q) λc xs q=>hu c _ q
 exact I.step (ch:=[D])
  (λb hb=>by
   have e:b=D:=by simpa using hb
   subst e;exact ⟨h1,h2,h3,h4⟩)
  (λb o' _ _ _ e _=>e) (λb o' _ _ _ e _=>⟨o'.slots,e⟩)
  (λb o' hb e n=>by rw[Ij (λz=>hb (by simp[z]))];exact n)
  (λb o' _ e=>⟨o',e⟩) (λb xs e=>hu b _ e) (λb o' u e=>hu b _ e) (λb ps e=>⟨#[],by rw[hu b _ e];simp⟩) (λm hm=>hm) hok I.bare
theorem uK {α β:Type}{f:α->β->Sem (ForInStep β)}(g:α->β->β):∀(l:List α) (c:β),(∀x∈l,∀c,f x c=pure (.yield (g x c)))->forIn l c f=pure (l.foldl (λc x=>g x c) c)
 |[],c,_=>rfl
 |x::l,c,h=>by
  rw[GR,h x AA,pure_bind];exact uK g l (g x c) λy hy=>h y (Aw _ hy)
noncomputable def Jp (env:Env)(y:Str×Fm)(c:List (Str×Av)):List (Str×Av):=if (y.2 == .free)=true then(y.1,(env.cells.lookup y.1).getD 0)::c else c
noncomputable def El (env:Env)(l:List (Str×Fm))(c:List (Str×Av)):List (Str×Av):=l.foldl (λc y=>Jp env y c) c
theorem jP {scope:Lo}{env:Env}(h:∀y∈scope.names,y.2=.free->∃c,env.cells.lookup y.1=some c):closureFor scope env=pure (El env scope.names []):=by
 simp only[closureFor]
 rw [uK (Jp env) scope.names [] (λx hx c=>by
  obtain⟨n,k⟩:=x;by_cases hk:k=.free
  .subst hk;obtain⟨a,ha⟩:=h _ hx rfl;simp[Jp,cellOf,ha]
  .have:(k == B7)=false:=by simpa using hk
   simp [Jp,this])]
 rfl
theorem lookup_mem :∀{l:List (Str×α)},l.lookup x=some k->(x,k)∈l
 |[],h=>by simp at h
 |(n,a)::r,h=>by
  rw[Bu]at h;cases e:x == n with
  |true=>
   rw[e]at h;have e':x=n:=by simpa using e
   have h':a=k:=by simpa using h
   rw[e',h'];exact AA
  |false=>rw[e]at h;exact Aw _ (lookup_mem (by simpa using h))
theorem UI :∀(l:List (Str×Fm)) (acc:List (Str×Av)),(∀y∈l,y.2=.free->∃c,env.cells.lookup y.1=some c) ->
  (∀x c,acc.lookup x=some c->env.cells.lookup x=some c)->∀x c,(El env l acc).lookup x=some c->env.cells.lookup x=some c
 |[],acc,_,ha,x,c,e=>ha x c e
 |(n,k)::l,acc,h,ha,x,c,e=>by
  refine UI l (Jp env (n,k) acc) (λy hy=>h y (Aw _ hy)) (λx c e=>?_) x c e;by_cases hk:k=.free
  .subst hk;obtain⟨a,hb⟩:=h (n,.free) AA rfl;have z:Jp env (n,B7) acc=(n,a)::acc:=by simp[Jp,hb]
   rw[z,Bu]at e;cases q:x == n with
   |true=>
    rw[q]at e;have q':x=n:=by simpa using q
    have e':a=c:=by simpa using e
    rw[q',<- e'];exact hb
   |false=>rw[q]at e;exact ha x c (by simpa using e)
  .have:(k == B7)=false:=by simpa using hk
   have z:Jp env (n,k) acc=acc:=by simp[Jp,this]
   rw[z]at e;exact ha x c e
theorem hU :∀(l:List (Str×Fm)) (acc:List (Str×Av)),((∃c,acc.lookup x=some c)\/(x,B7)∈l)->∃c,(El env l acc).lookup x=some c
 |[],acc,h=>by
  rcases h with h|h
  .exact h
  .cases h
 |(n,k)::l,acc,h=>by
  refine hU l (Jp env (n,k) acc) ?_;by_cases hk:k=.free
  .subst hk;have z:Jp env (n,B7) acc=(n,(env.cells.lookup n).getD 0)::acc:=by simp[Jp]
   cases q:x == n with
   |true=>exact .inl ⟨_,by rw[z,Bu,q]⟩
   |false=>
    rcases h with⟨c,h⟩|h
    .exact .inl ⟨c,by rw[z,Bu,q];exact h⟩
    .rcases AU.mp h with e|h
     .have e':=(Ss e).1;rw[e']at q;simp at q
     .exact .inr h
  .have:(k == B7)=false:=by simpa using hk
   have z:Jp env (n,k) acc=acc:=by simp[Jp,this]
   rw[z];rcases h with h|h
   .exact .inl h
   .rcases AU.mp h with e|h
    .exact absurd (Ss e).2.symm hk
    .exact .inr h
theorem aW {env:Env} :∀{names:List (Str×Fm)}{k:Fm},
  (names.map λ(n,k)=>if (k == B7 && env.scope.kind == .function && env.kindOf n == some .cell)then(n,H0)else(n,k)).lookup x=some k ->
  names.lookup x=some k\/(k=.cell/\names.lookup x=some .free)
 |[],_,h=>by simp at h
 |(n,k0)::r,k,h=>by
  rw[AM]at h;by_cases hc:(k0 == B7 && env.scope.kind == .function && env.kindOf n == some .cell)=true
  .have hf:k0=.free:=by
    simp only[BQ]at hc;simpa using hc.1.1
   simp only[hc,if_true]at h;rw[Bu]at h ⊢;cases q:x == n with
   |true=>
    rw[q]at h;have h':H0=k:=by simpa using h
    exact .inr ⟨h'.symm,by rw[hf]⟩
   |false=>rw[q]at h;exact aW (by simpa using h)
  .have hc':(k0 == B7 && env.scope.kind == .function && env.kindOf n == some .cell)=false:=by simpa using hc
   simp only[hc',if_false,FQ]at h;rw[Bu]at h ⊢;cases q:x == n with
   |true=>rw[q]at h;exact .inl (by simpa using h)
   |false=>rw[q]at h;exact aW (by simpa using h)
theorem jX {env:Env} :∀{names:List (Str×Fm)},names.lookup x=some .free ->
  (names.map λ(n,k)=>if (k == B7 && env.scope.kind == .function && env.kindOf n == some .cell)then(n,H0)else(n,k)).lookup x=some .cell \/
  (names.map λ(n,k)=>if (k == B7 && env.scope.kind == .function && env.kindOf n == some .cell)then(n,H0)else(n,k)).lookup x=some .free
 |[],h=>by simp at h
 |(n,k0)::r,h=>by
  rw[AM];rw[Bu]at h;by_cases hc:(k0 == B7 && env.scope.kind == .function && env.kindOf n == some .cell)=true
  .simp only[hc,if_true];rw[Bu];cases q:x == n with
   |true=>exact .inl rfl
   |false=>rw[q]at h;exact jX (by simpa using h)
  .have hc':(k0 == B7 && env.scope.kind == .function && env.kindOf n == some .cell)=false:=by simpa using hc
   simp only[hc',if_false,FQ];rw[Bu];cases q:x == n with
   |true=>rw[q]at h;exact .inr (by simpa using h)
   |false=>rw[q]at h;exact jX (by simpa using h)
theorem Zc0 (I:Nat->Ap->Prop)
  (turn:∀ n s,I n s->Aq (Ax prog w) A (ID it) (λr s₁=>match r with
   |none=>R (.ok .next) s₁
   | some v=>Aq (Ax prog w) A (IX target it v) (λ_ s₁'=>Aq (Ax prog w) A (KH target env v) (λ_ s₂ =>
     Aq (Ax prog w) A (forIn ifs true λc r=>if r=true then do let ok <- PX c env (eval c env);pure (C8 ok) else pure (C8 r)) (λok s₃ =>
      if ok=true then Aq (Ax prog w) A (eval elt env) (λx s₄ =>
       Aq (Ax prog w) A (IE (.builtin "list.append") [acc,x]) (λ_ s₅=>∃ m,m<n/\I m s₅) (Nc (Ax prog w) A env λe s'=>R (.error e) s') s₄) (Nc (Ax prog w) A env λe s'=>R (.error e) s') s₃
      else ∃ m,m<n/\I m s₃) (Nc (Ax prog w) A env λe s'=>R (.error e) s') s₂) (Nc (Ax prog w) A env λe s'=>R (.error e) s') s₁') (Nc (Ax prog w) A env λe s'=>R (.error e) s') s₁)
      (Nc (Ax prog w) A env λe s'=>R (.error e) s') s)
  (n:Nat) (h:I n s) :
  DP (Ax prog w) A (.compLoop (.ListComp elt [⟨target,iter,ifs,0⟩] scope pos) 0 it acc env) R s:=by
 refine codeAny_loop rfl I (λn s hI=>?_) n h;show Aq _ A ((compTurn (.ListComp elt [⟨target,iter,ifs,0⟩] scope pos) 0 it acc env).onRaise (λx=>do noteFrame x env;theTreesLotGoes x)) _ _ s;refine wpAny_noted ?_;rw[compTurn_list];refine Aa (Kq (Aa (BI (turn n s hI) (λr s₁ h₁=>?_) λ_ _ h'=>h')));cases r with
 |none=>exact Ab h₁
 |some v=>
  refine Aa (BI h₁ (λ_ s₁' h₁'=>Aa (BI h₁' (λ_ s₂ h₂=>Aa (BI h₂ (λok s₃ h₃=>?_) λ_ _ h'=>h')) λ_ _ h'=>h')) λ_ _ h'=>h');cases ok with
  |false=>exact Ab ⟨rfl,h₃⟩
  |true=>exact Aa (Aa (BI h₃ (λx s₄ h₄=>Aa (BI h₄ (λ_ s₅ h₅=>Ab (Ab ⟨rfl,h₅⟩)) λ_ _ h'=>h')) λ_ _ h'=>h'))
noncomputable def GC (X:Cx)(scope:Lo)(cl:List (Str×Av))(C:Av)(N:List Str)(fp:List Av)(Ad:List (Av×Obj))(s:Ap)(H:Hp):Cx where
 prog:=X.prog
 w:=X.w
 K:=X.K
 mg:=X.mg
 base:=X.base
 A:=X.A
 N:=N
 s₀:=s
 H₀:=H
 env:=Nz scope cl C X.env
 outer:=X.stack
 stack:=X.stack
 ex:=fp
 calm:=X.calm
 fn:=λ_=>false
 pn:=X.pn++Ad
 xe:=λ_ _=>False
 fz:=X.fz
def SU:TT:=λ_ H Q=>Q true H
inductive Im (Y:Cx):List Cb->TT->Prop where
 |nil:Im Y [] SU
 |one {c:Cb} {t:TT} (h:PT Y c t):Im Y [c] t
noncomputable def MT (U:St)(caps:List (Str×Nat))(v:Option V):St:=v::caps.map λc=>(U[c.2]?).join
def JZ (wi:TI)(caps:List (Str×Nat))(tt:TT)(te:TE):TE:=λU H Q=>wi U H λJ H1=>∃(n:Nat) (W:Nat->List V->Hp->Prop),W 0 [] H1/\∀i ys H,W i ys H ->
 (J.stop i H/\ys.length<=Am/\∀p,H p=none->Q (.ref p) (CD H p (.lst ys))) \/
 (J.go i H/\i<n/\ys.length<Am/\∀x H',J.yld i H x H'->tt (MT U caps (some x)) H' λb H2=>if b=true then te (MT U caps (some x)) H2 λy H3=>W (i+1) (ys++[y]) H3 else W (i+1) ys H2)
structure Ei (X:Cx)(scope:Lo)(x:Str)(caps:List (Str×Nat)):Prop where
 kind:scope.kind=.function
 frees:(scope.names.all λy=>y.2 != .free || X.env.scope.names.lookup y.1 == some .cell || X.env.scope.names.lookup y.1 == some .free)=true
 nocell:(scope.names.all λy=>y.2 != .cell)=true
 locs:(scope.names.all λy=>y.2 != .local || scope.names.lookup y.1 == some .local)=true
 var:scope.names.lookup x=some .local
 capsOk:(caps.all λc=>scope.names.lookup c.1 == some .free && X.N[c.2]? == some c.1 && (X.env.scope.names.lookup c.1 == some .cell || X.env.scope.names.lookup c.1 == some .free))=true
 nd:(x::caps.map (·.1)).Nodup
noncomputable def Fb (U:St)(caps:List (Str×Nat))(vs:List (Option V)):St:=vs++caps.map λc=>(U[c.2]?).join
structure JO (X:Cx)(scope:Lo)(x:Str)(ns:List Str)(caps:List (Str×Nat)):Prop where
 b:Ei X scope x caps
 CK:(ns.all λy=>scope.names.lookup y == some .local)=true
 nd:(x::(ns++caps.map (·.1))).Nodup
section
variable       {x:Str}
theorem Ei.hfree (B:Ei X scope x caps):∀y∈scope.names,y.2=.free->X.env.kindOf y.1=some .cell\/X.env.kindOf y.1=some .free:=λy hy hf=>by
 have:=C5.mp B.frees y hy;rw[hf]at this;simp only[KC]at this;rcases this with(h|h)|h
 .simp at h
 .exact .inl (show X.env.scope.names.lookup y.1=_ by simpa using h)
 .exact .inr (show X.env.scope.names.lookup y.1=_ by simpa using h)
theorem Ei.hcell (B:Ei X scope x caps):∀y∈scope.names,y.2≠.cell:=λy hy hf=>by
 have:=C5.mp B.nocell y hy;rw[hf]at this;simp at this
theorem Ei.hloc (B:Ei X scope x caps):∀y∈scope.names,y.2=.local->scope.names.lookup y.1=some .local:=λy hy hf=>by
 have:=C5.mp B.locs y hy;rw[hf]at this;simpa using this
theorem Ei.hcaps (B:Ei X scope x caps):∀c∈caps,scope.names.lookup c.1=some .free/\X.N[c.2]? = some c.1/\(X.env.kindOf c.1=some .cell\/X.env.kindOf c.1=some .free):=λc hc=>by
 have:=C5.mp B.capsOk c hc;simp only[BQ,KC]at this;obtain⟨⟨h1,h2⟩,h3⟩:=this;refine⟨by simpa using h1,by simpa using h2,?_⟩;rcases h3 with h|h
 .exact .inl (show X.env.scope.names.lookup c.1=_ by simpa using h)
 .exact .inr (show X.env.scope.names.lookup c.1=_ by simpa using h)
theorem az (B:Ei X scope x caps)(I:A6 X Ad U H s)(hC:C=s.heap.objs.size+1)(hf:∀b∈fp,Jr X Ad H b)(hfo:∀b∈fp,∃o,s.heap.get? b=some o)(hcl:∀y∈scope.names,y.2=.free->∃c,X.env.cells.lookup y.1=some c) :
  (GC X scope (El X.env scope.names []) C (x::caps.map (·.1)) fp Ad s H).Ok where
 mod:=I.ok.mod
 kind:=B.kind
 glob:=I.ok.glob
 blt:=I.ok.blt
 above:=by show s.heap.objs.size<=C;rw[hC];exact Lj _
 inj:=λy z c h1 h2=>I.ok.inj y z c (UI _ _ hcl (λ_ _ e=>by simp at e) _ _ h1) (UI _ _ hcl (λ_ _ e=>by simp at e) _ _ h2)
 has:=λy h=>by
  refine hU _ _ (.inr ?_);rcases h with h|h
  .rcases aW h with e|⟨_,e⟩
   .exact absurd rfl (B.hcell _ (lookup_mem e))
   .exact lookup_mem e
  .rcases aW h with e|⟨z,e⟩
   .exact lookup_mem e
   .cases z
 cab:=λ_ _ h=>nomatch h
 hd:=I.ok.hd
 frames:=I.ok.frames
 stk:=.inl rfl
 exf:=λb hb=>by
  obtain⟨o,ho⟩:=hfo b hb;refine⟨λz=>?_,λy c e=>(hf b hb).2.2.2.2.1 y c (UI _ _ hcl (λ_ _ e=>by simp at e) _ _ e)⟩;exact absurd (show b=C from z) (A5 (by rw[hC];exact EU (An ho)))
 bs:=I.bs
 bsz:=AY I.ok.bsz I.sz
 noex:=λb o e hb=>by
  rcases(hf b hb).2.2.2.1 with z|z
  .exact I.ok.noex b o e z
  .exact absurd (Bk (An e) (AY I.ok.bsz z)) (E4 _)
 exfs:=λb hb hs=>by
  rcases AU.mp (I.stkSub b hs)with e|e
  .exact(hf b hb).2.1 e
  .exact(hf b hb).2.2.1 e
 funs:=I.stack
 frf:=I.stkFree
noncomputable def Km (Bj:List Ah)(n:Nat):Obj:={cls:=.type "list",data:=.seq Bj.toArray n}
theorem jz (B:JO X scope x ns caps)(I:A6 X Ad U H s)(hC:C=s.heap.objs.size+1)(hf:∀b∈fp,Jr X Ad H b)(hfo:∀b∈fp,∃o,s.heap.get? b=some o)(hcl:∀y∈scope.names,y.2=.free->∃c,X.env.cells.lookup y.1=some c) :
  (GC X scope (El X.env scope.names []) C (x::(ns++caps.map (·.1))) fp Ad s H).Ok:=by
 have h:=az B.b I hC hf hfo hcl;exact{h with}
theorem uD {Q:VK}{RR:Ah->Av->Tz->Ap->Prop}(B:JO X scope x ns caps)(hc:X.calm=true)
  (he:∀cl C fp pn s H,PE (GC X scope cl C (x::(ns++caps.map (·.1))) fp pn s H) elt te) (hif:∀cl C fp pn s H,Im (GC X scope cl C (x::(ns++caps.map (·.1))) fp pn s H) ifs tt)
  (hg:∀cl C fp pn s H,PG (GC X scope cl C (x::(ns++caps.map (·.1))) fp pn s H) tgt g)
  (hRR:∀D C s' H' ys m,A6 X Ad U (CD H' D (.lst ys)) s'->Jr X Ad (CD H' D (.lst ys)) C->s'.heap.Ns C m->Q (.ref D) (CD H' D (.lst ys))->RR (.ref D) C (.ok .next) s')
  (h:YF X Ad U tgt (λJ H1=>∃ (n:Nat) (W:Nat->List V->Hp->Prop),W 0 [] H1/\∀ i ys H,W i ys H ->
   (J.stop i H/\ys.length<=Am/\∀p,H p=none->Q (.ref p) (CD H p (.lst ys))) \/
   (J.go i H/\i<n/\ys.length<Am/\∀ v H',J.yld i H v H'->∃ us:List V,us.length=ns.length+1/\(∀ (o:List (Option V)) (R:St->Hp->Prop),o.length=ns.length+1->R (Fb U caps (us.map some)) H'->g v (Fb U caps o) H' R)/\tt (Fb U caps (us.map some)) H' λb H2=>if b=true then te (Fb U caps (us.map some)) H2 λy H3=>W (i+1) (ys++[y]) H3 else W (i+1) ys H2)) it s₂) :
  Aq (Ax X.prog X.w) X.A (PU []) (λacc s₃=>Aq (Ax X.prog X.w) X.A (Nx scope X.env.globals (El X.env scope.names []) [] X.env.qual none .none (some X.env)) (λcenv s₄ =>
   DP (Ax X.prog X.w) X.A (.compStart (.ListComp elt [⟨tgt,iter,ifs,0⟩] scope pos) 0 it acc { cenv with scope:=relabel scope X.env }) (RR acc cenv.locals) s₄) E s₃) E s₂:=by
 obtain⟨itA,fp,tn,J,H2,e1',I2,T,st2,f2,n,W,w0,turn⟩:_:=h;have hcl:∀y∈scope.names,y.2=.free->∃c,X.env.cells.lookup y.1=some c:=λy hy hf=>I2.ok.has y.1 (B.b.hfree y hy hf);have hfo:∀b∈fp,∃o,s₂.heap.get? b=some o:=λb hb=>by obtain⟨o,e,_⟩:=T.obj _ _ st2 b hb;exact⟨o,e⟩
 refine BM (wpAny_newFunctionEnv B.b.hcell (by intro y hy;simp at hy) (λh₁ hns₁ hsb₁=>?_) B.b.kind);dsimp only at hns₁ hsb₁ ⊢;generalize hH2:s₂.heap.push {cls:=.type "list",dict:=none,data:=.seq ([]:List Ah).toArray}=G2 at hns₁ hsb₁ ⊢;have hC:G2.objs.size=s₂.heap.objs.size+1:=by rw[<- hH2,F8]
 have hDC:s₂.heap.objs.size≠G2.objs.size:=by rw[hC];exact A5 (Hc _)
 have old:∀b o,s₂.heap.get? b=some o->h₁.get? b=some o:=λb o e=>hsb₁.extBut b o (A5 (by rw[hC];exact EU (An e))) (Af _ (hH2 ▸ Af _ e));have hacc:=hsb₁.extBut _ _ hDC (Af _ (hH2 ▸ Ay _ rfl));have okY:=jz B I2 hC f2 hfo hcl;generalize hY:GC X scope (El X.env scope.names []) G2.objs.size (x::(ns++caps.map (·.1))) fp Ad s₂ H2=Y at okY;have freshD:=I2.hok.fresh (AJ _);have freshC:H2 G2.objs.size=none:=I2.hok.fresh (by ext)
 have IY:∀tk,A6 Y [(s₂.heap.objs.size,Km [] 0)] (Fb U caps (AE (ns.length+1) none)) H2 {s₂ with heap:=h₁,toks:=tk}:=λtk=>by
  subst hY;refine⟨okY,rfl,I2.bare,Un.kept old,⟨_,hns₁,λi y v e1 e2 e3=>?_⟩,λy c e=>?_,freshC,λy c e=>?_,λp hp=>?_,I2.hok.kept old,?_,I2.fzd⟩
  .by_cases hin:i<ns.length+1
   .have hx:(Fb U caps (AE (ns.length+1) none))[i]? = some none:=by
     unfold Fb;rw[Es (by simpa using hin),List.getElem?_replicate_of_lt hin]
    rw[hx]at e2;cases e2
   .obtain⟨j,rfl⟩:∃j,i=ns.length+1+j:=⟨i-(ns.length+1),by ext⟩
    have e1':(caps.map (·.1))[j]? = some y:=by
     have z:(x::(ns++caps.map (·.1)))[ns.length+1+j]? = some y:=e1;rw[<- D5,C7 (by simp)]at z;simpa[Hf]using z
    have e2':(caps.map λc=>(U[c.2]?).join)[j]? = some (some v):=by
     have z:=e2;unfold Fb at z;rw[C7 (by simp)]at z;simpa[Hf]using z
    rw[AL]at e1' e2';cases ec:caps[j]? with
    |none=>rw[ec]at e1';cases e1'
    |some c=>
     rw[ec]at e1' e2';have e1'':c.1=y:=by simpa using e1'
     have e2'':(U[c.2]?).join=some v:=by simpa using e2'
     have hv:U[c.2]? = some (some v):=by
      cases q:U[c.2]? with
      |none=>rw[q]at e2'';cases e2''
      |some w'=>rw[q]at e2'';rw[show w'=some v from e2'']
     obtain⟨k1,k2,k3⟩:=B.b.hcaps c (AG ec);obtain⟨m,_,hl⟩:=I2.loc;obtain⟨u,ru,lk⟩:=hl c.2 c.1 v k2 hv (.inr k3);refine⟨u,ru,.inr ?_⟩;rcases lk with⟨z,_⟩|⟨_,cc,ce,ci⟩
     .rcases k3 with k3|k3
      .rw[k3]at z;cases z
      .rw[k3]at z;cases z
     .obtain⟨c',hc'⟩:=hU scope.names [] (.inr (lookup_mem k1));have hs':=UI scope.names [] hcl (λ_ _ e=>by simp at e) _ _ hc';rw[ce]at hs';cases hs';refine⟨?_,cc,?_,?_⟩
      .rw[<- e1''];exact jX k1
      .rw[<- e1''];exact hc'
      .obtain⟨o,ho,hd⟩:=ci;exact⟨o,old _ _ ho,hd⟩
  .obtain⟨v,o,ho,hd⟩:=I2.cell y c (UI _ _ hcl (λ_ _ e=>by simp at e) _ _ e);exact⟨v,o,old _ _ ho,hd⟩
  .exact I2.freeC y c (UI _ _ hcl (λ_ _ e=>by simp at e) _ _ e)
  .rcases AH.mp hp with hp|hp
   .obtain⟨e,n,ne,nf,d⟩:=I2.pin p hp;refine⟨old _ _ e,n,λz=>?_,λhs=>?_,d⟩
    .exact absurd (show p.1=G2.objs.size from z) (A5 (by rw[hC];exact EU (An e)))
    .rcases AU.mp (I2.stkSub _ hs)with z|z
     .exact ne z
     .exact nf z
   .have e:p=(s₂.heap.objs.size,Km [] 0):=by simpa using hp
    subst e;refine⟨hacc,freshD,hDC,λhs=>?_,λv z=>by cases z⟩;rcases AU.mp (I2.stkSub _ hs)with z|z
    .exact absurd z (ET I2.lt)
    .exact I2.nofs (AJ _) z
  .simp[Fb,GC];ext
 have fpY:∀{H':Hp} {l:Obj},(∀b∈fp,H' b=none)->∀b∈fp,Jr Y [(s₂.heap.objs.size,l)] H' b:=λ{H' l} hn b hb=>by
  subst hY;obtain⟨o,ho⟩:=hfo b hb;have:=An ho;refine⟨hn b hb,(okY.exf b hb).1,okY.exfs b hb,.inl hb,(okY.exf b hb).2,λp hp=>?_⟩;rcases AH.mp hp with hp|hp
  .exact(f2 b hb).2.2.2.2.2 p hp
  .have e:p=(s₂.heap.objs.size,l):=by simpa using hp
   subst e;exact λz=>absurd (show s₂.heap.objs.size=b from z) (ET (An ho))
 have loop:∀s₃:Ap,s₃={s₂ with heap:=h₁,toks:=s₂.toks+([]:List (Str×Ah)).length} ->
   DP (Ax X.prog X.w) X.A (.compLoop (.ListComp elt [⟨tgt,iter,ifs,0⟩] scope pos) 0 (.ref itA) (.ref s₂.heap.objs.size) (Nz scope (El X.env scope.names []) G2.objs.size X.env))
    (RR (.ref s₂.heap.objs.size) G2.objs.size) s₃:=by
  rintro s₃ rfl
  refine Zc0 (λk s'=>∃i ys H' v Bj l,k+i=n+1/\v.length=ns.length+1/\A6 Y [(s₂.heap.objs.size,Km Bj l)] (Fb U caps v) H' s'/\tn i s'.heap/\(∀b∈fp,H' b=none)/\W i ys H'/\BF ys Bj) ?_ (n+1)
   ⟨0,[],H2,AE (ns.length+1) none,[],0,rfl,Ca,IY _,T.keep _ _ _ st2 λb hb o e=>old b o e,λb hb=>(f2 b hb).1,w0,.nil⟩
  intro k s';ext1⟨i,ys,H',v,Bj,l,hk,hv,J1,st,fr,w1,rv⟩
  have hYe:Y.prog=X.prog/\Y.w=X.w/\Y.K=X.K/\Y.calm=true/\Y.A=X.A/\Y.env=Nz scope (El X.env scope.names []) G2.objs.size X.env/\Y.N=x::(ns++caps.map (·.1))/\(∀e s,Y.xe e s->False)/\Y.fz=X.fz:=by
   subst hY;exact⟨rfl,rfl,rfl,hc,rfl,rfl,rfl,λ_ _ h=>h,rfl⟩
  obtain⟨y1,y2,y3,y4,y5,y6,y7,y8,yF⟩:_:=hYe;rcases turn i ys H' w1 with⟨stop,hz,qn⟩|⟨go,hin,hz,step⟩
  .have d:=T.done Y y1 y2 y3 yF y4 i _ s' _ H' (λ_ _=>False) J1 (fpY fr) st stop;rw[y5]at d;refine BI d (λr s4 ⟨hr,J4⟩=>?_) λ_ _ f=>f.elim;subst hr;have pD:=J4.pin (s₂.heap.objs.size,Km Bj l) (AR _ (by simp));obtain⟨m,hm,_⟩:=J4.loc;have hC4:s4.heap.Ns G2.objs.size m:=by subst hY;exact hm
   have fC:H' G2.objs.size=none:=by subst hY;exact J4.free
   have baseY:Un (PF X.stack) fp H2 H' s₂.heap s4.heap:=by subst hY;exact J4.base
   have hokY:Ix X.prog X.w H' s4.heap:=by rw[<- y1,<- y2];exact J4.hok
   have osY:s4.os=s₂.os:=by subst hY;exact J4.os
   have I4:=I2.call' osY baseY hokY J4.bare λb hb=>⟨(f2 b hb).2.2.2.1,(f2 b hb).2.1,(f2 b hb).2.2.2.2.1,(f2 b hb).2.2.2.2.2⟩;have fD4:=I2.fpOk (AJ _) pD.2.1;have fC4:=I2.fpOk (by ext) fC;have I5:A6 X Ad U (CD H' s₂.heap.objs.size (.lst ys)) s4:=I4.track fD4 ⟨hz,Bj,l,rv,pD.1⟩;refine hRR _ _ s4 H' ys m I5 ⟨by rw[Ij hDC.symm];exact fC4.1,fC4.2⟩ hC4 (qn _ pD.2.1)
  .have d:=T.item Y y1 y2 y3 yF y4 i _ s' _ H' (λ_ _=>False) J1 (fpY fr) st go;rw[y5]at d;refine BI d (λr s4 ⟨u,hr,h4⟩=>?_) λ_ _ f=>f.elim;subst hr;refine BI h4 (λ_ s5 ⟨v5,H5,J5,r5,yl5,st5,fr5⟩=>?_) λ_ _ f=>f.elim;have J5':=J5.pinned (fpY fr5) (T.obj _ _ st5);obtain⟨us,hus,hset,q5⟩:=step v5 H5 yl5;have hgY:=hg (El X.env scope.names []) G2.objs.size fp Ad s₂ H2;rw[hY]at hgY;have d6:=hgY _ s5 _ H5 v5 u (λU' H'=>U'=Fb U caps (us.map some)/\H5=H') J5' r5 (hset _ _ hv ⟨rfl,rfl⟩);rw[y1,y2,y5,y6]at d6;refine BI d6 (λ_ s6 ⟨U6,H6,J6,e6,e6'⟩=>?_) λe s z=>(y8 e s z).elim;subst e6 e6'
   have NC:∀{s7:Ap} {H7:Hp} {ys7:List V} {its7:List Ah} {l7:Nat},A6 Y [(s₂.heap.objs.size,Km its7 l7)] (Fb U caps (us.map some)) H7 s7->(∀b∈fp,∀o,s5.heap.get? b=some o->s7.heap.get? b=some o/\H7 b=none)->W (i+1) ys7 H7->BF ys7 its7 ->
     ∃m,m<k/\∃i ys H' v Bj l,m+i=n+1/\v.length=ns.length+1/\A6 Y [(s₂.heap.objs.size,Km Bj l)] (Fb U caps v) H' s7/\tn i s7.heap/\(∀b∈fp,H' b=none)/\W i ys H'/\BF ys Bj:=λ{s7 H7 ys7 its7 l7} K7 hb w7 r7=>by
    refine⟨k-1,by ext,i+1,ys7,H7,us.map some,its7,l7,by ext,by rw[Ae];exact hus,K7,T.keep _ _ _ st5 λb hb' o e=>(hb b hb' o e).1,λb hb'=>?_,w7,r7⟩;obtain⟨o,e,_⟩:=T.obj _ _ st5 b hb';exact(hb b hb' o e).2
   have pinD:∀{U7:St} {H7:Hp} {s7:Ap},A6 Y ([(s₂.heap.objs.size,Km Bj l)]++IK fp s5.heap) U7 H7 s7->(∀b∈fp,∀o,s5.heap.get? b=some o->s7.heap.get? b=some o/\H7 b=none):=λK7 b hb o e=>by
    have z:=K7.pin (b,o) (AR _ (AR _ (aG hb e)));exact⟨z.1,z.2.1⟩
   have dt:Aq (Ax X.prog X.w) X.A (forIn ifs true λc r=>if r=true then do let ok <- PX c (Nz scope (El X.env scope.names []) G2.objs.size X.env) (eval c (Nz scope (El X.env scope.names []) G2.objs.size X.env));pure (C8 ok)else pure (C8 r))
     (λok s7=>∃H7,A6 Y ([(s₂.heap.objs.size,Km Bj l)]++IK fp s5.heap) (Fb U caps (us.map some)) H7 s7/\(if ok=true then te (Fb U caps (us.map some)) H7 λy H3=>W (i+1) (ys++[y]) H3 else W (i+1) ys H7)) (λ_ _=>False) s6:=by
    have q:=q5;have pif:=hif (El X.env scope.names []) G2.objs.size fp Ad s₂ H2;rw[hY]at pif;cases pif with
    |nil=>exact Ab ⟨H5,J6,q⟩
    |one pt=>have z:=pt _ s6 _ H5 _ J6 q;rw[y1,y2,y5,y6]at z;exact wpAny_tests_one (BI z (λb s7 ⟨H7,J7,q7⟩=>⟨H7,J7,q7⟩) λe s z=>(y8 e s z).elim)
   refine BI dt (λok s7 ⟨H7,J7,q7⟩=>?_) λ_ _ f=>f.elim;cases ok with
   |false=>rw[if_neg Aj]at q7 ⊢;exact NC J7.unpinned (pinD J7) q7 rv
   |true=>
    rw[if_pos rfl]at q7 ⊢;have pe:=he (El X.env scope.names []) G2.objs.size fp Ad s₂ H2;rw[hY]at pe;have z:=pe _ s7 _ H7 _ J7 q7;rw[y1,y2,y5,y6]at z;refine BI z (λu8 s8 ⟨v8,H8,J8,r8,w8⟩=>?_) λe s z=>(y8 e s z).elim;have pD:=J8.pin (s₂.heap.objs.size,Km Bj l) (AR _ (BB _ (by simp)));have lits:=rv.length;refine wpAny_list_append_plain ⟨l,pD.1⟩ λh9 pl9 sb9=>?_;obtain⟨l9,e9⟩:=pl9
    have J9:A6 Y (IK fp s5.heap) (Fb U caps (us.map some)) H8 {s8 with heap:=h9}:=by
     refine(J8.pins_of λp hp=>J8.pin p (AR _ (AR _ hp))).turned (λb o hb e=>(sb9.2 b hb).trans e) pD.2.1 pD.2.2.1 ?_ (λy c e z=>?_) λp hp z=>?_
     .subst hY;exact .inr (AJ _)
     .obtain⟨v',o',ho',hd'⟩:=J8.cell y c e;rw[z,pD.1]at ho';cases ho';exact pD.2.2.2.2 _ hd'
     .rcases AH.mp hp with hp|hp
      .have hp':p∈X.pn++Ad:=by subst hY;exact hp
       exact absurd z (A5 (An (I2.pin p hp').1))
      .obtain⟨hb,_⟩:=sR hp;obtain⟨o,ho⟩:=hfo _ hb;exact absurd z (A5 (An ho))
    have J10:A6 Y [(s₂.heap.objs.size,Km (Bj++[u8]) l9)] (Fb U caps (us.map some)) H8 {s8 with heap:=h9}:=J9.pins_of λp hp=>by
     have e:p=(s₂.heap.objs.size,Km (Bj++[u8]) l9):=by simpa using hp
     subst e;refine⟨?_,pD.2.1,pD.2.2.1,pD.2.2.2.1,λv z=>by cases z⟩;rw[e9];simp[Km]
    refine NC J10 (λb hb o e=>?_) w8 (rv.append (.cons r8 .nil));have z:=J9.pin (b,o) (AR _ (aG hb e));exact⟨z.1,z.2.1⟩
 exact codeAny_compStart_list (loop _ rfl) (T.self _ 0 _ _ _ (T.keep _ _ _ st2 λb hb o e=>old b o e) (loop _ rfl))
theorem Yx {Q:VK}{RR:Ah->Av->Tz->Ap->Prop}(B:Ei X scope x caps)(hc:X.calm=true)
  (he:∀cl C fp pn s H,PE (GC X scope cl C (x::caps.map (·.1)) fp pn s H) elt te) (hif:∀cl C fp pn s H,Im (GC X scope cl C (x::caps.map (·.1)) fp pn s H) ifs tt)
  (hRR:∀D C s' H' ys m,A6 X Ad U (CD H' D (.lst ys)) s'->Jr X Ad (CD H' D (.lst ys)) C->s'.heap.Ns C m->Q (.ref D) (CD H' D (.lst ys))->RR (.ref D) C (.ok .next) s')
  (h:YF X Ad U (.Name x px) (λJ H1=>∃ (n:Nat) (W:Nat->List V->Hp->Prop),W 0 [] H1/\∀ i ys H,W i ys H ->
   (J.stop i H/\ys.length<=Am/\∀p,H p=none->Q (.ref p) (CD H p (.lst ys))) \/
   (J.go i H/\i<n/\ys.length<Am/\∀ v H',J.yld i H v H'->tt (MT U caps (some v)) H' λb H2=>if b=true then te (MT U caps (some v)) H2 λy H3=>W (i+1) (ys++[y]) H3 else W (i+1) ys H2)) it s₂) :
  Aq (Ax X.prog X.w) X.A (PU []) (λacc s₃=>Aq (Ax X.prog X.w) X.A (Nx scope X.env.globals (El X.env scope.names []) [] X.env.qual none .none (some X.env)) (λcenv s₄ =>
   DP (Ax X.prog X.w) X.A (.compStart (.ListComp elt [⟨.Name x px,iter,ifs,0⟩] scope pos) 0 it acc { cenv with scope:=relabel scope X.env }) (RR acc cenv.locals) s₄) E s₃) E s₂:=by
 refine uD (ns:=[]) (tgt:=.Name x px) (g:=KW 0) ⟨B,rfl,B.nd⟩ hc he hif (λcl C fp pn s H=>JM B.nd rfl (.inl (Rm B.var)) (.inr (Rm B.var))) hRR ?_;obtain⟨itA,fp,tn,J,H2,e,I2,T,st2,f2,n,W,w0,turn⟩:_:=h;refine⟨itA,fp,tn,J,H2,e,I2,T,st2,f2,n,W,w0,λi ys H w=>(turn i ys H w).imp id λ⟨z1,z2,z3,st⟩=>⟨z1,z2,z3,λv H' y=>⟨[v],rfl,λo R ho q=>?_,st v H' y⟩⟩⟩;cases o with
 |nil=>cases ho
 |cons o r=>cases AC (GH ho);exact q
theorem ZK (B:Ei X scope x caps)(hc:X.calm=true)(hi:PI X (.Name x px) iter wi)
  (he:∀cl C fp pn s H,PE (GC X scope cl C (x::caps.map (·.1)) fp pn s H) elt te) (hif:∀cl C fp pn s H,Im (GC X scope cl C (x::caps.map (·.1)) fp pn s H) ifs tt)
  (hs:∀x,BC iter X.env x=pure x:=by intro _;rfl):PE X (.ListComp elt [⟨.Name x px,iter,ifs,0⟩] scope pos) (JZ wi caps tt te):=by
 intro Ad s U H Q I h;rw[eval_ListComp];have hcl:∀y∈scope.names,y.2=.free->∃c,X.env.cells.lookup y.1=some c:=λy hy hf=>I.ok.has y.1 (B.hfree y hy hf);refine Ht rfl hs (jP hcl) B.kind B.hloc (Do (hi Ad s U H _ I h) λv s1 h1=>Do h1 λitv s2 h2=>?_);refine Yx B hc he hif (λD C s' H' ys m I' f' hn q=>?_) h2;refine⟨m,hn,λh' sb=>⟨.ref D,CD H' D (.lst ys),?_,rfl,q⟩⟩;obtain⟨g0,g1,g2,g3,g4,g5⟩:=f';exact I'.turned (λb o hb e=>(sb.2 b hb).trans e) g0 g1 g3 g4 g5
theorem m6 (hN:X.N.Nodup)(hi0:X.N[i]? = some y)(hy:X.env.scope.names.lookup y=some .local)(B:Ei X scope x caps)(hc:X.calm=true)(hi:PI X (.Name x px) iter wi)
  (he:∀cl C fp pn s H,PE (GC X scope cl C (x::caps.map (·.1)) fp pn s H) elt te) (hif:∀cl C fp pn s H,Im (GC X scope cl C (x::caps.map (·.1)) fp pn s H) ifs tt)
  (hsw:EE (.ListComp elt [⟨.Name x px,iter,ifs,0⟩] scope pos) (some (.Name y py)) spos.line X.env=pure true:=by rfl)
  (hs:∀x,BC iter X.env x=pure x:=by intro _;rfl):PS X (.Assign [.Name y py] (.ListComp elt [⟨.Name x px,iter,ifs,0⟩] scope pos) spos) (O3 (JZ wi caps tt te) (KW i)):=by
 intro Ad s U H D I h;rw[exec_Assign_Name_used _ _ _ _ hsw];refine Aa (Kq (Aa ?_));show Aq _ X.A (do let _ <- comprehension (.ListComp elt [⟨.Name x px,iter,ifs,0⟩] scope pos) scope X.env _ (PU []) false (eval iter X.env) (some (KH (.Name y py) X.env))) _ _ s;have hcl:∀y∈scope.names,y.2=.free->∃c,X.env.cells.lookup y.1=some c:=λy hy hf=>I.ok.has y.1 (B.hfree y hy hf)
 refine Aa (BI (Ht rfl hs (jP hcl) B.kind B.hloc (Do (hi Ad s U H _ I h) λv s1 h1=>Do h1 λitv s2 h2=>?_))
  (λ_ s' hq=>Ab (Ab hq)) λ_ _ e=>e)
 refine Yx (Q:=λv H'=>D.nx (U.set i (some v)) H') (RR:=λacc C=>compPost (Ax X.prog X.w) X.A X.xe (some (KH (.Name y py) X.env)) (λ_ s'=>SP X Ad D .next s') acc C) B hc he hif (λD' C s' H' ys m I' f' hn q=>?_) h2;show Aq _ _ (KH (.Name y py) X.env (.ref D')) _ _ s';obtain⟨g0,g1,g2,g3,g4,g5⟩:=f';refine U0 (tN I' hN hi0 (.inl hy) (v:=.ref D') rfl (λs'' I'' sb=>?_) (.inr hy));obtain⟨a,sb,ha⟩:=sb
 have nC:C≠a:=by
  rcases ha with rfl|ha
  .exact g1
  .exact λz=>g4 _ _ ha z.symm
 refine⟨m,hn.sameBut sb nC,λh' sb'=>⟨U.set i (some (.ref D')),CD H' D' (.lst ys),?_,q⟩⟩;exact I''.turned (λb o hb e=>(sb'.2 b hb).trans e) g0 g1 g3 g4 g5
end
section
variable {K:Ac}{a:Av}{xs:List V}{caps:List (Str×Nat)}{tt:TT}{te:TE}{U:St}{H:Hp}{Q:VK}
end
section
variable {κ:Type}[DecidableEq κ]
noncomputable def FI (AQ:List (κ×V))(k:κ):Option V:=(AQ.find? λkv=>decide (kv.1=k)).map (·.2)
noncomputable def putK (AQ:List (κ×V))(k:κ)(v:V):List (κ×V):=
 if (AQ.any λkv=>decide (kv.1=k))=true then AQ.map (λkv=>if kv.1=k then(kv.1,v)else kv)else AQ++[(k,v)]
theorem iT {p:κ×V}{r:List (κ×V)}{k:κ}(e:p.1=k):FI (p::r) k=some p.2:=by simp[FI,BZ,e]
theorem iS {p:κ×V}{r:List (κ×V)}{k:κ}(e:¬p.1=k):FI (p::r) k=FI r k:=by simp[FI,BZ,e]
theorem rG (k:κ):∀AQ,(AQ.any λkv=>decide (kv.1=k))=(FI AQ k).isSome
 |[]=>rfl
 |p::r=>by
  rw[FX];by_cases e:p.1=k
  .simp only[iT e,decide_eq_true e,Bool.true_or,Oo]
  .rw[iS e,decide_eq_false e,TQ];exact rG k r
theorem aD (AQ:List (κ×V))(k:κ)(v:V):(putK AQ k v).length<=AQ.length+1:=by
 unfold putK;split
 .rw[Ae];ext
 .rw[Ao,AO,FD];ext
theorem Il.isSome_eq (r:Il o u):o.isSome=u.isSome:=by
 cases o with
 |none=>cases u with
  |none=>rfl
  |some _=>exact(show False from r).elim
 |some _=>cases u with
  |none=>exact(show False from r).elim
  |some _=>rfl
theorem KV.val {AQ:List (κ×V)}{vs:List (κ×Ah)}(r:KV AQ vs)(k:κ):Il (FI AQ k) (JP vs k):=by
 unfold KV at r;induction r with
 |nil=>exact Ch
 | @cons p q ps qs h t ih=>
  obtain⟨h1,h2⟩:=h;by_cases e:p.1=k
  .have e':=h1.symm.trans e;have b:JP (q::qs) k=some q.2:=by simp[JP,BZ,e']
   rw[iT e,b];exact h2
  .have e':¬q.1=k:=λz=>e (h1.trans z);have b:JP (q::qs) k=JP qs k:=by simp[JP,BZ,e']
   rw[iS e,b];exact ih
theorem KV.any (r:KV AQ vs)(k:κ):(AQ.any λkv=>decide (kv.1=k))=vs.any λkv=>decide (kv.1=k):=by
 unfold KV at r;induction r with
 |nil=>rfl
 |cons h t ih=>rw[FX,FX,ih,h.1]
theorem KV.repl (r:KV AQ vs)(k:κ)(ry:RelV y u) :
  KV (AQ.map λkv=>if kv.1=k then(kv.1,y)else kv) (vs.map λkv=>if kv.1=k then(kv.1,u)else kv):=by
 unfold KV at r ⊢;induction r with
 |nil=>exact .nil
 | @cons p q ps qs h t ih=>
  rw[AM,AM];refine .cons ?_ ih;obtain⟨h1,h2⟩:=h;by_cases e:p.1=k
  .rw[if_pos e,if_pos (h1.symm.trans e)];exact⟨h1,ry⟩
  .rw[if_neg e,if_neg (λz=>e (h1.trans z))];exact⟨h1,h2⟩
theorem KV.put (r:KV AQ vs)(k:κ)(ry:RelV y u):KV (putK AQ k y) (stored vs k u):=by
 unfold putK stored;rw[r.any k];by_cases e:(vs.any λkv=>decide (kv.1=k))=true
 .rw[if_pos e,if_pos e];exact r.repl k ry
 .rw[if_neg e,if_neg e];exact TH r ⟨rfl,ry⟩
theorem KV.keys {AQ:List (κ×V)}{vs:List (κ×Ah)}(r:KV AQ vs):AQ.map (·.1)=vs.map (·.1):=by
 unfold KV at r;induction r with
 |nil=>rfl
 |cons h t ih=>rw[AM,AM,ih,h.1]
theorem KV.length {AQ:List (κ×V)}{vs:List (κ×Ah)}(r:KV AQ vs):AQ.length=vs.length:=DV r
end
theorem R5 (r:RelV (kV k) u):(BU P w).is k u=true:=by
 cases k with
 |inl i=>obtain⟨t,e⟩:=(show∃t,u=DB i t from r);subst e;exact yy P w i t
 |inr x=>obtain⟨t,e⟩:=(show∃t,u=C2 x t from r);subst e;exact yz P w x t
theorem tE :∀{ks:List Cd}{us:List Ah},BF (ks.map kV) us->ItemsAre (BU P w) ks us
 |[],_,r=>by rw[CY]at r;cases r;exact .nil
 |k::ks,_,r=>by
  rw[AM]at r;cases r with
  |cons h t=>exact .cons (R5 h) (tE t)
abbrev KT (H:Hp):List (List Cd×V)->List (List Cd×Av×Ah)->Prop:=DW λp q=>p.1=q.1/\H q.2.1=some (.tup (p.1.map kV))/\RelV p.2 q.2.2
theorem KT.val {H:Hp}{AQ:List (List Cd×V)}{xs:List (List Cd×Av×Ah)}(r:KT H AQ xs)(k:List Cd):Il (FI AQ k) ((Pn xs k).map (·.2)):=by
 induction r with
 |nil=>exact Ch
 | @cons p q ps qs h t ih=>
  obtain⟨h1,_,h2⟩:=h;by_cases e:p.1=k
  .have e':=h1.symm.trans e;have b:Pn (q::qs) k=some q.2:=by simp[Pn,BZ,e']
   rw[iT e,b];exact h2
  .have e':¬q.1=k:=λz=>e (h1.trans z);have b:Pn (q::qs) k=Pn qs k:=by simp[Pn,BZ,e']
   rw[iS e,b];exact ih
theorem KT.repl (r:KT H AQ xs)(k:List Cd)(ry:RelV y u) :
  KT H (AQ.map λkv=>if kv.1=k then(kv.1,y)else kv) (xs.map (putAt k u)):=by
 induction r with
 |nil=>exact .nil
 | @cons p q ps qs h t ih=>
  rw[AM,AM];refine .cons ?_ ih;obtain⟨h1,h2,h3⟩:=h;unfold putAt;by_cases e:p.1=k
  .rw[if_pos e,if_pos (h1.symm.trans e)];exact⟨h1,h2,ry⟩
  .rw[if_neg e,if_neg (λz=>e (h1.trans z))];exact⟨h1,h2,h3⟩
theorem KT.put (r:KT H AQ xs)(k:List Cd)(hb:H b=some (.tup (k.map kV)))(ry:RelV y u) :
  KT H (putK AQ k y) (storedH xs k b u):=by
 have e:(AQ.any λkv=>decide (kv.1=k))=(Pn xs k).isSome:=by
  rw[rG,(r.val k).isSome_eq,Ny]
 unfold putK storedH;rw[e];by_cases q:(Pn xs k).isSome=true
 .rw[if_pos q,if_pos q];exact r.repl k ry
 .rw[if_neg q,if_neg q];exact TH r ⟨rfl,hb,ry⟩
theorem KT.keeps (r:KT H AQ xs)(ht:∀b ys,H b=some (.tup ys)->H' b=some (.tup ys)):KT H' AQ xs:=
 DW.mapP r λ_ _ z=>⟨z.1,ht _ _ z.2.1,z.2.2⟩
section
theorem nE (ok:Ix P w H h)(e:Rd H a u):CQ P w H h a u:=e.ok ok
theorem Ra (ok:Ix P w H h)(e:Rd H a (.dK AQ)):AQ.length<=Am/\(a == EY)=false/\∃vs,KV AQ vs/\h.DictOf (BU P w) a vs:=
 show CQ P w H h a (.dK AQ)from nE ok e
theorem fX (ok:Ix P w H h)(e:H a=some (.dK AQ)):AQ.length<=Am/\(a == EY)=false/\∃vs,KV AQ vs/\h.DictOf (BU P w) a vs:=Ra ok (.inl e)
theorem Yk (ok:Ix P w H h)(e:H a=some (.tup (ks.map kV))):(LM (BU P w)).is h ks a:=by
 obtain⟨_,Bj,r,o,h1,h2,n,h3,_⟩:=(show CQ P w H h a (.tup (ks.map kV))from ok a _ e);exact⟨o,Bj.toArray,n,h1,h2,h3,by simpa using tE r⟩
theorem Vx (ok:Ix P w H h)(e:Rd H a (.dT AQ)):AQ.length<=Am/\(a == EY)=false /\
  ∃xs,KT H AQ xs/\h.DictOfH (LM (BU P w)) a xs:=by
 obtain⟨z,y,xs,r,o,es,ep,h1,h2,h3,h4,h5⟩:=(show CQ P w H h a (.dT AQ)from nE ok e);refine⟨z,y,xs,r,o,es,ep,h1,h2,h3,h4,λx hx=>?_,h5⟩
 have all:∀{l:List (List Cd×V)} {m:List (List Cd×Av×Ah)},KT H l m->∀x∈m,(LM (BU P w)).is h x.1 x.2.1:=by
  intro l m q;induction q with
  |nil=>intro x hx;exact nomatch hx
  | @cons p q ps qs hq t ih=>
   intro x hx;rcases AU.mp hx with e|hx
   .subst e;exact Yk ok (by rw[<- hq.1];exact hq.2.1)
   .exact ih x hx
 exact all r x hx
theorem xP (ok:Ix P w H h)(e:H a=some (.dT AQ)):AQ.length<=Am/\(a == EY)=false /\
  ∃xs,KT H AQ xs/\h.DictOfH (LM (BU P w)) a xs:=Vx ok (.inl e)
end
def QJ (H:Hp)(a:Av)(y:V)(r:Option V):Prop:=
 (∃AQ k,Rd H a (.dK AQ)/\y=kV k/\r=FI AQ k)\/∃AQ k b,Rd H a (.dT AQ)/\y=.ref b/\H b=some (.tup (k.map kV))/\r=FI AQ k
def QI (H:Hp)(a:Av)(y v:V)(H':Hp):Prop:=
 (∃AQ k,H a=some (.dK AQ)/\y=kV k/\AQ.length<Am/\H'=CD H a (.dK (putK AQ k v))) \/
 ∃AQ k b,H a=some (.dT AQ)/\y=.ref b/\H b=some (.tup (k.map kV))/\AQ.length<Am/\H'=CD H a (.dT (putK AQ k v))
theorem QI.k {k:Cd}(e:H a=some (.dK AQ))(hl:AQ.length<Am):QI H a (kV k) v (CD H a (.dK (putK AQ k v))):=.inl ⟨AQ,k,e,rfl,hl,rfl⟩
section
theorem A6.big (I:A6 X Ad U H s):EY<s.heap.objs.size:=by
 have h:=(I.mod.glob.keeps I.bk).lt;exact Nat.lt_trans (by decide) h
theorem rm (hu:A.units+1<Dk)(I:A6 X Ad U H s)(g:QJ H a y (some v))(ry:RelV y u)(h:∀w' s',A6 X Ad U H s'->RelV v w'->Q w' s') :
  Aq (Ax X.prog X.w) A (JS (.ref a) u) Q E s:=by
 rcases g with⟨AQ,k,e,ey,l⟩|⟨AQ,k,b,e,ey,eb,l⟩
 .subst ey;obtain⟨z,hd,vs,rel,dd⟩:=Ra I.hok e;obtain⟨w',hw,rw'⟩:=Il.some_of (by rw[l];exact rel.val k);exact V4 (R5 ry) dd.mapOf hw (h w' _ (I.tok _) rw')
 .subst ey;cases(show u=AF b from ry);obtain⟨z,hd,xs,rel,dd⟩:=Vx I.hok e;obtain⟨w',hw,rw'⟩:=Il.some_of (by rw[l];exact rel.val k);obtain⟨p,hp,hp2⟩:=EN.mp hw;refine wpAny_getItem_heap (GP hu) (Yk I.hok eb) dd hp ?_;rw[hp2];exact h w' _ (I.tok _) rw'
theorem fK (hu:A.units+1<Dk)(I:A6 X Ad U H s)(g:QJ H a y o)(ry:RelV y u)(h:∀s',A6 X Ad U H s'->Q (.bool o.isSome) s') :
  Aq (Ax X.prog X.w) A (Bd .In u (.ref a)) Q E s:=by
 rcases g with⟨AQ,k,e,ey,l⟩|⟨AQ,k,b,e,ey,eb,l⟩
 .subst ey;obtain⟨z,hd,vs,rel,dd⟩:=Ra I.hok e;refine wpAny_in_of (R5 ry) hd dd.mapOf ?_;rw[<- (rel.val k).isSome_eq,<- l];exact h _ (I.tok _)
 .subst ey;cases(show u=AF b from ry);obtain⟨z,hd,xs,rel,dd⟩:=Vx I.hok e;refine wpAny_in_heap (GP hu) (Yk I.hok eb) hd dd ?_;have q:=(rel.val k).isSome_eq;rw[Ny]at q;rw[<- q,<- l];exact h _ (I.tok _)
theorem j5 (hu:A.units+1<Dk)(I:A6 X Ad U H s)(g:QJ H a y o)(ry:RelV y u)(h:∀s',A6 X Ad U H s'->Q (.bool (!o.isSome)) s') :
  Aq (Ax X.prog X.w) A (Bd .NotIn u (.ref a)) Q E s:=by
 rcases g with⟨AQ,k,e,ey,l⟩|⟨AQ,k,b,e,ey,eb,l⟩
 .subst ey;obtain⟨z,hd,vs,rel,dd⟩:=Ra I.hok e;refine wpAny_notIn_of (R5 ry) hd dd.mapOf ?_;rw[<- (rel.val k).isSome_eq,<- l];exact h _ (I.tok _)
 .subst ey;cases(show u=AF b from ry);obtain⟨z,hd,xs,rel,dd⟩:=Vx I.hok e;refine wpAny_notIn_heap (GP hu) (Yk I.hok eb) hd dd ?_;have q:=(rel.val k).isSome_eq;rw[Ny]at q;rw[<- q,<- l];exact h _ (I.tok _)
theorem ZO (I:A6 X Ad U H s)(mu:YG (H a))(hs:By a s.heap h')(he:∃q,h'.get? a=some q)(new:CQ X.prog X.w (CD H a ob) h' a ob) :
  A6 X Ad U (CD H a ob) {s with heap:=h',toks:=t' }:=
 I.write mu (.inl rfl) (λb q hb z=>(hs.2 b hb).trans z) he new
theorem ZF (z:AQ.length<=Am)(hd:(a == EY)=false)(rel:KV AQ vs)(dd:h'.DictOf (BU P w) a vs) :
  CQ P w H' h' a (.dK AQ):=⟨z,hd,vs,rel,dd⟩
theorem rz (hu:A.units+1<Dk)(I:A6 X Ad U H s)(g:QI H a y v H')(ry:RelV y u)(rv:RelV v r)(h:∀s',A6 X Ad U H' s'->Q () s') :
  Aq (Ax X.prog X.w) A (setItem (.ref a) u r) Q E s:=by
 rcases g with⟨AQ,k,e,ey,l,eH⟩|⟨AQ,k,b,e,ey,eb,l,eH⟩
 .subst ey eH;obtain⟨z,hd,vs,rel,dd⟩:=fX I.hok e;have hz:vs.length<=Am:=by rw[<- rel.length];exact z
  have hl:(putK AQ k v).length<=Am:=by have:=aD AQ k v;ext
  refine wpAny_setItem_pairs (R5 ry) dd λh' dd' hs=>h _ ?_;have he:∃q,h'.get? a=some q:=let ⟨q,_,_,hq,_⟩:=dd';⟨q,hq⟩;exact ZO I (by rw[e];exact Ch) hs he (ZF hl hd (rel.put k rv) dd')
 .subst ey eH;cases(show u=AF b from ry);obtain⟨z,hd,xs,rel,dd⟩:=xP I.hok e;have hz:xs.length<=Am:=by rw[<- DV rel];exact z
  have hl:(putK AQ k v).length<=Am:=by have:=aD AQ k v;ext
  refine wpAny_setItem_heap (GP hu) (Yk I.hok eb) dd λh' dd' hs=>h _ ?_;obtain⟨q,es,ep,hq,h2,h3,h4,_,h5⟩:=dd';refine ZO I (by rw[e];exact Ch) hs ⟨q,hq⟩ ⟨hl,hd,_,(rel.put k eb rv).keeps λc ys ec=>?_,q,es,ep,hq,h2,h3,h4,h5⟩;rw[Ij (xT ec e (λz=>nomatch z))];exact ec
end
section
end
def UU (i:Cb):Prop:=∀ov iv,Ml i false ov iv=operate [ov,iv] (JS ov iv)
theorem mr {T id:String}
  (hl:Nv (.type T) "__getitem__" = pure (some (.builtin id))) (hs:UU slice)
  (h:Aq (Ax prog w) A (eval value env) (λo s₁=>Aq (Ax prog w) A (eval slice env) (λi s₂=>s₂.TypeIs o T/\Aq (Ax prog w) A (JS o i) Q E s₂) E s₁) E s) :
  Aq (Ax prog w) A (eval (.Subscript value slice pos) env) Q E s:=by
 refine Tw (BI h (λo s₁ h₁=>BI h₁ (λi s₂ h₂=>?_) λ_ _ x=>x) λ_ _ x=>x);obtain⟨hT,h₂⟩:=h₂;unfold ON;refine Aa ?_;rw[getitemInPython_of_ne hT.not_modules];refine Aa (MD hT hl ?_)
 have fin:Aq (Ax prog w) A (Ml slice false o i) (λr s₃=>Aq (Ax prog w) A (letTemporaryGo value o r >>= λ_=>pure r) Q E s₃) E s₂:=by
  rw[hs o i];exact wpAny_operating (BI h₂ (λr s₃ h₃=>Aa (wpAny_letTemporaryGo (Ab h₃))) λ_ _ x=>x)
 first
  |exact Ab (Aa fin)
  |exact Aa (Ab (Aa fin))
  |exact Aa fin
theorem xp (I:A6 X Ad U H s)(g:QJ H a y o):s.TypeIs (.ref a) "dict":=by
 rcases g with⟨AQ,k,e,_,_⟩|⟨AQ,k,b,e,_,_,_⟩
 .obtain⟨_,_,vs,_,dd⟩:=Ra I.hok e;exact dd.typeIs
 .obtain⟨_,_,xs,_,dd⟩:=Vx I.hok e;exact dd.typeIs
def Xc (td ty:TE):TE:=λU H Q=>td U H λx H1=>ty U H1 λy H2=>∃a v,x=.ref a/\QJ H2 a y (some v)/\Q v H2
def Xn (td ty tv:TE):TS:=λD U H=>tv U H λv H1=>td U H1 λx H2=>ty U H2 λy H3=>∃a H4,x=.ref a/\QI H3 a y v H4/\D.nx U H4
section
theorem k6 (hu:X.A.units+1<Dk)(ho:PE X o td)(hi:PE X i ty)(hs:UU i):PE X (.Subscript o i pos) (Xc td ty):=by
 intro Ad s U H Q I h;refine mr PySem.F.slot_dict_getitem.lookup hs (Do (ho Ad s U H _ I h) λu s1 e=>e.el λx H1 I1 rx q1=>Do (hi Ad s1 U H1 _ I1 q1) λiv s2 e=>e.el λy H2 I2 ry ⟨a,v,ex,g,q2⟩=>?_);subst ex;obtain rfl:u=AF a:=rx;exact⟨xp I2 g,rm hu I2 g ry λw' s3 I3 rw'=>⟨v,H2,I3,rw',q2⟩⟩
theorem m7 (hu:X.A.units+1<Dk)(ho:PE X o td)(hi:PE X i ty)(hv:PE X value tv)(hs:EE value (some (.Subscript o i pos')) pos.line X.env=pure false) :
  PS X (.Assign [.Subscript o i pos'] value pos) (Xn td ty tv):=by
 intro Ad s U H D I h;refine wpAny_Assign_Subscript (Do (hv Ad s U H _ I h) λr s1 e=>e.el λv H1 I1 rv q1=>Do (ho Ad s1 U H1 _ I1 q1) λu s2 e=>e.el λx H2 I2 rx q2=>Do (hi Ad s2 U H2 _ I2 q2) λiv s3 e=>e.el λy H3 I3 ry ⟨a,H4,ex,g,q3⟩=>?_) hs;subst ex;obtain rfl:u=AF a:=rx;exact rz hu I3 g ry rv λs4 I4=>⟨U,H4,I4,q3⟩
end
theorem rR (h:CU)(hb:EY<h.objs.size):CQ P w H (h.push {cls:=.type "dict",data:=.dict #[]}) h.objs.size (.dK []):=
 ⟨C9 _,beq_eq_false_iff_ne.mpr (Bg (A5 hb)),[],.nil,Ni h⟩
def T0:TE:=λ_ H Q=>∀p,H p=none->Q (.ref p) (CD H p (.dK []))
section
theorem qp:PE X (.Dict [] [] pos) T0:=λAd s U H Q I h=>
 wpAny_Dict_empty ⟨.ref s.heap.objs.size,_,I.laid (λ_ _ q=>Af _ q) (AJ _) (rR s.heap I.big),rfl,h _ (I.hok.fresh (AJ _))⟩
end
def NV:List (TE×TE)->St->Hp->(List (V×V)->Hp->Prop)->Prop
 |[],_,H,Q=>Q [] H
 |(tk,tv)::r,U,H,Q=>tk U H λx H1=>tv U H1 λy H2=>NV r U H2 λps H3=>Q ((x,y)::ps) H3
abbrev VV:List (V×V)->List (Ah×Ah)->Prop:=DW λp q=>RelV p.1 q.1/\RelV p.2 q.2
def aX (X:Cx)(pos:Pos)(keys:List (Option Cb))(values:List Cb)(trs:List (TE×TE)):Prop:=
 ∀(Ad:List (Av×Obj)) (s:Ap) (U:St) (H:Hp) (Q:List (V×V)->Hp->Prop),A6 X Ad U H s->NV trs U H Q ->
  Aq (Ax X.prog X.w) X.A (evalPairs (pairTrees keys values X.env pos)) (λvs s'=>∃ps H',A6 X Ad U H' s'/\VV ps vs/\Q ps H') X.xe s
theorem mz :aX X pos [] [] []:=λAd s U H Q I h=>pairTrees_nil_walk ⟨[],H,I,.nil,h⟩
theorem ZX (hk:PE X k tk)(hv:PE X v tv)(hr:aX X pos ks vs trs) :
  aX X pos (some k::ks) (v::vs) ((tk,tv)::trs):=λAd s U H Q I h=>
 pairTrees_cons_walk (Do (hk Ad s U H _ I h) λu s1 ⟨x,H1,I1,rx,q1⟩=>Do (hv Ad s1 U H1 _ I1 q1) λw2 s2 ⟨y,H2,I2,ry,q2⟩ =>
  Do (hr Ad s2 U H2 _ I2 q2) λws s3 ⟨ps,H3,I3,rel,q3⟩=>⟨(x,y)::ps,H3,I3,.cons ⟨rx,ry⟩ rel,q3⟩)
noncomputable def mergeK (AQ more:List (Cd×V)):List (Cd×V):=more.foldl (λacc kv=>putK acc kv.1 kv.2) AQ
theorem KV.merge:∀{more:List (Cd×V)}{rs:List (Cd×Ah)}{AQ:List (Cd×V)}{vs:List (Cd×Ah)},KV more rs->KV AQ vs->KV (mergeK AQ more) (Jy vs rs):=by
 intro more rs AQ vs r;unfold KV at r;induction r generalizing AQ vs with
 |nil=>intro q;exact q
 | @cons p q ps qs h t ih=>
  intro r0
  have e:KV (putK AQ p.1 p.2) (stored vs q.1 q.2):=by
   have:=r0.put p.1 h.2;rw[<- h.1];exact this
  exact ih e
theorem vZ:∀(more AQ:List (Cd×V)),(mergeK AQ more).length<=AQ.length+more.length
 |[],AQ=>by show AQ.length<=AQ.length+0;ext
 |p::r,AQ=>by
  have h1:=vZ r (putK AQ p.1 p.2);have h2:=aD AQ p.1 p.2;show(mergeK (putK AQ p.1 p.2) r).length<=_;rw[AO];ext
theorem uB :∀{AQ:List (Cd×V)}{ws:List (Ah×Ah)},VV (AQ.map λkv=>(kV kv.1,kv.2)) ws->∃rs,Carries (BU P w) ws rs/\KV AQ rs
 |[],_,r=>by rw[CY]at r;cases r;exact⟨[],Ch,.nil⟩
 |p::AQ,_,r=>by
  rw[AM]at r;cases r with
  | @cons a b as bs h t=>obtain⟨rs,c,q⟩:=uB t;obtain⟨b1,b2⟩:=b;exact⟨(p.1,b2)::rs,⟨R5 h.1,rfl,c⟩,.cons ⟨rfl,h.2⟩ q⟩
def Xb (trs:List (TE×TE)):TE:=λU H Q=>∀p,H p=none->NV trs U (CD H p (.dK [])) λps H2=>H2 p=some (.dK [])/\∃AQ,ps=AQ.map (λkv=>(kV kv.1,kv.2))/\AQ.length<=15/\Q (.ref p) (CD H2 p (.dK (mergeK [] AQ)))
theorem k7 (h:aX X pos keys values trs)(hall:keys.all (·.isSome)=true)(hl:keys.length=values.length)(h0:keys≠[])
  (h15:keys.length<=15):PE X (.Dict keys values pos) (Xb trs):=by
 intro Ad s U H Q I q;have hn:=I.hok.fresh (AJ s.heap.objs.size);have I1:=I.laid (a:=s.heap.objs.size) (o:=.dK []) (h':=s.heap.push {cls:=.type "dict",data:=.dict #[]}) (t':=s.toks) (λ_ _ q=>Af _ q) (AJ _) (rR s.heap I.big);refine wpAny_Dict_walk (knd:=BU X.prog X.w) hall hl h0 h15 (Do (h Ad _ U _ _ I1 (q _ hn)) λws s2 ⟨ps,H2,I2,rel,e,AQ,ep,lk,q2⟩=>?_);subst ep;obtain⟨rs,c,rk⟩:=uB (P:=X.prog) (w:=X.w) rel;obtain⟨z,hd,vs0,r0,dd⟩:=fX I2.hok e;cases r0;refine⟨rs,c,dd,λh' dd' hs=>⟨.ref s.heap.objs.size,_,?_,rfl,q2⟩⟩
 have hz:(mergeK [] AQ).length<=Am:=by
  have h1:=vZ AQ [];rw[FD]at h1;rw[Hn];ext
 have he:∃q,h'.get? s.heap.objs.size=some q:=let ⟨q,_,_,hq,_⟩:=dd';⟨q,hq⟩;exact ZO I2 (by rw[e];exact Ch) hs he (ZF hz hd (rk.merge .nil) dd')
structure M1 (X:Cx)(o:Cb)(m:Str)(apos:Pos)(e:Cb)(cpos:Pos):Prop where
 base:Cz o m X.env (eval o X.env)=eval o X.env
 few:((Cc cpos (Ar [e] X.env)).all (λx=>!x.1) && (Fk cpos (Dy [] X.env)).all (λx=>x.1.isSome)
  && decide (([e]:List Cb).length+([]:List EW).length+(if ([]:List EW).isEmpty then 0 else 1)<30))=true
 line:(apos.endLine == cpos.line)=true
 trees:Cc cpos (Ar [e] X.env)=[(false,eval e X.env)]
structure M2 (X:Cx)(o:Cb)(m:Str)(apos:Pos)(e f:Cb)(cpos:Pos):Prop where
 base:Cz o m X.env (eval o X.env)=eval o X.env
 few:((Cc cpos (Ar [e,f] X.env)).all (λx=>!x.1) && (Fk cpos (Dy [] X.env)).all (λx=>x.1.isSome)
  && decide (([e,f]:List Cb).length+([]:List EW).length+(if ([]:List EW).isEmpty then 0 else 1)<30))=true
 line:(apos.endLine == cpos.line)=true
 trees:Cc cpos (Ar [e,f] X.env)=[(false,eval e X.env),(false,eval f X.env)]
section
end
section
end
section
end
section
end
section
end
section
variable {κ:Type}[DecidableEq κ]
end
structure Df (K:Ac)(mg:Str->Option Ah)(x:Str)(st:DC)(ps:List Str)(f:Av)(fd:Dm):Prop where
 F:CM K x x st f fd
 b:HI K fd ps []
 m:mg x=some (.ref f)
structure Blt (mg:Str->Option Ah):Prop where
 len:mg "len" = none
 range:mg "range" = none
 isinstance:mg "isinstance" = none
 int:mg "int" = none
 bool:mg "bool" = none
 list:mg "list" = none
 tuple:mg "tuple" = none
 max:mg "max" = none
 min:mg "min" = none
 dict:mg "dict" = none
 reversed:mg "reversed" = none
 sorted:mg "sorted" = none
 set:mg "set" = none
 str:mg "str" = none
 sum:mg "sum" = none
 enumerate:mg "enumerate" = none
 zip:mg "zip" = none
 all:mg "all" = none
section
theorem XJ {st:DC}(d:Df X.K X.mg x st ps f fd)(G:FnOk X.prog X.w X.K X.mg X.base CX0 k f fd ps sp)(hr:Dt k X.A)(ha:PA X (e::es) t)
  (hg:Gl X x:=by rfl) (hdb:(x == ("__debug__":Str))=false:=by decide) (he:Ar (e::es) X.env=(false,eval e X.env)::Ar es X.env:=by rfl) (hpl:(Cc pos (Ar es X.env)).any (·.1)=false:=by rfl) :
  PE X (.Call (.Name x p) (e::es) [] pos) (SV sp [] E0 t):=jr G hr hg d.m d.F.kp d.b .nil OF ha hdb he hpl
theorem XI (hm:X.mg x=some (.int i t))(hg:Gl X x:=by rfl)(hd:(x == ("__debug__":Str))=false:=by decide):PE X (.Name x pos) (tC (.int i)):=pU hg hm ⟨_,rfl⟩ hd
theorem xC (hm:X.mg x=none)(hv:Dc x=some (.type T))(hg:Gl X x:=by rfl)(hn:x≠"__name__":=by decide)(hd:(x == ("__debug__":Str))=false:=by decide):PE X (.Name x pos) (tC (.ty T)):=jq hg hm hv rfl hn hd
end
theorem small (h:n<=1000):n<=Am:=FW (B5 h)
def TabOk (K:Ac)(w:BG)(h:Av)(D:List (Str×Int)):Prop:=
 ∃es n,K.lookup h=some ⟨.type "dict",none,.dict es n,#[]⟩/\PySem.W.KeysLit w.params es.toList/\∀x v,D.lookup x=some v->∃t,PySem.W.nsIn K h x=some (some (.int v t))
theorem Ua (hm:X.mg x=some (.ref h))(hg:Gl X x:=by rfl)(hd:(x == ("__debug__":Str))=false:=by decide):PE X (.Name x pos) (tC (.ref h)):=pU hg hm rfl hd
def eO (K:Ac)(w:BG):R2:=λx y H Q=>∃h D k v,x=.ref h/\y=.str k/\TabOk K w h D/\D.lookup k=some v/\Q (.int v) H
theorem cv :Pe X (eO X.K X.w):=by
 intro value slice Ad s U H x y v u Q I rx ry h hs;obtain⟨a,D,k,z,e1',e2',⟨es,n,hl,hk,he⟩,hz,q⟩:_:=h;cases(show v=AF a from rx);obtain⟨t,rfl⟩:=(show∃t,u=C2 k t from ry);obtain⟨t',e⟩:=he k z hz;have hm:=PySem.W.mapOf_K (prog:=X.prog) (w:=X.w) I.kIn hl hk;exact bE hm.typeIs slot_dict_getitem.lookup (V4 (strKind_is X.prog X.w k t) hm (PySem.W.find_K hl e) ⟨.int z,H,I.tok _,⟨_,rfl⟩,q⟩) hs
theorem gD (h0:0<=i)(h1:i<(xs.length:Int)):∃v,GY xs i=some v/\v∈xs:=by
 have hk:i.toNat<xs.length:=by ext
 have e:i=((i.toNat:Nat):Int):=by ext
 have z:=Oc (Ag hk);rw[<- e]at z;exact⟨xs[i.toNat],z,JA hk⟩
end L2
namespace L3
open PySem PySem.Spec PyProof.Rows L2
inductive D where
 |non | bl (b:Bool) | int (i:Int) | str (x:Str) | ref (a:Av) | ty (n:String)
 |tup (xs:List D) | lst (xs:List D) | dic (AQ:List (Cd×D)) | dct (AQ:List (List Cd×D))
noncomputable def Qs:Bool:=false
abbrev Zt:=Av->D->Prop
def At (Z:Zt)(v:V):D->Prop
 |.non=>v=.non
 |.bl b=>v=.bl b
 |.int i=>v=.int i
 |.str x=>v=.str x
 |.ref a=>v=.ref a
 |.ty n=>v=.ty n
 |.tup xs=>∃p,v=.ref p/\Z p (.tup xs)
 |.lst xs=>∃p,v=.ref p/\Z p (.lst xs)
 |.dic AQ=>∃p,v=.ref p/\Z p (.dic AQ)
 |.dct AQ=>∃p,v=.ref p/\Z p (.dct AQ)
abbrev Ds (Z:Zt):List V->List D->Prop:=DW (At Z)
def KAt (Z:Zt)(p:κ×V)(q:κ×D):Prop:=p.1=q.1/\At Z p.2 q.2
abbrev Cu (Z:Zt):List (κ×V)->List (κ×D)->Prop:=DW (KAt Z)
def Le (Z Z':Zt):Prop:=∀p d,Z p d->Z' p d
theorem Le.refl (Z:Zt):Le Z Z:=λ_ _ h=>h
theorem Le.trans (a:Le Z Z1)(b:Le Z1 Z2):Le Z Z2:=λp d h=>b p d (a p d h)
theorem At.mono (l:Le Z Z')(h:At Z v d):At Z' v d:=by
 cases d with
 |tup xs=>obtain⟨p,e,z⟩:=h;exact⟨p,e,l _ _ z⟩
 |lst xs=>obtain⟨p,e,z⟩:=h;exact⟨p,e,l _ _ z⟩
 |dic xs=>obtain⟨p,e,z⟩:=h;exact⟨p,e,l _ _ z⟩
 |dct xs=>obtain⟨p,e,z⟩:=h;exact⟨p,e,l _ _ z⟩
 |_=>exact h
theorem Ds.mono (l:Le Z Z'):∀{vs:List V}{ds:List D},Ds Z vs ds->Ds Z' vs ds
 |_,_,.nil=>.nil
 |_,_,.cons r t=>.cons (At.mono l r) (Ds.mono l t)
theorem Cu.mono (l:Le Z Z'):∀{vs:List (κ×V)}{ds:List (κ×D)},Cu Z vs ds->Cu Z' vs ds
 |_,_,.nil=>.nil
 |_,_,.cons r t=>.cons ⟨r.1,At.mono l r.2⟩ (Cu.mono l t)
theorem Ds.length (h:Ds Z vs ds):vs.length=ds.length:=DV h
theorem Ds.get :∀{vs:List V}{ds:List D}{i:Nat}{d:D},Ds Z vs ds->ds[i]? = some d->∃v,vs[i]? = some v/\At Z v d
 |_,_,_,_,.nil,e=>by simp at e
 |_,_,0,_,.cons r _,e=>by simp at e;subst e;exact⟨_,rfl,r⟩
 |_,_,i+1,d,.cons _ t,e=>by
  obtain⟨v,h1,h2⟩:=Ds.get t (by simpa using e);exact⟨v,by simpa using h1,h2⟩
theorem Ds.got :∀{vs:List V}{ds:List D}{i:Nat}{v:V},Ds Z vs ds->vs[i]? = some v->∃d,ds[i]? = some d/\At Z v d
 |_,_,_,_,.nil,e=>by simp at e
 |_,_,0,_,.cons r _,e=>by simp at e;subst e;exact⟨_,rfl,r⟩
 |_,_,i+1,d,.cons _ t,e=>by
  obtain⟨v,h1,h2⟩:=Ds.got t (by simpa using e);exact⟨v,by simpa using h1,h2⟩
theorem Ds.append :∀{xs ys:List V}{us ws:List D},Ds Z xs us->Ds Z ys ws->Ds Z (xs++ys) (us++ws)
 |_,_,_,_,.nil,s=>s
 |_,_,_,_,.cons r t,s=>.cons r (Ds.append t s)
theorem Ds.take :∀{xs:List V}{us:List D}(n:Nat),Ds Z xs us->Ds Z (xs.take n) (us.take n)
 |_,_,0,_=>.nil
 |_,_,_+1,.nil=>.nil
 |_,_,n+1,.cons r t=>.cons r (Ds.take n t)
theorem Ds.drop :∀{xs:List V}{us:List D}(n:Nat),Ds Z xs us->Ds Z (xs.drop n) (us.drop n)
 |_,_,0,r=>r
 |_,_,_+1,.nil=>.nil
 |_,_,n+1,.cons _ t=>Ds.drop n t
inductive MO where
 |lst (xs:List D) | dic (AQ:List (Cd×D)) | dct (AQ:List (List Cd×D)) | obj (C:Av) (fs:List (Str×D))
abbrev Mp:=Av->Option MO
noncomputable def put (M:Mp)(a:Av)(o:MO):Mp:=λb=>if b=a then some o else M b
noncomputable def Lc (M:Mp)(a:Av):Mp:=λb=>if b=a then none else M b
theorem DN :put M a o a=some o:=by unfold put;rw[if_pos rfl]
theorem DY (h:b≠a):put M a o b=M b:=by unfold put;rw[if_neg h]
theorem R7 :put (put M a o) a u=put M a u:=by funext b;unfold put;split<;>rfl
theorem pO (h:M a=none):Lc (put M a o) a=M:=by
 funext b;unfold Lc put;split
 .next e=>rw[e,h]
 .rfl
def Sub (M M':Mp):Prop:=∀a o,M a=some o->M' a=some o
theorem Sub.refl (M:Mp):Sub M M:=λ_ _ h=>h
theorem Sub.trans {M M1 M2:Mp}(a:Sub M M1)(b:Sub M1 M2):Sub M M2:=λp o h=>b p o (a p o h)
theorem Sub.put (h:M a=none):Sub M (put M a o):=λb u e=>by
 rw[DY (λz=>by rw[z,h]at e;cases e)];exact e
theorem Sub.puts (s:Sub M M')(h:M a=none):Sub M (L3.put M' a o):=λb u e=>by
 rw[DY (λz=>by rw[z,h]at e;cases e)];exact s b u e
section
variable (K:Ac)
def HB (H:Hp)(Z:Zt)(p:Av):D->Prop
 |.tup ds=>∃vs,H p=some (.tup vs)/\Ds Z vs ds
 |.lst ds=>∃vs,Rd H p (.lst vs)/\Ds Z vs ds
 |.dic AQ=>∃ks,Rd H p (.dK ks)/\Cu Z ks AQ
 |.dct AQ=>∃ks,Rd H p (.dT ks)/\Cu Z ks AQ
 |_=>False
def KB (Z:Zt)(p:Av):D->Prop
 |.tup ds=>Qs=true/\∃vs,(∃o Bj n,K.lookup p=some o/\o.cls=.type "tuple"/\o.data=.seq Bj n/\Bj.size<=Am/\BF vs Bj.toList)/\Ds Z vs ds
 |.lst ds=>∃vs,(∃o Bj n,K.lookup p=some o/\o.cls=.type "list"/\o.dict=none/\o.data=.seq Bj n/\Bj.size<=Am/\BF vs Bj.toList)/\Ds Z vs ds
 |_=>False
def MB (H:Hp)(Z:Zt)(p:Av):MO->Prop
 |.lst ds=>∃vs,H p=some (.lst vs)/\Ds Z vs ds
 |.dic AQ=>∃ks,H p=some (.dK ks)/\Cu Z ks AQ
 |.dct AQ=>∃ks,H p=some (.dT ks)/\Cu Z ks AQ
 |.obj C fs=>∃dx ks,H p=some (.ins C dx ks)/\Cu Z ks fs
structure HR (H:Hp)(M:Mp)(Z:Zt):Prop where
 z:∀p d,Z p d->HB H Z p d\/KB K Z p d
 m:∀p o,M p=some o->(∀d,Z p d->KB K Z p d)/\MB H Z p o
end
section
variable {K:Ac}{H:Hp}{M M':Mp}{Z:Zt}{p:Av}{d:D}
theorem HB.mono (l:Le Z Z')(h:HB H Z p d):HB H Z' p d:=by
 cases d with
 |tup ds=>obtain⟨vs,r,a⟩:=h;exact⟨vs,r,a.mono l⟩
 |lst ds=>obtain⟨vs,r,a⟩:=h;exact⟨vs,r,a.mono l⟩
 |dic ds=>obtain⟨vs,r,a⟩:=h;exact⟨vs,r,a.mono l⟩
 |dct ds=>obtain⟨vs,r,a⟩:=h;exact⟨vs,r,a.mono l⟩
 |_=>exact h.elim
theorem KB.mono (l:Le Z Z')(h:KB K Z p d):KB K Z' p d:=by
 cases d with
 |tup ds=>obtain⟨g,vs,r,a⟩:=h;exact⟨g,vs,r,a.mono l⟩
 |lst ds=>obtain⟨vs,r,a⟩:=h;exact⟨vs,r,a.mono l⟩
 |_=>exact h.elim
theorem MB.mono (l:Le Z Z')(h:MB H Z p o):MB H Z' p o:=by
 cases o with
 |lst ds=>obtain⟨vs,r,a⟩:=h;exact⟨vs,r,a.mono l⟩
 |dic ds=>obtain⟨vs,r,a⟩:=h;exact⟨vs,r,a.mono l⟩
 |dct ds=>obtain⟨vs,r,a⟩:=h;exact⟨vs,r,a.mono l⟩
 |obj C fs=>obtain⟨dx,vs,r,a⟩:=h;exact⟨dx,vs,r,a.mono l⟩
theorem Rd.at (e:H' p=H p)(h:Rd H p u):Rd H' p u:=by
 rcases h with h|⟨o,h⟩
 .exact .inl (e.trans h)
 .exact .inr ⟨o,e.trans h⟩
theorem HB.at (e:H' p=H p)(h:HB H Z p d):HB H' Z p d:=by
 cases d with
 |tup ds=>obtain⟨vs,r,a⟩:=h;exact⟨vs,e.trans r,a⟩
 |lst ds=>obtain⟨vs,r,a⟩:=h;exact⟨vs,Rd.at e r,a⟩
 |dic ds=>obtain⟨vs,r,a⟩:=h;exact⟨vs,Rd.at e r,a⟩
 |dct ds=>obtain⟨vs,r,a⟩:=h;exact⟨vs,Rd.at e r,a⟩
 |_=>exact h.elim
theorem MB.at (e:H' p=H p)(h:MB H Z p o):MB H' Z p o:=by
 cases o with
 |lst ds=>obtain⟨vs,r,a⟩:=h;exact⟨vs,e.trans r,a⟩
 |dic ds=>obtain⟨vs,r,a⟩:=h;exact⟨vs,e.trans r,a⟩
 |dct ds=>obtain⟨vs,r,a⟩:=h;exact⟨vs,e.trans r,a⟩
 |obj C fs=>obtain⟨dx,vs,r,a⟩:=h;exact⟨dx,vs,e.trans r,a⟩
theorem HB.some (h:HB H Z p d):H p≠none:=λe=>by
 cases d with
 |tup ds=>obtain⟨vs,r,a⟩:=h;rw[e]at r;cases r
 |lst ds=>obtain⟨vs,r | ⟨o,r⟩,a⟩:=h<;>rw[e]at r<;>cases r
 |dic ds=>obtain⟨vs,r | ⟨o,r⟩,a⟩:=h<;>rw[e]at r<;>cases r
 |dct ds=>obtain⟨vs,r | ⟨o,r⟩,a⟩:=h<;>rw[e]at r<;>cases r
 |_=>exact h.elim
theorem MB.some (h:MB H Z p o):H p≠none:=λe=>by
 cases o with
 |lst ds=>obtain⟨vs,r,a⟩:=h;rw[e]at r;cases r
 |dic ds=>obtain⟨vs,r,a⟩:=h;rw[e]at r;cases r
 |dct ds=>obtain⟨vs,r,a⟩:=h;rw[e]at r;cases r
 |obj C fs=>obtain⟨dx,vs,r,a⟩:=h;rw[e]at r;cases r
theorem HR.fresh (h:HR K H M Z)(e:H p=none):M p=none:=by
 cases q:M p with
 |none=>rfl
 |some o=>exact absurd e (h.m p o q).2.some
theorem HR.sub (h:HR K H M Z)(s:Sub M' M):HR K H M' Z:=⟨h.z,λp o e=>h.m p o (s p o e)⟩
def ext (Z:Zt)(p:Av)(d:D):Zt:=λb u=>Z b u\/(b=p/\u=d)
theorem Le.ext:Le Z (ext Z p d):=λ_ _ h=>.inl h
theorem HR.lay (h:HR K H M Z)(e:H p=none)(o:HO):(∀b u,Z b u->HB (CD H p o) Z b u\/KB K Z b u)/\∀b u,M b=some u->(∀d,Z b d->KB K Z b d)/\MB (CD H p o) Z b u:=by
 refine⟨λb u z=>?_,λb u q=>?_⟩
 .rcases h.z b u z with k|k
  .exact .inl (k.at (Ij λq=>k.some (by rw[q];exact e)))
  .exact .inr k
 .obtain⟨k1,k2⟩:=h.m b u q;exact⟨k1,k2.at (Ij λq=>k2.some (by rw[q];exact e))⟩
theorem HR.datum (h:HR K H M Z)(e:H p=none){o:HO}(hb:HB (CD H p o) Z p d):HR K (CD H p o) M (ext Z p d):=by
 obtain⟨h1,h2⟩:=h.lay e o;have mn:=h.fresh e;refine⟨λb u z=>?_,λb u q=>?_⟩
 .rcases z with z|⟨rfl,rfl⟩
  .rcases h1 b u z with k|k
   .exact .inl (k.mono Le.ext)
   .exact .inr (k.mono Le.ext)
  .exact .inl (hb.mono Le.ext)
 .obtain⟨k1,k2⟩:=h2 b u q;refine⟨λd' z=>?_,k2.mono Le.ext⟩;rcases z with z|⟨rfl,rfl⟩
  .exact(k1 d' z).mono Le.ext
  .rw[mn]at q;cases q
theorem HR.newT (h:HR K H M Z)(e:H p=none){vs:List V}{ds:List D}(a:Ds Z vs ds):HR K (CD H p (.tup vs)) M (ext Z p (.tup ds)):=h.datum e ⟨vs,MA,a⟩
theorem HR.newF (h:HR K H M Z)(e:H p=none){vs:List V}{ds:List D}(a:Ds Z vs ds):HR K (CD H p (.lst vs)) M (ext Z p (.lst ds)):=h.datum e ⟨vs,.inl MA,a⟩
theorem HR.newFD (h:HR K H M Z)(e:H p=none){vs:List (Cd×V)}{ds:List (Cd×D)}(a:Cu Z vs ds):HR K (CD H p (.dK vs)) M (ext Z p (.dic ds)):=h.datum e ⟨vs,.inl MA,a⟩
theorem qh :At (ext Z p (.dct xs)) (.ref p) (.dct xs):=⟨p,rfl,.inr ⟨rfl,rfl⟩⟩
theorem pH :At (ext Z p (.tup xs)) (.ref p) (.tup xs):=⟨p,rfl,.inr ⟨rfl,rfl⟩⟩
theorem gY :At (ext Z p (.lst xs)) (.ref p) (.lst xs):=⟨p,rfl,.inr ⟨rfl,rfl⟩⟩
theorem pG :At (ext Z p (.dic xs)) (.ref p) (.dic xs):=⟨p,rfl,.inr ⟨rfl,rfl⟩⟩
theorem HR.newM (h:HR K H M Z)(e:H p=none){o:HO}{u:MO}(hb:MB (CD H p o) Z p u):HR K (CD H p o) (put M p u) Z:=by
 obtain⟨h1,h2⟩:=h.lay e o;refine⟨h1,λb w q=>?_⟩;by_cases hbp:b=p
 .subst hbp;rw[DN]at q;cases q;refine⟨λd z=>?_,hb⟩;rcases h.z b d z with k|k
  .exact absurd e k.some
  .exact k
 .rw[DY hbp]at q;exact h2 b w q
theorem HR.newL (h:HR K H M Z)(e:H p=none){vs:List V}{ds:List D}(a:Ds Z vs ds):HR K (CD H p (.lst vs)) (put M p (.lst ds)) Z:=h.newM e ⟨vs,MA,a⟩
theorem HR.newD (h:HR K H M Z)(e:H p=none){vs:List (Cd×V)}{ds:List (Cd×D)}(a:Cu Z vs ds):HR K (CD H p (.dK vs)) (put M p (.dic ds)) Z:=h.newM e ⟨vs,MA,a⟩
theorem HR.chg (h:HR K H M Z){u u':MO}{o:HO}(e:M p=some u)(hb:MB (CD H p o) Z p u'):HR K (CD H p o) (put M p u') Z:=by
 obtain⟨hk,_⟩:=h.m p u e;refine⟨λb d z=>?_,λb w q=>?_⟩
 .by_cases hbp:b=p
  .subst hbp;exact .inr (hk d z)
  .rcases h.z b d z with k|k
   .exact .inl (k.at (Ij hbp))
   .exact .inr k
 .by_cases hbp:b=p
  .subst hbp;rw[DN]at q;cases q;exact⟨hk,hb⟩
  .rw[DY hbp]at q;obtain⟨k1,k2⟩:=h.m b w q;exact⟨k1,k2.at (Ij hbp)⟩
theorem HR.chgL (h:HR K H M Z){u:MO}(e:M p=some u){vs:List V}{ds:List D}(a:Ds Z vs ds):HR K (CD H p (.lst vs)) (put M p (.lst ds)) Z:=h.chg e ⟨vs,MA,a⟩
theorem HR.chgD (h:HR K H M Z){u:MO}(e:M p=some u){vs:List (Cd×V)}{ds:List (Cd×D)}(a:Cu Z vs ds):HR K (CD H p (.dK vs)) (put M p (.dic ds)) Z:=h.chg e ⟨vs,MA,a⟩
theorem HR.frzM (h:HR K H M Z){u:MO}(e:M p=some u)(hb:HB H Z p d):HR K H (Lc M p) (ext Z p d):=by
 refine⟨λb d' z=>?_,λb w q=>?_⟩
 .rcases z with z|⟨rfl,rfl⟩
  .rcases h.z b d' z with k|k
   .exact .inl (k.mono Le.ext)
   .exact .inr (k.mono Le.ext)
  .exact .inl (hb.mono Le.ext)
 .unfold Lc at q;split at q
  .cases q
  .next hbp=>
   obtain⟨k1,k2⟩:=h.m b w q;refine⟨λd' z=>?_,k2.mono Le.ext⟩;rcases z with z|⟨z,_⟩
   .exact(k1 d' z).mono Le.ext
   .exact absurd z hbp
theorem HR.frzL (h:HR K H M Z){ds:List D}(e:M p=some (.lst ds)):HR K H (Lc M p) (ext Z p (.lst ds)):=by
 obtain⟨_,vs,r,a⟩:=h.m p _ e;exact h.frzM e ⟨vs,.inl r,a⟩
theorem HR.frzD (h:HR K H M Z){ds:List (Cd×D)}(e:M p=some (.dic ds)):HR K H (Lc M p) (ext Z p (.dic ds)):=by
 obtain⟨_,vs,r,a⟩:=h.m p _ e;exact h.frzM e ⟨vs,.inl r,a⟩
theorem HR.frzDT (h:HR K H M Z){ds:List (List Cd×D)}(e:M p=some (.dct ds)):HR K H (Lc M p) (ext Z p (.dct ds)):=by
 obtain⟨_,vs,r,a⟩:=h.m p _ e;exact h.frzM e ⟨vs,.inl r,a⟩
theorem HR.rdT (h:HR K H M Z){v:V}{ds:List D}(a:At Z v (.tup ds)):∃p vs,v=.ref p/\LK K H p vs/\Ds Z vs ds:=by
 obtain⟨p,rfl,z⟩:=a;rcases h.z p _ z with⟨vs,r,a⟩|⟨_,vs,r,a⟩
 .exact⟨p,vs,rfl,.inl (.inl r),a⟩
 .exact⟨p,vs,rfl,.inr r,a⟩
theorem HR.rdK (hg:Qs=false)(h:HR K H M Z){v:V}{ds:List D}(a:At Z v (.tup ds)):∃p vs,v=.ref p/\H p=some (.tup vs)/\Ds Z vs ds:=by
 obtain⟨p,rfl,z⟩:=a;rcases h.z p _ z with⟨vs,r,a⟩|⟨g,_⟩
 .exact⟨p,vs,rfl,r,a⟩
 .rw[hg]at g;cases g
theorem HR.rdF (h:HR K H M Z){v:V}{ds:List D}(a:At Z v (.lst ds)):∃p vs,v=.ref p/\FS K H p vs/\Ds Z vs ds:=by
 obtain⟨p,rfl,z⟩:=a;rcases h.z p _ z with⟨vs,r,a⟩|⟨vs,r,a⟩
 .exact⟨p,vs,rfl,.inl r,a⟩
 .exact⟨p,vs,rfl,.inr r,a⟩
theorem HR.rdM (h:HR K H M Z){ds:List D}(e:M p=some (.lst ds)):∃vs,H p=some (.lst vs)/\Ds Z vs ds:=(h.m p _ e).2
theorem HR.rdMT (h:HR K H M Z){ds:List (List Cd×D)}(e:M p=some (.dct ds)):∃vs,H p=some (.dT vs)/\Cu Z vs ds:=(h.m p _ e).2
theorem HR.rdMO (h:HR K H M Z){C:Av}{fs:List (Str×D)}(e:M p=some (.obj C fs)):∃dx vs,H p=some (.ins C dx vs)/\Cu Z vs fs:=(h.m p _ e).2
theorem HR.rdMD (h:HR K H M Z){ds:List (Cd×D)}(e:M p=some (.dic ds)):∃vs,H p=some (.dK vs)/\Cu Z vs ds:=(h.m p _ e).2
noncomputable def Bo (M:Mp):D->Option (List D)
 |.lst ds=>some ds
 |.ref p=>match M p with
  |some (.lst ds)=>some ds
  |_=>none
 |_=>none
noncomputable def IJ (M:Mp):D->Option (List D)
 |.tup ds=>some ds
 |d=>Bo M d
theorem HR.rdL (h:HR K H M Z){v:V}{d:D}{ds:List D}(e:Bo M d=some ds)(a:At Z v d):∃p vs,v=.ref p/\FS K H p vs/\Ds Z vs ds:=by
 cases d with
 |lst xs=>cases e;exact h.rdF a
 |ref p=>
  cases(show v=.ref p from a);unfold Bo at e;simp only at e;split at e
  .next q=>
   cases e;obtain⟨vs,r,a⟩:=h.rdM q;exact⟨p,vs,rfl,FS.of r,a⟩
  .cases e
 |_=>cases e
theorem HR.rdS (h:HR K H M Z){v:V}{d:D}{ds:List D}(e:IJ M d=some ds)(a:At Z v d):∃p vs,v=.ref p/\(FS K H p vs\/LK K H p vs)/\Ds Z vs ds:=by
 have go:Bo M d=some ds->∃p vs,v=.ref p/\(FS K H p vs\/LK K H p vs)/\Ds Z vs ds:=λe=>by
  obtain⟨p,vs,e1,s,a⟩:=h.rdL e a;exact⟨p,vs,e1,.inl s,a⟩
 cases d with
 |tup xs=>cases e;obtain⟨p,vs,e1,s,a⟩:=h.rdT a;exact⟨p,vs,e1,.inr s,a⟩
 |lst xs=>exact go e
 |ref p=>exact go e
 |_=>cases e
end
abbrev St:=L2.St
abbrev Gq:=List (Option D)
abbrev Eb:=D->Mp->Prop
abbrev DG:=Gq->Mp->Eb->Prop
abbrev K0:=Gq->Mp->(Bool->Mp->Prop)->Prop
abbrev Kp:=Gq->Mp->(List D->Mp->Prop)->Prop
abbrev YC:=Gq->Mp->(Option Int->Mp->Prop)->Prop
structure Js where
 nx:Gq->Mp->Prop
 rt:Eb
 bk:Gq->Mp->Prop:=λ_ _=>False
 ct:Gq->Mp->Prop:=λ_ _=>False
abbrev HH:=Js->Gq->Mp->Prop
abbrev Mi:=D->D->Mp->Eb->Prop
abbrev Ee:=List D->Mp->Eb->Prop
def OA (Z:Zt):Option V->Option D->Prop
 |_,none=>True
 |some v,some d=>At Z v d
 |none,some _=>False
abbrev Gp (Z:Zt):St->Gq->Prop:=DW (OA Z)
theorem OA.mono {Z Z':Zt}(l:Le Z Z'){v:Option V}{d:Option D}(h:OA Z v d):OA Z' v d:=by
 cases d with
 |none=>cases v<;>exact Ch
 |some d=>cases v with
  |none=>exact h
  |some v=>exact At.mono l h
theorem Gp.mono (l:Le Z Z'):∀{U:St}{τ:Gq},Gp Z U τ->Gp Z' U τ
 |_,_,.nil=>.nil
 |_,_,.cons r t=>.cons (OA.mono l r) (Gp.mono l t)
theorem Gp.set (r:At Z x d):∀{U:St}{τ:Gq}(i:Nat),Gp Z U τ->Gp Z (U.set i (some x)) (τ.set i (some d))
 |_,_,_,.nil=>.nil
 |_,_,0,.cons _ t=>.cons r t
 |_,_,i+1,.cons q t=>.cons q (Gp.set r i t)
theorem Gp.get :∀{U:St}{τ:Gq}{i:Nat}{d:D},Gp Z U τ->τ[i]? = some (some d)->∃v,U[i]? = some (some v)/\At Z v d
 |_,_,_,_,.nil,e=>by simp at e
 |v::_,_,0,_,.cons r _,e=>by
  simp at e;subst e;cases v with
  |none=>exact r.elim
  |some v=>exact⟨v,rfl,r⟩
 |_,_,i+1,d,.cons _ t,e=>by
  obtain⟨v,h1,h2⟩:=Gp.get t (by simpa using e);exact⟨v,by simpa using h1,h2⟩
def EH (x:D)(k:Int->Prop):Prop:=match x with
 |.int i=>k i
 |_=>False
def Q5 (x:D)(k:Bool->Prop):Prop:=match x with
 |.bl b=>k b
 |_=>False
def GI (x:D)(k:Str->Prop):Prop:=match x with
 |.str b=>k b
 |_=>False
def J2 (x:D)(k:Av->Prop):Prop:=match x with
 |.ref b=>k b
 |_=>False
def CH (o:Option α)(k:α->Prop):Prop:=match o with
 |some x=>k x
 |none=>False
theorem CG (h:EH x k):∃i,x=.int i/\k i:=by
 cases x with
 |int i=>exact⟨i,rfl,h⟩
 |_=>exact h.elim
theorem RO {x:D}{k:Bool->Prop}(h:Q5 x k):∃i,x=.bl i/\k i:=by
 cases x with
 |bl i=>exact⟨i,rfl,h⟩
 |_=>exact h.elim
theorem Et (h:GI x k):∃i,x=.str i/\k i:=by
 cases x with
 |str i=>exact⟨i,rfl,h⟩
 |_=>exact h.elim
theorem IL (h:J2 x k):∃i,x=.ref i/\k i:=by
 cases x with
 |ref i=>exact⟨i,rfl,h⟩
 |_=>exact h.elim
theorem Cr (h:CH x k):∃i,x=some i/\k i:=by
 cases x with
 |some i=>exact⟨i,rfl,h⟩
 |none=>exact h.elim
section
variable (K:Ac)
def Hr (Z:Zt)(Q2:Eb)(Q:VK):Prop:=∀Z' v d H' M',Le Z Z'->HR K H' M' Z'->At Z' v d->Q2 d M'->Q v H'
def lE (t:DG):TE:=λU H Q=>∃Z τ M Q2,Gp Z U τ/\HR K H M Z/\t τ M Q2/\Hr K Z Q2 Q
def lT (t:K0):TT:=λU H Q=>∃Z τ M Q2,Gp Z U τ/\HR K H M Z/\t τ M Q2/\∀Z' b H' M',Le Z Z'->HR K H' M' Z'->Q2 b M'->Q b H'
def lA (t:Kp):TA:=λU H Q=>∃Z τ M Q2,Gp Z U τ/\HR K H M Z/\t τ M Q2/\∀Z' vs ds H' M',Le Z Z'->HR K H' M' Z'->Ds Z' vs ds->Q2 ds M'->Q vs H'
def lO (t:YC):TO:=λU H Q=>∃Z τ M Q2,Gp Z U τ/\HR K H M Z/\t τ M Q2/\∀Z' b H' M',Le Z Z'->HR K H' M' Z'->Q2 b M'->Q b H'
def Rj (Z:Zt)(Q2:Gq->Mp->Prop)(Q:St->Hp->Prop):Prop:=∀Z' U τ H' M',Le Z Z'->Gp Z' U τ->HR K H' M' Z'->Q2 τ M'->Q U H'
structure ER (Z:Zt)(D2:Js)(D:Oh):Prop where
 nx:Rj K Z D2.nx D.nx
 rt:Hr K Z D2.rt D.rt
 bk:Rj K Z D2.bk D.bk
 ct:Rj K Z D2.ct D.ct
def lS (t:HH):TS:=λD U H=>∃Z τ M D2,Gp Z U τ/\HR K H M Z/\t D2 τ M/\ER K Z D2 D
def lR (r:Mi):R2:=λx y H Q=>∃Z dx dy M Q2,HR K H M Z/\At Z x dx/\At Z y dy/\r dx dy M Q2/\Hr K Z Q2 Q
def lC (r:List D->Mp->Eb->Prop):List V->Hp->VK->Prop:=λxs H Q=>∃Z ds M Q2,HR K H M Z/\Ds Z xs ds/\r ds M Q2/\Hr K Z Q2 Q
def lU (r:D->Mp->Eb->Prop):V->Hp->VK->Prop:=λx H Q=>∃Z d M Q2,HR K H M Z/\At Z x d/\r d M Q2/\Hr K Z Q2 Q
def lSp (sp:Ee):Sp:=λvs H Q _=>∃Z ds M Q2,HR K H M Z/\Ds Z vs ds/\sp ds M Q2/\Hr K Z Q2 Q
end
section
variable {K:Ac}
theorem Hr.le (h:Hr K Z Q2 Q)(l:Le Z Z'):Hr K Z' Q2 Q:=λZ1 v d H M l1 hr a q=>h Z1 v d H M (l.trans l1) hr a q
theorem Rj.le {Q2:Gq->Mp->Prop}{Q:St->Hp->Prop}(h:Rj K Z Q2 Q)(l:Le Z Z'):Rj K Z' Q2 Q:=λZ1 v d H M l1 hr a q=>h Z1 v d H M (l.trans l1) hr a q
theorem ER.le {D2:Js}{D:Oh}(h:ER K Z D2 D)(l:Le Z Z'):ER K Z' D2 D:=⟨h.nx.le l,h.rt.le l,h.bk.le l,h.ct.le l⟩
theorem Hr.dn {Q2:Eb}{Q:VK}(h:Hr K Z Q2 Q):Hr K Z (λd M=>∃M0,Sub M0 M/\Q2 d M0) Q:=λZ1 v d H M l1 hr a ⟨M0,s,q⟩=>h Z1 v d H M0 l1 (hr.sub s) a q
end
@[irreducible] def BX (X:Cx)(e:Cb)(t:DG):Prop:=PE X e (lE X.K t)
unseal BX
@[irreducible] def HQ (X:Cx)(e:Cb)(t:K0):Prop:=PT X e (lT X.K t)
unseal HQ
@[irreducible] def Jw (X:Cx)(e:Cb)(t:K0):Prop:=PW X e (lT X.K t)
unseal Jw
@[irreducible] def Gc (X:Cx)(es:List Cb)(t:Kp):Prop:=PA X es (lA X.K t)
unseal Gc
@[irreducible] def Ky (X:Cx)(e:Option Cb)(t:YC):Prop:=PO X e (lO X.K t)
unseal Ky
@[irreducible] def GZ (X:Cx)(st:DC)(t:HH):Prop:=PS X st (lS X.K t)
unseal GZ
@[irreducible] def Du (X:Cx)(st:List DC)(t:HH):Prop:=Lz X st (lS X.K t)
unseal Du
@[irreducible] def Cq (X:Cx)(f:Ah->Ah->Sem Ah)(r:Mi):Prop:=Gd X f (lR X.K r)
unseal Cq
@[irreducible] def FL (X:Cx)(f:Ah->Sem Ah)(r:D->Mp->Eb->Prop):Prop:=Ri X f (lU X.K r)
unseal FL
@[irreducible] def BL (X:Cx)(f:Ah)(r:List D->Mp->Eb->Prop):Prop:=EX X f (lC X.K r)
unseal BL
@[irreducible] def Fv (X:Cx)(r:Mi):Prop:=Pe X (lR X.K r)
unseal Fv
section
variable {X:Cx}
theorem PE.mono {e:Cb}{t t':TE}(h:PE X e t)(m:∀U H Q,t' U H Q->t U H Q):PE X e t':=λAd s U H Q I q=>h Ad s U H Q I (m U H Q q)
theorem PT.mono {e:Cb}{t t':TT}(h:PT X e t)(m:∀U H Q,t' U H Q->t U H Q):PT X e t':=λAd s U H Q I q=>h Ad s U H Q I (m U H Q q)
theorem PW.mono (h:PW X e t)(m:∀U H Q,t' U H Q->t U H Q):PW X e t':=λwh Ad s U H Q I q=>h wh Ad s U H Q I (m U H Q q)
theorem PA.mono (h:PA X e t)(m:∀U H Q,t' U H Q->t U H Q):PA X e t':=λpos Ad s U H Q I q=>h pos Ad s U H Q I (m U H Q q)
theorem PO.mono (h:PO X e t)(m:∀U H Q,t' U H Q->t U H Q):PO X e t':=λAd s U H Q I q=>h Ad s U H Q I (m U H Q q)
theorem PS.mono (h:PS X e t)(m:∀D U H,t' D U H->t D U H):PS X e t':=λAd s U H D I q=>h Ad s U H D I (m D U H q)
theorem Lz.mono (h:Lz X e t)(m:∀D U H,t' D U H->t D U H):Lz X e t':=λAd s U H D I q=>h Ad s U H D I (m D U H q)
theorem Gd.mono (h:Gd X f r)(m:∀x y H Q,r' x y H Q->r x y H Q):Gd X f r':=λAd s U H x y v u Q I rx ry q=>h Ad s U H x y v u Q I rx ry (m x y H Q q)
theorem Ri.mono (h:Ri X f r)(m:∀x H Q,r' x H Q->r x H Q):Ri X f r':=λAd s U H x v Q I rx q=>h Ad s U H x v Q I rx (m x H Q q)
theorem EX.mono (h:EX X f r)(m:∀x H Q,r' x H Q->r x H Q):EX X f r':=λAd s U H x v Q I rx q=>h Ad s U H x v Q I rx (m x H Q q)
theorem Pe.mono (h:Pe X r)(m:∀x y H Q,r' x y H Q->r x y H Q):Pe X r':=λvalue slice Ad s U H x y v u Q I rx ry q hs=>h value slice Ad s U H x y v u Q I rx ry (m x y H Q q) hs
def Ie (i:Nat):DG:=λτ M Q=>CH (τ[i]?).join λd=>Q d M
def uC (d:D):DG:=λ_ M Q=>Q d M
theorem qv (i:Nat)(hN:X.N[i]? = some x:=by rfl)(hv:YB X.env.scope x:=by first | exact BH rfl | exact I0 (BH rfl) | exact I0 (I0 rfl))(hd:(x == ("__debug__":Str))=false:=by decide)
  (hcd:(x == ("__classdict__":Str))=false:=by decide):BX X (.Name x pos) (Ie i):=PE.mono (pv i hN hv hd hcd) λU H Q ⟨Z,τ,M,Q2,st,hr,h,k⟩=>by
 obtain⟨d,e,q⟩:=Cr h;obtain⟨v,e1,a⟩:=st.get (EF.mp e);exact⟨v,e1,k Z v d H M (Le.refl _) hr a q⟩
theorem qc (h:PE X e (tC v))(a:∀Z,At Z v d):BX X e (uC d):=PE.mono h λU H Q ⟨Z,τ,M,Q2,st,hr,q,k⟩=>k Z v d H M (Le.refl _) hr (a Z) q
theorem Ai {i j pos}:BX X (.Constant (.int i) j pos) (uC (.int i)):=qc ca λ_=>rfl
theorem Vq {b j pos}:BX X (.Constant (.bool b) j pos) (uC (.bl b)):=qc yH λ_=>rfl
theorem O6 {j pos}:BX X (.Constant .none j pos) (uC .non):=qc cb λ_=>rfl
theorem Bn {x j pos}:BX X (.Constant (.str x) j pos) (uC (.str x)):=qc cg λ_=>rfl
theorem Iu (hm:X.mg x=some (.int i t))(hg:Gl X x:=by rfl)(hd:(x == ("__debug__":Str))=false:=by decide):BX X (.Name x pos) (uC (.int i)):=qc (XI hm hg hd) λ_=>rfl
theorem Qj (hm:X.mg x=some (.ref h))(hg:Gl X x:=by rfl)(hd:(x == ("__debug__":Str))=false:=by decide):BX X (.Name x pos) (uC (.ref h)):=qc (Ua hm hg hd) λ_=>rfl
theorem eQ (hm:X.mg x=none)(hv:Dc x=some (.type T))(hg:Gl X x:=by rfl)(hn:x≠"__name__":=by decide)(hd:(x == ("__debug__":Str))=false:=by decide):BX X (.Name x pos) (uC (.ty T)):=qc (xC hm hv hg hn hd) λ_=>rfl
variable {a b c e:Cb}{ta tb tc te:DG}{pos:Pos}
theorem lE.bind {K:Ac}{U:St}{H:Hp}{Z:Zt}{τ:Gq}{M:Mp}{R:Eb}{Q:VK}(st:Gp Z U τ)(hr:HR K H M Z)(h:ta τ M R)
  (k:∀Z' v d H' M',Le Z Z'->HR K H' M' Z'->At Z' v d->R d M'->Q v H'):lE K ta U H Q:=⟨Z,τ,M,R,st,hr,h,k⟩
def Vo (r:Mi)(ta tb:DG):DG:=λτ M Q=>ta τ M λx M1=>tb τ M1 λy M2=>r x y M2 Q
theorem Zn {K:Ac}{r:Mi}:∀U H Q,lE K (Vo r ta tb) U H Q->W5 (lR K r) (lE K ta) (lE K tb) U H Q:=by
 intro U H Q;ext1⟨Z,τ,M,Q2,st,hr,h,k⟩;refine lE.bind st hr h λZ1 x dx H1 M1 l1 h1 a1 q1=>lE.bind (st.mono l1) h1 q1 λZ2 y dy H2 M2 l2 h2 a2 q2=>?_;exact⟨Z2,dx,dy,M2,Q2,h2,a1.mono l2,a2,q2,k.le (l1.trans l2)⟩
theorem BE (ho:Cq X (BD op) r)(ha:BX X a ta)(hb:BX X b tb):BX X (.BinOp a op b pos) (Vo r ta tb):=PE.mono (yJ ho ha hb) Zn
theorem Bc (hr:Fv X r)(ha:BX X a ta)(hb:BX X b tb)(hs:OM b:=by exact λ_ _=>rfl):BX X (.Subscript a b pos) (Vo r ta tb):=PE.mono (yI hr ha hb hs) Zn
theorem NX (ho:Cq X (Bd op) r)(ha:BX X a ta)(hb:BX X b tb)(hm:FR op b=false:=by exact Qq _):BX X (.Compare a [op] [b] pos) (Vo r ta tb):=PE.mono (jt ho ha hb hm) Zn
def OB (t:DG):K0:=λτ M Q=>t τ M λx M1=>Q5 x λc=>Q c M1
theorem S4 {K:Ac}{t1:TE}(m:∀U H Q,lE K te U H Q->t1 U H Q):∀U H Q,lT K (OB te) U H Q->t1 U H λx H1=>∃k,x=.bl k/\Q k H1:=by
 intro U H Q;ext1⟨Z,τ,M,Q2,st,hr,h,k⟩;refine m _ _ _ (lE.bind st hr h λZ1 x dx H1 M1 l1 h1 a1 q1=>?_);obtain⟨c,rfl,q⟩:=RO q1;exact⟨c,a1,k Z1 c H1 M1 l1 h1 q⟩
theorem AV {op:CmpOp}{r:Mi}(ho:Cq X (Bd op) r)(ha:BX X a ta)(hb:BX X b tb)(hm:FR op b=false:=by exact Qq _):HQ X (.Compare a [op] [b] pos) (OB (Vo r ta tb)):=PT.mono (nc ho ha hb hm) (S4 Zn)
theorem Ir {t:DG}(h:BX X e t)(he:∀whole,PX e X.env whole=(do let v <- whole;Nb e.pos;Gu [v] (truthy v)):=by intro _;rfl):HQ X e (OB t):=PT.mono (gp h he) (S4 λ_ _ _ h=>h)
def NU (r r':Mi)(ta tb tc:DG):DG:=λτ M Q=>ta τ M λx M1=>tb τ M1 λy M2=>r x y M2 λz M3=>Q5 z λk=>if k=true then tc τ M3 λw M4=>r' y w M4 Q else Q (.bl false) M3
theorem Ui {K:Ac} :∀U H Q,lE K (NU r r' ta tb tc) U H Q->Qa (lR K r) (lR K r') (lE K ta) (lE K tb) (lE K tc) U H Q:=by
 intro U H Q;ext1⟨Z,τ,M,Q2,st,hr,h,k⟩;refine lE.bind st hr h λZ1 x dx H1 M1 l1 h1 a1 q1=>lE.bind (st.mono l1) h1 q1 λZ2 y dy H2 M2 l2 h2 a2 q2=>?_;refine⟨Z2,dx,dy,M2,_,h2,a1.mono l2,a2,q2,λZ3 z dz H3 M3 l3 h3 a3 q3=>?_⟩;obtain⟨c,rfl,q⟩:=RO q3;refine⟨c,a3,?_⟩;cases c with
 |false=>rw[if_neg Aj]at q ⊢;exact k Z3 (.bl false) (.bl false) H3 M3 (l1.trans (l2.trans l3)) h3 rfl q
 |true=>rw[if_pos rfl]at q ⊢;refine lE.bind (st.mono (l1.trans (l2.trans l3))) h3 q λZ4 w dw H4 M4 l4 h4 a4 q4=>?_;exact⟨Z4,dy,dw,M4,Q2,h4,a2.mono (l3.trans l4),a4,q4,k.le (l1.trans (l2.trans (l3.trans l4)))⟩
theorem NY (ho:Cq X (Bd op) r)(ho':Cq X (Bd op') r')(ha:BX X a ta)(hb:BX X b tb)(hc:BX X c tc)
  (hm:lastMarks [op,op'] [b,c]=false:=by with_unfolding_all rfl):BX X (.Compare a [op,op'] [b,c] pos) (NU r r' ta tb tc):=PE.mono (qd ho ho' ha hb hc hm) Ui
def kO (r:D->Mp->Eb->Prop)(ta:DG):DG:=λτ M Q=>ta τ M λx M1=>r x M1 Q
theorem Q0 {op:UnaryOp}{r:D->Mp->Eb->Prop}(ho:FL X (Na op) r)(ha:BX X a ta):BX X (.UnaryOp op a pos) (kO r ta):=PE.mono (yL ho ha) (by
 intro U H Q;ext1⟨Z,τ,M,Q2,st,hr,h,k⟩;exact lE.bind st hr h λZ1 x dx H1 M1 l1 h1 a1 q1=>⟨Z1,dx,M1,Q2,h1,a1,q1,k.le l1⟩)
variable {tB:K0}{CK:List Cb}
def W1 (t u:K0):K0:=λτ M Q=>t τ M λc M1=>if c=true then u τ M1 Q else Q false M1
def kS (t u:K0):K0:=λτ M Q=>t τ M λc M1=>if c=true then Q true M1 else u τ M1 Q
def WU (t:K0):K0:=λτ M Q=>t τ M λc M1=>Q (!c) M1
theorem lT.bind {K:Ac}(st:Gp Z U τ)(hr:HR K H M Z)(h:tA τ M R)
  (k:∀Z' b H' M',Le Z Z'->HR K H' M' Z'->R b M'->Q b H'):lT K tA U H Q:=⟨Z,τ,M,R,st,hr,h,k⟩
theorem pV (ha:HQ X a tA):Jw X (.BoolOp .And [a] pos) tA:=ng ha
theorem VB (ha:HQ X a tA):Jw X (.BoolOp .Or [a] pos) tA:=gr ha
theorem oR (ha:HQ X a tA)(hb:Jw X (.BoolOp .And (b::CK) pos) tB):Jw X (.BoolOp .And (a::b::CK) pos) (W1 tA tB):=PW.mono (gq ha hb) (by
 intro U H Q;ext1⟨Z,τ,M,Q2,st,hr,h,k⟩;refine lT.bind st hr h λZ1 c H1 M1 l1 h1 q1=>?_;cases c with
 |true=>rw[if_pos rfl]at q1 ⊢;exact lT.bind (st.mono l1) h1 q1 λZ2 c H2 M2 l2 h2 q2=>k Z2 c H2 M2 (l1.trans l2) h2 q2
 | false=>rw [if_neg Aj] at q1 ⊢;exact k Z1 false H1 M1 l1 h1 q1)
theorem Uo (ha:HQ X a tA)(hb:Jw X (.BoolOp .Or (b::CK) pos) tB):Jw X (.BoolOp .Or (a::b::CK) pos) (kS tA tB):=PW.mono (zN ha hb) (by
 intro U H Q;ext1⟨Z,τ,M,Q2,st,hr,h,k⟩;refine lT.bind st hr h λZ1 c H1 M1 l1 h1 q1=>?_;cases c with
 |false=>rw[if_neg Aj]at q1 ⊢;exact lT.bind (st.mono l1) h1 q1 λZ2 c H2 M2 l2 h2 q2=>k Z2 c H2 M2 (l1.trans l2) h2 q2
 | true=>rw [if_pos rfl] at q1 ⊢;exact k Z1 true H1 M1 l1 h1 q1)
theorem Jw.pt (h:Jw X e t):HQ X e t:=PW.pt (show PW X e (lT X.K t)from h)
theorem LF (ha:HQ X a tA):HQ X (.UnaryOp .Not a pos) (WU tA):=PT.mono (gm ha) (by
 intro U H Q;ext1⟨Z,τ,M,Q2,st,hr,h,k⟩;exact lT.bind st hr h λZ1 c H1 M1 l1 h1 q1=>k Z1 _ H1 M1 l1 h1 q1)
def SR (ta tb:DG):DG:=λτ M Q=>ta τ M λx M1=>Q5 x λc=>if c=true then tb τ M1 Q else Q (.bl false) M1
def WT (ta tb:DG):DG:=λτ M Q=>ta τ M λx M1=>Q5 x λc=>if c=true then Q (.bl true) M1 else tb τ M1 Q
theorem T7 {op}(h:BX X a t):BX X (.BoolOp op [a] pos) t:=cf h
theorem XF (ha:BX X a ta)(hb:BX X (.BoolOp .And (b::CK) pos) tb):BX X (.BoolOp .And (a::b::CK) pos) (SR ta tb):=PE.mono (b5 ha hb) (by
 intro U H Q;ext1⟨Z,τ,M,Q2,st,hr,h,k⟩;refine lE.bind st hr h λZ1 x dx H1 M1 l1 h1 a1 q1=>?_;obtain⟨c,rfl,q1'⟩:=RO q1;replace q1:=q1';refine⟨c,a1,?_⟩;cases c with
 |true=>rw[if_pos rfl]at q1 ⊢;exact lE.bind (st.mono l1) h1 q1 λZ2 y dy H2 M2 l2 h2 a2 q2=>k Z2 y dy H2 M2 (l1.trans l2) h2 a2 q2
 | false=>rw [if_neg Aj] at q1 ⊢;exact k Z1 (.bl false) (.bl false) H1 M1 l1 h1 rfl q1)
theorem xB (ha:BX X a ta)(hb:BX X (.BoolOp .Or (b::CK) pos) tb):BX X (.BoolOp .Or (a::b::CK) pos) (WT ta tb):=PE.mono (yK ha hb) (by
 intro U H Q;ext1⟨Z,τ,M,Q2,st,hr,h,k⟩;refine lE.bind st hr h λZ1 x dx H1 M1 l1 h1 a1 q1=>?_;obtain⟨c,rfl,q1'⟩:=RO q1;replace q1:=q1';refine⟨c,a1,?_⟩;cases c with
 |false=>rw[if_neg Aj]at q1 ⊢;exact lE.bind (st.mono l1) h1 q1 λZ2 y dy H2 M2 l2 h2 a2 q2=>k Z2 y dy H2 M2 (l1.trans l2) h2 a2 q2
 | true=>rw [if_pos rfl] at q1 ⊢;exact k Z1 (.bl true) (.bl true) H1 M1 l1 h1 rfl q1)
def kT (t:K0)(ta tb:DG):DG:=λτ M Q=>t τ M λc M1=>if c=true then ta τ M1 Q else tb τ M1 Q
theorem JI (hc:HQ X c tA)(ha:BX X a ta)(hb:BX X b tb):BX X (.IfExp c a b pos) (kT tA ta tb):=PE.mono (qq hc ha hb) (by
 intro U H Q;ext1⟨Z,τ,M,Q2,st,hr,h,k⟩;refine lT.bind st hr h λZ1 c H1 M1 l1 h1 q1=>?_;cases c with
 |true=>rw[if_pos rfl]at q1 ⊢;exact lE.bind (st.mono l1) h1 q1 λZ2 y dy H2 M2 l2 h2 a2 q2=>k Z2 y dy H2 M2 (l1.trans l2) h2 a2 q2
 | false=>rw [if_neg Aj] at q1 ⊢;exact lE.bind (st.mono l1) h1 q1 λZ2 y dy H2 M2 l2 h2 a2 q2=>k Z2 y dy H2 M2 (l1.trans l2) h2 a2 q2)
variable {es:List Cb}{t:Kp}
def TW:Kp:=λ_ M Q=>Q [] M
def SO (ta:DG)(tr:Kp):Kp:=λτ M Q=>ta τ M λx M1=>tr τ M1 λxs M2=>Q (x::xs) M2
theorem qN:Gc X [] TW:=PA.mono ZC λU H Q ⟨Z,τ,M,Q2,st,hr,h,k⟩=>k Z [] [] H M (Le.refl _) hr .nil h
theorem qA (ha:BX X e te)(hr:Gc X es t)(hs:Ar (e::es) X.env=(false,eval e X.env)::Ar es X.env:=by rfl):Gc X (e::es) (SO te t):=PA.mono (ZJ ha hr hs) (by
 intro U H Q;ext1⟨Z,τ,M,Q2,st,hr,h,k⟩;refine lE.bind st hr h λZ1 x dx H1 M1 l1 h1 a1 q1=>⟨Z1,τ,M1,_,st.mono l1,h1,q1,λZ2 vs ds H2 M2 l2 h2 a2 q2=>?_⟩;exact k Z2 (x::vs) (dx::ds) H2 M2 (l1.trans l2) h2 (.cons (a1.mono l2) a2) q2)
def WL (t:Kp):DG:=λτ M Q=>t τ M λxs M1=>xs.length<=Am/\Q (.tup xs) M1
def SI (t:Kp):DG:=λτ M Q=>t τ M λxs M1=>xs.length<=Am/\Q (.lst xs) M1
def WV (t:Kp):DG:=λτ M Q=>t τ M λxs M1=>xs.length<=Am/\∀p,M1 p=none->Q (.ref p) (put M1 p (.lst xs))
theorem BR {x1}(h:Gc X es t):BX X (.Tuple es x1 pos) (WL t):=PE.mono (dm h) (by
 intro U H Q;ext1⟨Z,τ,M,Q2,st,hr,h,k⟩;refine ⟨Z,τ,M,_,st,hr,h,λZ1 vs ds H1 M1 l1 h1 a1 q1=>⟨by rw [a1.length];exact q1.1,λp hp=>?_⟩⟩;exact k _ (.ref p) (.tup ds) _ M1 (l1.trans Le.ext) (h1.newT hp a1) pH q1.2)
theorem Gb (h:Gc X es t):BX X (.List es pos) (SI t):=PE.mono (oO h) (by
 intro U H Q;ext1⟨Z,τ,M,Q2,st,hr,h,k⟩;refine ⟨Z,τ,M,_,st,hr,h,λZ1 vs ds H1 M1 l1 h1 a1 q1=>⟨by rw [a1.length];exact q1.1,λp hp=>?_⟩⟩;exact k _ (.ref p) (.lst ds) _ M1 (l1.trans Le.ext) (h1.newF hp a1) gY q1.2)
theorem KQ (h:Gc X es t):BX X (.List es pos) (WV t):=PE.mono (oO h) (by
 intro U H Q;ext1⟨Z,τ,M,Q2,st,hr,h,k⟩;refine ⟨Z,τ,M,_,st,hr,h,λZ1 vs ds H1 M1 l1 h1 a1 q1=>⟨by rw [a1.length];exact q1.1,λp hp=>?_⟩⟩;exact k Z1 (.ref p) (.ref p) _ _ l1 (h1.newL hp a1) rfl (q1.2 p (h1.fresh hp)))
def Zg (r:List D->Mp->Eb->Prop)(t:Kp):DG:=λτ M Q=>t τ M λxs M1=>r xs M1 Q
theorem lJ {K:Ac} :∀U H Q,lE K (Zg r t) U H Q->cJ (lC K r) (lA K t) U H Q:=by
 intro U H Q;ext1⟨Z,τ,M,Q2,st,hr,h,k⟩;exact⟨Z,τ,M,_,st,hr,h,λZ1 vs ds H1 M1 l1 h1 a1 q1=>⟨Z1,ds,M1,Q2,h1,a1,q1,k.le l1⟩⟩
theorem BW {id:String}(hc:BL X (.builtin id) r)(hm:X.mg x=none)(hv:Dc x=some (.builtin id))(ha:Gc X (e::es) t)(hg:Gl X x:=by rfl)(hn:x≠"__name__":=by decide)(hdb:(x == ("__debug__":Str))=false:=by decide)
  (he:Ar (e::es) X.env=(false,eval e X.env)::Ar es X.env:=by rfl) (hpl:(Cc pos (Ar es X.env)).any (·.1)=false:=by rfl):BX X (.Call (.Name x p) (e::es) [] pos) (Zg r t):=PE.mono (qb hc hg hm hv ha hn hdb he hpl) lJ
theorem Ey (hc:BL X (.type T) r)(hm:X.mg x=none)(hv:Dc x=some (.type T))(ha:Gc X (e::es) t)(hg:Gl X x:=by rfl)(hn:x≠"__name__":=by decide)(hdb:(x == ("__debug__":Str))=false:=by decide)
  (he:Ar (e::es) X.env=(false,eval e X.env)::Ar es X.env:=by rfl) (hpl:(Cc pos (Ar es X.env)).any (·.1)=false:=by rfl):BX X (.Call (.Name x p) (e::es) [] pos) (Zg r t):=PE.mono (uc hc hg hm hv ha hn hdb he hpl) lJ
def SQ (sp:Ee)(t:Kp):DG:=λτ M Q=>t τ M λxs M1=>sp xs M1 Q
theorem As {st:DC}(d:Df X.K X.mg x st ps f fd)(G:FnOk X.prog X.w X.K X.mg X.base CX0 k f fd ps (lSp X.K sp))(hr:Dt k X.A)(ha:Gc X (e::es) t)
  (hg:Gl X x:=by rfl) (hdb:(x == ("__debug__":Str))=false:=by decide) (he:Ar (e::es) X.env=(false,eval e X.env)::Ar es X.env:=by rfl) (hpl:(Cc pos (Ar es X.env)).any (·.1)=false:=by rfl) :
  BX X (.Call (.Name x p) (e::es) [] pos) (SQ sp t):=PE.mono (XJ d G hr ha hg hdb he hpl) (by
 intro U H Q;ext1⟨Z,τ,M,Q2,st,hr,h,k⟩;refine ⟨Z,τ,M,_,st,hr,h,λZ1 vs ds H1 M1 l1 h1 a1 q1=>?_⟩;show lSp X.K sp (vs++[]) H1 Q E0;rw [C1];exact ⟨Z1,ds,M1,Q2,h1,a1,q1,k.le l1⟩)
def OC:YC:=λ_ M Q=>Q none M
def SE (t:DG):YC:=λτ M Q=>t τ M λx M1=>EH x λi=>Q (some i) M1
theorem Yn:Ky X none OC:=PO.mono lm λU H Q ⟨Z,τ,M,Q2,st,hr,h,k⟩=>k Z none H M (Le.refl _) hr h
theorem UE (h:BX X e te):Ky X (some e) (SE te):=PO.mono (lq h) (by
 intro U H Q;ext1⟨Z,τ,M,Q2,st,hr,h,k⟩;refine lE.bind st hr h λZ1 x dx H1 M1 l1 h1 a1 q1=>?_;obtain ⟨i,rfl,q⟩:=CG q1;exact ⟨i,a1,k Z1 (some i) H1 M1 l1 h1 q⟩)
def kP (r:D->Option Int->Option Int->Mp->Eb->Prop)(te:DG)(tl th:YC):DG:=λτ M Q=>te τ M λx M1=>tl τ M1 λl M2=>th τ M2 λu M3=>r x l u M3 Q
def xE (K:Ac)(r:D->Option Int->Option Int->Mp->Eb->Prop):V->Option Int->Option Int->Hp->VK->Prop:=λx lo hi H Q=>∃Z d M Q2,HR K H M Z/\At Z x d/\r d lo hi M Q2/\Hr K Z Q2 Q
@[irreducible] def FM (X:Cx)(r:D->Option Int->Option Int->Mp->Eb->Prop):Prop:=Sf X (xE X.K r)
unseal FM
theorem Sf.mono (h:Sf X r)(m:∀x l u H Q,r' x l u H Q->r x l u H Q):Sf X r':=λAd s U H x v vl vu lo hi sl Q I rx hs pl pu q=>h Ad s U H x v vl vu lo hi sl Q I rx hs pl pu (m x lo hi H Q q)
theorem JH {lo hi:Option Cb}(hr:FM X r)(he:BX X e te)(hl:Ky X lo tl)(hu:Ky X hi th):BX X (.Subscript e (.Slice lo hi none p2) pos) (kP r te tl th):=PE.mono (qt hr he hl hu) (by
 intro U H Q;ext1⟨Z,τ,M,Q2,st,hr,h,k⟩;refine lE.bind st hr h λZ1 x dx H1 M1 l1 h1 a1 q1=>⟨Z1,τ,M1,_,st.mono l1,h1,q1,λZ2 lo H2 M2 l2 h2 q2=>⟨Z2,τ,M2,_,st.mono (l1.trans l2),h2,q2,λZ3 hi H3 M3 l3 h3 q3=>?_⟩⟩;exact ⟨Z3,dx,M3,Q2,h3,a1.mono (l2.trans l3),q3,k.le (l1.trans (l2.trans l3))⟩)
end
end L3
namespace L3
open PySem PySem.Spec PyProof.Rows L2
unseal BX HQ Jw Gc Ky GZ Du Cq FL BL Fv FM
section
variable {K:Ac}{Z:Zt}{H:Hp}{M:Mp}{Q2:Eb}{Q:VK}
theorem Hr.v (k:Hr K Z Q2 Q)(hr:HR K H M Z){v:V}(a:At Z v d)(q:Q2 d M):Q v H:=k Z v d H M (Le.refl _) hr a q
theorem Hr.b (k:Hr K Z Q2 Q)(hr:HR K H M Z){b:Bool}(q:Q2 (.bl b) M):Q (.bl b) H:=k Z (.bl b) (.bl b) H M (Le.refl _) hr rfl q
theorem Hr.i (k:Hr K Z Q2 Q)(hr:HR K H M Z){b:Int}(q:Q2 (.int b) M):Q (.int b) H:=k Z (.int b) (.int b) H M (Le.refl _) hr rfl q
theorem Hr.s (k:Hr K Z Q2 Q)(hr:HR K H M Z){b:Str}(q:Q2 (.str b) M):Q (.str b) H:=k Z (.str b) (.str b) H M (Le.refl _) hr rfl q
theorem Hr.n (k:Hr K Z Q2 Q)(hr:HR K H M Z)(q:Q2 .non M):Q .non H:=k Z .non .non H M (Le.refl _) hr rfl q
theorem Hr.t (k:Hr K Z Q2 Q)(hr:HR K H M Z){vs:List V}{ds:List D}{p:Av}(hp:H p=none)(a:Ds Z vs ds)(q:Q2 (.tup ds) M):Q (.ref p) (CD H p (.tup vs)):=k _ (.ref p) (.tup ds) _ M Le.ext (hr.newT hp a) pH q
theorem Hr.f (k:Hr K Z Q2 Q)(hr:HR K H M Z){vs:List V}{ds:List D}{p:Av}(hp:H p=none)(a:Ds Z vs ds)(q:Q2 (.lst ds) M):Q (.ref p) (CD H p (.lst vs)):=k _ (.ref p) (.lst ds) _ M Le.ext (hr.newF hp a) gY q
theorem Hr.l (k:Hr K Z Q2 Q)(hr:HR K H M Z){vs:List V}{ds:List D}{p:Av}(hp:H p=none)(a:Ds Z vs ds)(q:∀p,M p=none->Q2 (.ref p) (put M p (.lst ds))):Q (.ref p) (CD H p (.lst vs)):=k Z (.ref p) (.ref p) _ _ (Le.refl _) (hr.newL hp a) rfl (q p (hr.fresh hp))
theorem Hr.fd (k:Hr K Z Q2 Q)(hr:HR K H M Z){vs:List (Cd×V)}{ds:List (Cd×D)}{p:Av}(hp:H p=none)(a:Cu Z vs ds)(q:Q2 (.dic ds) M):Q (.ref p) (CD H p (.dK vs)):=k _ (.ref p) (.dic ds) _ M Le.ext (hr.newFD hp a) pG q
theorem Hr.d (k:Hr K Z Q2 Q)(hr:HR K H M Z){vs:List (Cd×V)}{ds:List (Cd×D)}{p:Av}(hp:H p=none)(a:Cu Z vs ds)(q:∀p,M p=none->Q2 (.ref p) (put M p (.dic ds))):Q (.ref p) (CD H p (.dK vs)):=k Z (.ref p) (.ref p) _ _ (Le.refl _) (hr.newD hp a) rfl (q p (hr.fresh hp))
end
section
def sI (C:Int->Int->Prop)(g:Int->Int->D):Mi:=λx y M Q=>EH x λi=>EH y λj=>C i j/\Q (g i j) M
def Qe (g:Int->Int->D):Mi:=λx y M Q=>EH x λi=>EH y λj=>Q (g i j) M
theorem o2 (h:Gd X f (rI C g))(hg:∀i j Z,At Z (g i j) (g2 i j)):Cq X f (sI C g2):=Gd.mono h (by
 intro x y H Q;ext1⟨Z,dx,dy,M,Q2,hr,ax,ay,h,k⟩;obtain ⟨i,rfl,h1⟩:=CG h;obtain ⟨j,rfl,c,q⟩:=CG h1;exact ⟨i,j,ax,ay,c,k Z _ _ H M (Le.refl _) hr (hg i j Z) q⟩)
theorem RS (h:Gd X f (PC g))(hg:∀i j Z,At Z (g i j) (g2 i j)):Cq X f (Qe g2):=Gd.mono h (by
 intro x y H Q;ext1⟨Z,dx,dy,M,Q2,hr,ax,ay,h,k⟩;obtain ⟨i,rfl,h1⟩:=CG h;obtain ⟨j,rfl,q⟩:=CG h1;exact ⟨i,j,ax,ay,k Z _ _ H M (Le.refl _) hr (hg i j Z) q⟩)
theorem GN:Cq X (BD .Add) (Qe λi j=>.int (i+j)):=RS bm λ_ _ _=>rfl
theorem O9:Cq X (BD .Sub) (Qe λi j=>.int (i-j)):=RS bw λ_ _ _=>rfl
theorem OK:Cq X (BD .Mult) (sI QK λi j=>.int (i*j)):=o2 br λ_ _ _=>rfl
theorem OL:Cq X (BD .FloorDiv) (sI Sl λi j=>.int (i / j)):=o2 ji λ_ _ _=>rfl
theorem Gm:Cq X (BD .Mod) (sI (λ_ j=>0<j) λi j=>.int (i%j)):=o2 bq λ_ _ _=>rfl
theorem Vv:Cq X (BD .LShift) (sI Sk λi j=>.int (i*2^j.toNat)):=o2 bu λ_ _ _=>rfl
theorem fU:Cq X (BD .RShift) (sI (λ_ j=>0<=j) λi j=>.int (i / 2^j.toNat)):=o2 bv λ_ _ _=>rfl
theorem Tf:Cq X (BD .BitAnd) (Qe λi j=>.int (AD i j)):=RS bo λ_ _ _=>rfl
theorem Kl:Cq X (BD .BitOr) (Qe λi j=>.int (AK i j)):=RS yE λ_ _ _=>rfl
theorem Tb:Cq X (BD .BitXor) (Qe λi j=>.int (Be i j)):=RS bz λ_ _ _=>rfl
theorem Lx:Cq X (Bd .Lt) (Qe λi j=>.bl (decide (i<j))):=RS yC λ_ _ _=>rfl
theorem Qo:Cq X (Bd .LtE) (Qe λi j=>.bl (decide (i<=j))):=RS yB λ_ _ _=>rfl
theorem JK:Cq X (Bd .Gt) (Qe λi j=>.bl (decide (j<i))):=RS yA λ_ _ _=>rfl
theorem Uc:Cq X (Bd .GtE) (Qe λi j=>.bl (decide (j<=i))):=RS xZ λ_ _ _=>rfl
def sU (g:Int->D):D->Mp->Eb->Prop:=λx M Q=>EH x λi=>Q (g i) M
theorem u2 (h:Ri X f (rU g))(hg:∀i Z,At Z (g i) (g2 i)):FL X f (sU g2):=Ri.mono h (by
 intro x H Q;ext1⟨Z,dx,M,Q2,hr,ax,h,k⟩;obtain ⟨i,rfl,q⟩:=CG h;exact ⟨i,ax,k Z _ _ H M (Le.refl _) hr (hg i Z) q⟩)
theorem ZB:FL X (Na .USub) (sU λi=>.int (-i)):=u2 jv λ_ _=>rfl
theorem VA:FL X (Na .Invert) (sU λi=>.int (D8 i)):=u2 ju λ_ _=>rfl
noncomputable def DE:D->Bool
 |.non=>true
 |.bl _=>true
 |.int _=>true
 |.str _=>true
 |_=>false
noncomputable def Kx:D->D->Bool
 |.non,.non=>true
 |.bl a,.bl b=>a == b
 |.bl a,.int b=>(if a then 1 else 0) == b
 |.int a,.bl b=>a == (if b then 1 else 0)
 |.int a,.int b=>decide (a=b)
 |.str a,.str b=>decide (a=b)
 |_,_=>false
noncomputable def S7 (x y:D):Bool:=match x,y with
 |.non,.non=>true | .non,.int _=>true | .int _,.non=>true | .non,.bl _=>true | .bl _,.non=>true | .non,.str _=>true | .str _,.non=>true
 |.int _,.int _=>true | .bl _,.bl _=>true | .str _,.str _=>true
 |.int _,.str _=>true | .str _,.int _=>true | .bl _,.str _=>true | .str _,.bl _=>true
 |_,_=>false
def Xm (neg:Bool):Mi:=λx y M Q=>S7 x y=true/\Q (.bl (if neg then !Kx x y else Kx x y)) M
theorem uJ {Z:Zt}{x y:V}{dx dy:D}(ax:At Z x dx)(ay:At Z y dy)(h:S7 dx dy=true):T1 x y=true/\decide (x=y)=Kx dx dy:=by
 cases dx<;>cases dy<;>first
  |exact absurd h Aj
  |(subst ax;subst ay;refine⟨rfl,?_⟩;delta Kx;simp[NQ])
theorem Cm:Cq X (Bd .Eq) (Xm false):=Gd.mono xY (by
 intro x y H Q;ext1⟨Z,dx,dy,M,Q2,hr,ax,ay,⟨f,q⟩,k⟩;obtain ⟨h1,h2⟩:=uJ ax ay f;exact ⟨h1,by rw [h2];exact k.b hr q⟩)
theorem XQ:Cq X (Bd .NotEq) (Xm true):=Gd.mono yD (by
 intro x y H Q;ext1⟨Z,dx,dy,M,Q2,hr,ax,ay,⟨f,q⟩,k⟩;obtain ⟨h1,h2⟩:=uJ ax ay f;exact ⟨h1,by rw [h2];exact k.b hr q⟩)
def bV:Option MO->Option String
 |some (.lst _)=>some "list"
 |some (.dic _)=>some "dict"
 |some (.dct _)=>some "dict"
 |_=>none
noncomputable def Nl (M:Mp):D->Option String
 |.non=>some "NoneType"
 |.bl _=>some "bool"
 |.int _=>some "int"
 |.str _=>some "str"
 |.tup _=>some "tuple"
 |.lst _=>some "list"
 |.dic _=>some "dict"
 |.dct _=>some "dict"
 |.ref p=>bV (M p)
 |.ty _=>none
theorem Vp {M:Mp}{p:Av}{o:Option MO}(h:M p=o):Nl M (.ref p)=bV o:=congrArg bV h
noncomputable def N8 (t c:String):Option Bool:=if t=c then some true else if t = "bool"/\c = "int" then some true else if (t = "int"\/t = "str"\/t = "list"\/t = "tuple"\/t = "dict"\/t = "NoneType")/\(c = "bool"\/c = "int"\/c = "str"\/c = "list"\/c = "tuple"\/c = "dict")then some false else none
theorem kl (K:Ac)(h:N8 t c=some b):C3 K (.type t) (.type c)=some b:=by
 unfold N8 at h;split at h
 .next e=>subst e;cases h;exact pk K t
 .split at h
  .next e=>obtain⟨rfl,rfl⟩:=e;cases h;kernel_rfl
  .split at h
   .next n1 n2 e=>
    cases h;obtain⟨e1,e2⟩:=e
    rcases e1 with rfl|rfl|rfl|rfl|rfl|rfl<;>rcases e2 with rfl|rfl|rfl|rfl|rfl|rfl<;>first
     |exact absurd rfl n1
     |kernel_rfl
   .cases h
def Xl (c:String):List D->Mp->Eb->Prop:=λxs M Q=>match xs with
 |[x,.ty c']=>c'=c/\CH (Nl M x) λt=>CH (N8 t c) λb=>Q (.bl b) M
 |_=>False
theorem cr {Ad:List (Av×Obj)}{U:St}{H:Hp}{s:Ap}{A:Ck}{E:Ah->Ap->Prop}{Q:Ah->Ap->Prop}{c:Ah}{b:Bool}{M:Mp}{Z:Zt}{x:V}{d:D}{u:Ah}{t:String}(I:A6 X Ad U H s)(hr:HR X.K H M Z)(a:At Z x d)(rx:RelV x u)(ty:Nl M d=some t)
  (e:C3 X.K (.type t) c=some b) (h:∀tk,Q (.bool b) {s with toks:=tk}):Aq (Ax X.prog X.w) A (IE (.builtin "isinstance") [u,c]) Q E s:=by
 have dicC:∀{p:Av} {ks:List (Cd×V)},Rd H p (.dK ks)->C3 X.K (.type "dict") c=some b->Aq (Ax X.prog X.w) A (IE (.builtin "isinstance") [.ref p,c]) Q E s:=λhp e=>by
  obtain⟨_,_,vs,_,o,es,ep,h1,h2,_⟩:_:=Ra I.hok hp;exact En LP I.kIn ⟨o,h1,h2.1⟩ e (λz=>nomatch z) h
 have dctC:∀{p:Av} {ks:List (List Cd×V)},Rd H p (.dT ks)->C3 X.K (.type "dict") c=some b->Aq (Ax X.prog X.w) A (IE (.builtin "isinstance") [.ref p,c]) Q E s:=λhp e=>by
  obtain⟨_,_,vs,_,o,es,ep,h1,h2,_⟩:_:=Vx I.hok hp;exact En LP I.kIn ⟨o,h1,h2.1⟩ e (λz=>nomatch z) h
 have lisC:∀{p:Av} {vs:List V},FS X.K H p vs->C3 X.K (.type "list") c=some b->Aq (Ax X.prog X.w) A (IE (.builtin "isinstance") [.ref p,c]) Q E s:=λhs e=>by
  obtain⟨Bj,_,p,_⟩:=I.list hs;obtain⟨o,h1,h2,_⟩:=p.isList;exact En Pg I.kIn ⟨o,h1,h2⟩ e (λz=>nomatch z) h
 cases d with
 |non=>cases ty;exact aC I rx (by cases(show x=V.non from a);exact Ik.non) e h
 |bl y=>cases ty;exact aC I rx (by cases(show x=V.bl y from a);exact Ik.bl _) e h
 |int y=>cases ty;exact aC I rx (by cases(show x=V.int y from a);exact Ik.int _) e h
 |str y=>cases ty;exact aC I rx (by cases(show x=V.str y from a);exact Ik.str _) e h
 |tup ds=>cases ty;obtain⟨p,vs,rfl,hs,_⟩:=hr.rdT a;cases(show u=AF p from rx);obtain⟨Bj,_,⟨o,h1,h2,_⟩,_⟩:=I.tuple hs;exact En Ts I.kIn ⟨o,h1,h2⟩ e (λz=>nomatch z) h
 |lst ds=>cases ty;obtain⟨p,vs,rfl,hs,_⟩:=hr.rdF a;cases(show u=AF p from rx);exact lisC hs e
 |dic ds=>
  cases ty;obtain⟨p,rfl,z⟩:=a;cases(show u=AF p from rx);rcases hr.z p _ z with⟨vs,r,_⟩|k
  .exact dicC r e
  .exact k.elim
 |dct ds=>
  cases ty;obtain⟨p,rfl,z⟩:=a;cases(show u=AF p from rx);rcases hr.z p _ z with⟨vs,r,_⟩|k
  .exact dctC r e
  .exact k.elim
 |ref p=>
  cases(show x=.ref p from a);cases(show u=AF p from rx);cases q:M p with
  |none=>rw[Vp q]at ty;cases ty
  |some o=>
   rw[Vp q]at ty;cases o with
   |lst l=>cases ty;obtain⟨vs,r,_⟩:=hr.rdM q;exact lisC (FS.of r) e
   |dic l=>cases ty;obtain⟨vs,r,_⟩:=hr.rdMD q;exact dicC (.inl r) e
   |dct l=>cases ty;obtain⟨vs,r,_⟩:=hr.rdMT q;exact dctC (.inl r) e
   |obj C f=>cases ty
 |ty n=>cases ty
theorem fW (c:String):BL X (.builtin "isinstance") (Xl c):=by
 intro Ad s U H xs us Q I r;ext1⟨Z,ds,M,Q2,hr,a,h,k⟩
 match ds,a,h with
 |[x,.ty c'],a,h=>
  obtain⟨rfl,h⟩:=h;obtain⟨t,ht,h⟩:=Cr h;obtain⟨b,hb,q⟩:=Cr h;cases a with
  |cons a1 a2=>
   cases a2 with
   |cons a2 a3=>cases a3;obtain⟨u,w',rfl,r1,r2⟩:=MJ r;cases(show _=V.ty c' from a2);cases(show w'=DJ c' from r2);exact cr I hr a1 r1 ht (kl _ hb) λtk=>⟨.bl b,H,I.tok tk,rfl,k.b hr q⟩
inductive Cs:List Cb->List D->Prop where
 |nil:Cs [] []
 |int {i j pos es ds} (h:Cs es ds):Cs (.Constant (.int i) j pos::es) (.int i::ds)
 |str {i j pos es ds} (h:Cs es ds):Cs (.Constant (.str i) j pos::es) (.str i::ds)
def kU (ds:List D):Kp:=λ_ M Q=>Q ds M
theorem gA (h:Cs es ds):Gc X es (kU ds):=by
 induction h with
 |nil=>exact PA.mono (qN) λU H Q ⟨Z,τ,M,Q2,st,hr,h,k⟩=>⟨Z,τ,M,Q2,st,hr,h,k⟩
 |int h ih=>exact PA.mono (qA (Ai) ih rfl) λU H Q ⟨Z,τ,M,Q2,st,hr,h,k⟩=>⟨Z,τ,M,Q2,st,hr,h,k⟩
 |str h ih=>exact PA.mono (qA (Bn) ih rfl) λU H Q ⟨Z,τ,M,Q2,st,hr,h,k⟩=>⟨Z,τ,M,Q2,st,hr,h,k⟩
theorem nR (a:Ds Z vs ds)(h:GY ds i=some d):∃v,GY vs i=some v/\At Z v d:=by
 unfold GY at h ⊢;rw[a.length];cases e:RV ds.length i with
 |none=>rw[e]at h;cases h
 |some j=>rw[e]at h;exact a.get h
def L5:Mi:=λx y M Q=>match x with
 |.tup xs=>EH y λi=>CH (GY xs i) λv=>Q v M
 |_=>False
def Xk:Mi:=λx y M Q=>CH (Bo M x) λxs=>EH y λi=>CH (GY xs i) λv=>Q v M
theorem BA:Fv X L5:=Pe.mono cw (by
 intro x y H Q;ext1⟨Z,dx,dy,M,Q2,hr,ax,ay,h,k⟩;cases dx with
 |tup xs=>obtain⟨i,rfl,h1⟩:=CG h;obtain⟨v,e,q⟩:=Cr h1;obtain⟨p,vs,rfl,hs,a⟩:=hr.rdT ax;obtain⟨v',e',a'⟩:=nR a e;exact⟨p,vs,i,v',rfl,ay,hs,e',k.v hr a' q⟩
 | _=>exact h.elim)
theorem E1:Fv X Xk:=Pe.mono kq (by
 intro x y H Q;ext1⟨Z,dx,dy,M,Q2,hr,ax,ay,h,k⟩;obtain ⟨xs,e0,h0⟩:=Cr h;obtain ⟨i,rfl,h1⟩:=CG h0;obtain ⟨v,e,q⟩:=Cr h1;obtain ⟨p,vs,rfl,hs,a⟩:=hr.rdL e0 ax;obtain ⟨v',e',a'⟩:=nR a e;exact ⟨p,vs,i,v',rfl,ay,hs,e',k.v hr a' q⟩)
def Xj:Mi:=λx y M Q=>GI x λz=>EH y λi=>z.length<=Am/\CH (GY z.cps.toList i) λc=>Q (.str ⟨#[c]⟩) M
theorem fY:Fv X Xj:=Pe.mono cu (by
 intro x y H Q;ext1⟨Z,dx,dy,M,Q2,hr,ax,ay,h,k⟩;obtain ⟨z,rfl,h1⟩:=Et h;obtain ⟨i,rfl,hz,h2⟩:=CG h1;obtain ⟨c,e,q⟩:=Cr h2;exact ⟨z,i,c,ax,ay,hz,e,k.s hr q⟩)
def GJ (xs:List D)(k:D->Prop):Prop:=match xs with
 |[x]=>k x
 |_=>False
def Fq (xs:List D)(k:D->D->Prop):Prop:=match xs with
 |[x,y]=>k x y
 |_=>False
theorem GW (h:GJ xs k):∃x,xs=[x]/\k x:=by
 match xs,h with
 |[x],h=>exact⟨x,rfl,h⟩
theorem L9 (h:Fq xs k):∃x y,xs=[x,y]/\k x y:=by
 match xs,h with
 |[x,y],h=>exact⟨x,y,rfl,h⟩
theorem JL (a:Ds Z vs [d]):∃v,vs=[v]/\At Z v d:=by
 cases a with
 |cons a1 a2=>cases a2;exact⟨_,rfl,a1⟩
theorem ats2 (a:Ds Z vs [d,e]):∃v w,vs=[v,w]/\At Z v d/\At Z w e:=by
 cases a with
 |cons a1 a2=>obtain⟨w,rfl,a3⟩:=JL a2;exact⟨_,w,rfl,a1,a3⟩
theorem Kb:BL X (.builtin "len") (λxs M Q=>GJ xs λx=>CH (IJ M x) λys=>Q (.int ys.length) M):=EX.mono zg (by
 intro xs H Q;ext1⟨Z,ds,M,Q2,hr,a,h,k⟩;obtain ⟨x,rfl,h1⟩:=GW h;obtain ⟨ys,e,q⟩:=Cr h1;obtain ⟨v,rfl,a1⟩:=JL a;obtain ⟨p,vs,rfl,hs,a2⟩:=hr.rdS e a1;exact ⟨p,vs,rfl,hs,by rw [a2.length];exact k.i hr q⟩)
theorem rc:BL X (.builtin "len") (λxs M Q=>GJ xs λx=>GI x λz=>z.length<=Am/\Q (.int z.length) M):=EX.mono zh (by
 intro xs H Q;ext1⟨Z,ds,M,Q2,hr,a,h,k⟩;obtain ⟨x,rfl,h1⟩:=GW h;obtain ⟨z,rfl,hz,q⟩:=Et h1;obtain ⟨v,rfl,a1⟩:=JL a;cases (show v=V.str z from a1);exact ⟨z,rfl,hz,k.i hr q⟩)
theorem hJ:BL X (.type "list") (λxs M Q=>GJ xs λx=>CH (IJ M x) λys=>Q (.lst ys) M):=EX.mono zi (by
 intro xs H Q;ext1⟨Z,ds,M,Q2,hr,a,h,k⟩;obtain ⟨x,rfl,h1⟩:=GW h;obtain ⟨ys,e,q⟩:=Cr h1;obtain ⟨v,rfl,a1⟩:=JL a;obtain ⟨p,vs,rfl,hs,a2⟩:=hr.rdS e a1;exact ⟨p,vs,rfl,hs,λl hl=>k.f hr hl a2 q⟩)
theorem VE:BL X (.type "tuple") (λxs M Q=>GJ xs λx=>CH (IJ M x) λys=>Q (.tup ys) M):=EX.mono ZfJ (by
 intro xs H Q;ext1⟨Z,ds,M,Q2,hr,a,h,k⟩;obtain⟨x,rfl,h1⟩:=GW h;obtain⟨ys,e,q⟩:=Cr h1;obtain⟨v,rfl,a1⟩:=JL a
 have go:Bo M x=some ys->∃p zs,[v]=[V.ref p]/\((FS X.K H p zs/\∀l,H l=none->Q (.ref l) (CD H l (.tup zs)))\/(LK X.K H p zs/\Q (.ref p) H)):=λe=>by
  obtain⟨p,vs,rfl,hs,a2⟩:=hr.rdL e a1;exact⟨p,vs,rfl,.inl ⟨hs,λl hl=>k.t hr hl a2 q⟩⟩
 cases x with
 |tup zs=>cases e;obtain⟨p,vs,rfl,hs,a2⟩:=hr.rdT a1;exact⟨p,vs,rfl,.inr ⟨hs,k.v hr a1 q⟩⟩
 |lst zs=>exact go e
 |ref p=>exact go e
 | _=>cases e)
theorem mD (hc:X.calm=true):BL X (.builtin "max") (λxs M Q=>Fq xs λx y=>EH x λi=>EH y λj=>Q (.int (if j > i then j else i)) M):=EX.mono (rg hc) (by
 intro xs H Q;ext1⟨Z,ds,M,Q2,hr,a,h,k⟩;obtain ⟨x,y,rfl,h1⟩:=L9 h;obtain ⟨i,rfl,h2⟩:=CG h1;obtain ⟨j,rfl,q⟩:=CG h2;obtain ⟨v,w,rfl,a1,a2⟩:=ats2 a;cases (show v=V.int i from a1);cases (show w=V.int j from a2);exact ⟨i,j,rfl,k.i hr q⟩)
theorem xO (hc:X.calm=true):BL X (.builtin "min") (λxs M Q=>Fq xs λx y=>EH x λi=>EH y λj=>Q (.int (if j<i then j else i)) M):=EX.mono (rh hc) (by
 intro xs H Q;ext1⟨Z,ds,M,Q2,hr,a,h,k⟩;obtain ⟨x,y,rfl,h1⟩:=L9 h;obtain ⟨i,rfl,h2⟩:=CG h1;obtain ⟨j,rfl,q⟩:=CG h2;obtain ⟨v,w,rfl,a1,a2⟩:=ats2 a;cases (show v=V.int i from a1);cases (show w=V.int j from a2);exact ⟨i,j,rfl,k.i hr q⟩)
noncomputable def cutD (xs:List D)(lo hi:Option Int):List D:=(xs.drop (HT.sIx xs.length 0 lo)).take (HT.sIx xs.length xs.length hi-HT.sIx xs.length 0 lo)
theorem Ds.cut (a:Ds Z vs ds)(lo hi:Option Int):Ds Z (O7 vs lo hi) (cutD ds lo hi):=by
 unfold O7 cutD;rw[a.length];exact(a.drop _).take _
def Xi:D->Option Int->Option Int->Mp->Eb->Prop:=λx lo hi M Q=>CH (Bo M x) λxs=>Q (.lst (cutD xs lo hi)) M
theorem pX:FM X Xi:=Sf.mono mf (by
 intro x lo hi H Q;ext1⟨Z,d,M,Q2,hr,a,h,k⟩;obtain ⟨xs,e,q⟩:=Cr h;obtain ⟨p,vs,rfl,hs,a2⟩:=hr.rdL e a;exact ⟨p,vs,rfl,hs,λl hl=>k.f hr hl (a2.cut lo hi) q⟩)
def Xg:D->Option Int->Option Int->Mp->Eb->Prop:=λx lo hi M Q=>match x with
 |.tup xs=>¬(HT.sIx xs.length 0 lo=0/\HT.sIx xs.length xs.length hi=xs.length)/\Q (.tup (cutD xs lo hi)) M
 |_=>False
theorem nJ:FM X Xg:=Sf.mono iq (by
 intro x lo hi H Q;ext1⟨Z,d,M,Q2,hr,a,h,k⟩;cases d with
 |tup xs=>obtain⟨hn,q⟩:=h;obtain⟨p,vs,rfl,hs,a2⟩:=hr.rdT a;exact⟨p,vs,rfl,hs,by rw[a2.length];exact hn,λl hl=>k.t hr hl (a2.cut lo hi) q⟩
 | _=>exact h.elim)
end
section
variable {X:Cx}{st:DC}{CK:List DC}{t u:HH}{e:Cb}{te:DG}{pos:Pos}
def SF:HH:=λD τ M=>D.nx τ M
def WN (t u:HH):HH:=λD τ M=>t {D with nx:=u D} τ M
def bU (t u:HH):HH:=λD τ M=>∃N:Gq->Mp->Prop,t {D with nx:=N} τ M/\∀τ' M',N τ' M'->u D τ' M'
def P6:HH:=λ_ _ _=>False
theorem lS.nx {K:Ac}{Z:Zt}{U:St}{τ:Gq}{H:Hp}{M:Mp}{D2:Js}{D:Oh}(er:ER K Z D2 D)(st:Gp Z U τ)(hr:HR K H M Z)(h:D2.nx τ M):D.nx U H:=er.nx Z U τ H M (Le.refl _) st hr h
theorem qE:Du X [] SF:=Lz.mono m9 λD U H ⟨Z,τ,M,D2,st,hr,h,er⟩=>lS.nx er st hr h
theorem qC (h1:GZ X st t)(h2:Du X CK u):Du X (st::CK) (WN t u):=Lz.mono (rA h1 h2) (by
 intro D U H;ext1⟨Z,τ,M,D2,st,hr,h,er⟩;exact ⟨Z,τ,M,{ D2 with nx:=u D2 },st,hr,h,⟨λZ1 U1 τ1 H1 M1 l1 s1 h1 q1=>⟨Z1,τ1,M1,D2,s1,h1,q1,er.le l1⟩,er.rt,er.bk,er.ct⟩⟩)
theorem Ec (h1:GZ X st t)(h2:Du X CK u):Du X (st::CK) (bU t u):=Lz.mono (rA h1 h2) (by
 intro D U H;ext1⟨Z,τ,M,D2,st,hr,⟨N,h,hN⟩,er⟩;exact ⟨Z,τ,M,{ D2 with nx:=N },st,hr,h,⟨λZ1 U1 τ1 H1 M1 l1 s1 h1 q1=>⟨Z1,τ1,M1,D2,s1,h1,hN τ1 M1 q1,er.le l1⟩,er.rt,er.bk,er.ct⟩⟩)
theorem qO (h1:GZ X st t):Du X [st] t:=na h1
theorem PH:GZ X st P6:=λ_ _ _ _ _ _ ⟨_,_,_,_,_,_,h,_⟩=>h.elim
def SJ (te:DG):HH:=λD τ M=>te τ M λ_ M1=>D.nx τ M1
theorem E2 (he:BX X e te)(hs:EE e none pos.line X.env=pure false:=by rfl):GZ X (.Expr e pos) (SJ te):=PS.mono (m8 he hs) (by
 intro D U H;ext1⟨Z,τ,M,D2,st,hr,h,er⟩;exact lE.bind st hr h λZ1 x dx H1 M1 l1 h1 a1 q1=>lS.nx (er.le l1) (st.mono l1) h1 q1)
def WR (te:DG):HH:=λD τ M=>te τ M D.rt
theorem Cw (he:BX X e te):GZ X (.Return (some e) pos) (WR te):=PS.mono (gj he) (by
 intro D U H;ext1⟨Z,τ,M,D2,st,hr,h,er⟩;exact ⟨Z,τ,M,D2.rt,st,hr,h,er.rt⟩)
def WW (c:K0)(t u:HH):HH:=λD τ M=>c τ M λb M1=>if b=true then t D τ M1 else u D τ M1
theorem DD (hc:HQ X c tc)(ha:Du X a t)(hb:Du X b u):GZ X (.If c a b pos) (WW tc t u):=PS.mono (zM hc ha hb) (by
 intro D U H;ext1⟨Z,τ,M,D2,st,hr,h,er⟩;refine lT.bind st hr h λZ1 c H1 M1 l1 h1 q1=>?_;cases c with
 |true=>rw[if_pos rfl]at q1 ⊢;exact⟨Z1,τ,M1,D2,st.mono l1,h1,q1,er.le l1⟩
 | false=>rw [if_neg Aj] at q1 ⊢;exact ⟨Z1,τ,M1,D2,st.mono l1,h1,q1,er.le l1⟩)
abbrev Se:=D->Gq->(Gq->Prop)->Prop
def lG (K:Ac)(g:Se):TG:=λv U H Q=>∃Z τ M d Q2,Gp Z U τ/\HR K H M Z/\At Z v d/\g d τ (λτ'=>Q2 τ' M)/\Rj K Z Q2 Q
@[irreducible] def K2 (X:Cx)(tg:Cb)(g:Se):Prop:=PG X tg (lG X.K g)
unseal K2
theorem PG.mono {tg:Cb}{t t':TG}(h:PG X tg t)(m:∀v U H Q,t' v U H Q->t v U H Q):PG X tg t':=λAd s U H v u Q I r q=>h Ad s U H v u Q I r (m v U H Q q)
def J3 (i:Nat):Se:=λd τ k=>k (τ.set i (some d))
theorem Pc {i:Nat}{x:Str}(hN:X.N.Nodup)(hi:X.N[i]? = some x)(hx:UW X.env.scope x)(hf:X.fn x=true\/X.env.scope.names.lookup x=some .local:=by first | exact .inl rfl | exact .inr rfl | assumption):K2 X (.Name x pos) (J3 i):=PG.mono (JM hN hi hx hf) (by
 intro v U H Q;ext1⟨Z,τ,M,d,Q2,st,hr,a,h,k⟩;exact k Z _ _ H M (Le.refl _) (st.set a i) hr h)
noncomputable def FJ:Gq->List Nat->List D->Gq
 | τ,i::is,x::xs=>FJ (τ.set i (some x)) is xs
 | τ,_,_=>τ
def Fp:List Nat->UQ
 |[]=>X5
 |i::is=>S6 (KW i) (Fp is)
theorem jD {K:Ac}(hr:HR K H M Z)(k:Rj K Z Q2 Q):∀is {vs:List V}{ds:List D}{U:St}{τ:Gq},Ds Z vs ds->Gp Z U τ->ds.length=is.length->Q2 (FJ τ is ds) M->Fp is vs U H Q
 |[],vs,ds,U,τ,a,st,hl,q=>by
  have e:=AC hl;subst e;cases a;exact⟨rfl,k Z U τ H M (Le.refl _) st hr (by unfold FJ at q;exact q)⟩
 |i::is,vs,[],U,τ,a,st,hl,q=>by cases hl
 |i::is,vs,d::ds,U,τ,a,st,hl,q=>by
  cases a with
  |cons a1 a2=>exact⟨_,_,rfl,jD hr k is a2 (st.set a1 i) (GH hl) q⟩
def X4 (is:List Nat):Se:=λd τ k=>match d with
 |.tup xs=>xs.length=is.length/\k (FJ τ is xs)
 |_=>False
theorem Us {es:List Cb}{k:Nat}{is:List Nat}(hc:X.calm=true)(h:QH X es (Fp is))
  (hn:(Bz es X.env).length=is.length:=by rfl) (hst:(Bz es X.env).findIdx? (·.1)=none:=by rfl):K2 X (.Tuple es k pos) (X4 is):=PG.mono (oQ hc h hn hst) (by
 intro v U H Q;ext1⟨Z,τ,M,d,Q2,st,hr,a,h,k⟩;cases d with
 |tup xs=>obtain⟨hl,q⟩:=h;obtain⟨p,vs,rfl,hs,a2⟩:=hr.rdT a;exact⟨p,vs,rfl,hs,by rw[a2.length];exact hl,jD hr k is a2 st hl q⟩
 | _=>exact h.elim)
def TY (te:DG)(g:Se):HH:=λD τ M=>te τ M λx M1=>g x τ λτ'=>D.nx τ' M1
theorem fB {K:Ac} :∀D U H,lS K (TY te g) D U H->O3 (lE K te) (lG K g) D U H:=by
 intro D U H;ext1⟨Z,τ,M,D2,st,hr,h,er⟩;exact lE.bind st hr h λZ1 x dx H1 M1 l1 h1 a1 q1=>⟨Z1,τ,M1,dx,D2.nx,st.mono l1,h1,a1,q1,er.nx.le l1⟩
theorem gJ (he:BX X e te)(hg:K2 X tg g)(hs:Kr [tg] e pos.line X.env=pure false:=by rfl)(hw:Ks [tg] e X.env=pure none:=by rfl)
  (h1:(Bz [tg] X.env).map (·.2)=[KH tg X.env]:=by rfl):GZ X (.Assign [tg] e pos) (TY te g):=PS.mono (ez he hg hs hw h1) fB
def HC (i:Nat)(te:DG):HH:=λD τ M=>te τ M λx M1=>D.nx (τ.set i (some x)) M1
theorem eZ {K:Ac}{i:Nat}:∀D U H,lS K (HC i te) D U H->O3 (lE K te) (KW i) D U H:=by
 intro D U H;ext1⟨Z,τ,M,D2,st,hr,h,er⟩;exact lE.bind st hr h λZ1 x dx H1 M1 l1 h1 a1 q1=>lS.nx (er.le l1) ((st.mono l1).set a1 i) h1 q1
theorem gL (hN:X.N.Nodup)(hi:X.N[i]? = some x)(hx:UW X.env.scope x)(he:BX X e te)(hs:EE e (some (.Name x pos')) pos.line X.env=pure false:=by rfl)(hf:X.fn x=true\/X.env.scope.names.lookup x=some .local:=by first | exact .inl rfl | exact .inr rfl | assumption) :
  GZ X (.Assign [.Name x pos'] e pos) (HC i te):=PS.mono (gl hN hi hx he hs hf) eZ
theorem CA (i)(hN:X.N.Nodup)(he:BX X e te)(hi:X.N[i]? = some x:=by rfl)(hx:UW X.env.scope x:=by exact BH rfl)(hs:EE e (some (.Name x pos')) pos.line X.env=pure false:=by rfl)(hf:X.fn x=true\/X.env.scope.names.lookup x=some .local:=by first | exact .inl rfl | exact .inr rfl | assumption) :
  GZ X (.Assign [.Name x pos'] e pos) (HC i te):=gL hN hi hx he hs hf
def WX (te:DG):DG:=λτ M Q=>te τ M λd M1=>J2 d λp=>match M1 p with
 |some (.lst ds)=>Q (.lst ds) (Lc M1 p)
 |some (.dic ds)=>Q (.dic ds) (Lc M1 p)
 |some (.dct ds)=>Q (.dct ds) (Lc M1 p)
 |_=>False
theorem L6 (h:BX X e te):BX X e (WX te):=PE.mono h (by
 intro U H Q;ext1⟨Z,τ,M,Q2,st,hr,h,k⟩;refine lE.bind st hr h λZ1 x dx H1 M1 l1 h1 a1 q1=>?_;obtain⟨p,rfl,q⟩:=IL q1;cases(show x=V.ref p from a1);split at q
 .next e=>exact k _ (.ref p) (.lst _) H1 _ (l1.trans Le.ext) (h1.frzL e) gY q
 .next e=>exact k _ (.ref p) (.dic _) H1 _ (l1.trans Le.ext) (h1.frzD e) pG q
 .next e=>exact k _ (.ref p) (.dct _) H1 _ (l1.trans Le.ext) (h1.frzDT e) qh q
 .exact q.elim)
def TV (c:K0)(tb:HH):HH:=λD τ M=>∃Pv:Nat->Gq->Mp->Prop,(∃m,Pv m τ M)/\∀m τ M,Pv m τ M ->
 c τ M λb M1=>if b=true then tb {D with nx:=λτ' M'=>∃m',m' < m/\Pv m' τ' M',ct:=λτ' M'=>∃m',m' < m/\Pv m' τ' M',bk:=D.nx} τ M1 else D.nx τ M1
theorem VR {c:Cb}{body:List DC}{tc:K0}{tb:HH}(hp:Pr (Ax X.prog X.w) X.A X.env X.xe)(hc:HQ X c tc)(hb:Du X body tb):GZ X (.While c body [] pos) (TV tc tb):=PS.mono (qw hp hc hb) (by
 intro D U H;ext1⟨Z,τ,M,D2,st,hr,⟨Pv,⟨m0,p0⟩,turn⟩,er⟩;refine⟨λm U H=>∃Z1 τ1 M1,Le Z Z1/\Gp Z1 U τ1/\HR X.K H M1 Z1/\Pv m τ1 M1,⟨m0,Z,τ,M,Le.refl _,st,hr,p0⟩,?_⟩;intro m U1 H1;ext1⟨Z1,τ1,M1,l1,s1,h1,p1⟩;refine lT.bind s1 h1 (turn m τ1 M1 p1) λZ2 c H2 M2 l2 h2 q2=>?_;cases c with
 |false=>rw[if_neg Aj]at q2 ⊢;exact lS.nx (er.le (l1.trans l2)) (s1.mono l2) h2 q2
 | true=>rw [if_pos rfl] at q2 ⊢;refine ⟨_,λU' H' n=>n,Z2,τ1,M2,_,s1.mono l2,h2,q2,?_⟩;have k:Rj X.K Z2 (λτ' M'=>∃ m',m' < m/\Pv m' τ' M') λU' H'=>∃ m',m' < m/\∃ Z1 τ1 M1,Le Z Z1/\Gp Z1 U' τ1/\HR X.K H' M1 Z1/\Pv m' τ1 M1:=λZ3 U3 τ3 H3 M3 l3 s3 h3 ⟨m',lt,p'⟩=>⟨m',lt,Z3,τ3,M3,l1.trans (l2.trans l3),s3,h3,p'⟩;exact ⟨k,er.rt.le (l1.trans l2),er.nx.le (l1.trans l2),k⟩)
def YH (K:Ac)(J:It)(xs:List D)(S:Mp->Prop)(Z:Zt):Prop:=∀i H M Z',Le Z Z'->HR K H M Z'->S M ->
 (∀d,xs[i]? = some d->J.go i H/\∀x H',J.yld i H x H'->∃Z2,Le Z' Z2/\HR K H' M Z2/\At Z2 x d)/\(xs.length<=i->J.stop i H)
abbrev Nr:=Gq->Mp->(List D->(Mp->Prop)->Mp->Prop)->Prop
def lI (K:Ac)(t:Nr):TI:=λU H R=>∃Z τ M R2,Gp Z U τ/\HR K H M Z/\t τ M R2/\∀Z' J xs S H' M',Le Z Z'->HR K H' M' Z'->YH K J xs S Z'->R2 xs S M'->R J H'
@[irreducible] def Hs (X:Cx)(tg iter:Cb)(t:Nr):Prop:=PI X tg iter (lI X.K t)
unseal Hs
theorem PI.mono {t t':TI}(h:PI X tg iter t)(m:∀U H R,t' U H R->t U H R):PI X tg iter t':=λAd s U H R I q=>h Ad s U H R I (m U H R q)
def SA (te:DG):Nr:=λτ M R=>te τ M λx M1=>CH (Bo M1 x) λxs=>R xs (λM=>Bo M x=some xs) M1
def WJ (te:DG):Nr:=λτ M R=>te τ M λx M1=>match x with
 |.tup xs=>R xs (λ_=>True) M1
 |_=>False
theorem PJ {tg l:Cb}(hl:BX X l tl):Hs X tg l (SA tl):=PI.mono (lg hl) (by
 intro U H R;ext1⟨Z,τ,M,R2,st,hr,h,k⟩;refine lE.bind st hr h λZ1 v d H1 M1 l1 h1 a1 q1=>?_;obtain ⟨xs,e,q⟩:=Cr q1;obtain ⟨p,vs,rfl,hs,a2⟩:=h1.rdL e a1;refine ⟨p,rfl,⟨vs,hs⟩,k Z1 _ xs _ H1 M1 l1 h1 (λi H M Z' l hr s=>?_) q⟩;obtain ⟨p',ws,e2,hs2,a3⟩:=hr.rdL s (a1.mono l);cases e2;refine ⟨λd hd=>?_,λhi=>⟨ws,hs2,by rw [a3.length];exact hi⟩⟩;obtain ⟨v,hv,av⟩:=a3.get hd;refine ⟨⟨ws,v,hs2,hv⟩,λx H' y=>?_⟩;obtain ⟨rfl,y⟩:=y;have:=y ws hs2;rw [hv] at this;cases this;exact ⟨Z',Le.refl _,hr,av⟩)
theorem QD {tg l:Cb}(hl:BX X l tl):Hs X tg l (WJ tl):=PI.mono (eh hl) (by
 intro U H R;ext1⟨Z,τ,M,R2,st,hr,h,k⟩;refine lE.bind st hr h λZ1 v d H1 M1 l1 h1 a1 q1=>?_;cases d with
 |tup xs=>obtain⟨p,vs,rfl,hs,a2⟩:=h1.rdT a1;refine⟨p,rfl,⟨vs,hs⟩,k Z1 _ xs _ H1 M1 l1 h1 (λi H M Z' l hr s=>?_) q1⟩;obtain⟨p',ws,e2,hs2,a3⟩:=hr.rdT (a1.mono l);cases e2;refine⟨λd hd=>?_,λhi=>⟨ws,hs2,by rw[a3.length];exact hi⟩⟩;obtain⟨v,hv,av⟩:=a3.get hd;refine⟨⟨ws,v,hs2,hv⟩,λx H' y=>?_⟩;obtain⟨rfl,y⟩:=y;have:=y ws hs2;rw[hv]at this;cases this;exact⟨Z',Le.refl _,hr,av⟩
 | _=>exact q1.elim)
noncomputable def NW (lo:Int)(n:Nat):List D:=(Bl n).map λk=>.int (lo+(k:Nat))
theorem Th {lo:Int}(h:(NW lo n)[i]? = some d):i<n/\d=.int (lo+(i:Nat)):=by
 unfold NW at h;rw[AL]at h;by_cases hi:i<n
 .rw[EA hi]at h;exact⟨hi,(Ba h).symm⟩
 .rw[Er.mpr (by rw[B3];ext)]at h;cases h
theorem R8 (lo:Int)(n:Nat):(NW lo n).length=n:=by unfold NW;rw[Ae,B3]
theorem uo {K:Ac}(lo:Int)(n:Nat):YH K (aZ lo n) (NW lo n) (λ_=>True) Z:=λi H M Z' l hr s=>by
 refine⟨λd hd=>?_,λhi=>by rw[R8]at hi;exact hi⟩;obtain⟨hi,rfl⟩:=Th hd;refine⟨hi,λx H' y=>?_⟩;obtain⟨rfl,rfl⟩:=y;exact⟨Z',Le.refl _,hr,rfl⟩
def Sz (t:Kp):Nr:=λτ M R=>t τ M λxs M1=>GJ xs λx=>EH x λj=>(-(2^62)<=j/\j<2^62)/\R (NW 0 j.toNat) (λ_=>True) M1
theorem UN {tg a:Cb}{ta:Kp}{p pos:Pos}(hm:X.mg "range" = none)(ha:Gc X [a] ta)(hg:Gl X "range":=by rfl)(hs:Ar [a] X.env=[(false,eval a X.env)]:=by rfl) :
  Hs X tg (.Call (.Name "range" p) [a] [] pos) (Sz ta):=PI.mono (ud hg hm ha hs) (by
 intro U H R;ext1⟨Z,τ,M,R2,st,hr,h,k⟩;refine ⟨Z,τ,M,_,st,hr,h,λZ1 vs ds H1 M1 l1 h1 a1 q1=>?_⟩;obtain ⟨x,rfl,q⟩:=GW q1;obtain ⟨j,rfl,⟨b1,b2⟩,q⟩:=CG q;obtain ⟨v,rfl,a2⟩:=JL a1;cases (show v=V.int j from a2);exact ⟨j,rfl,b1,b2,k Z1 _ _ _ H1 M1 l1 h1 (uo _ _) q⟩)
def UV (xs:List D)(S:Mp->Prop)(g:Se)(tb:HH)(D:Js)(τ:Gq)(M:Mp):Prop:=∃Pv:Nat->Gq->Mp->Prop,Pv 0 τ M/\(∀k τ M,Pv k τ M->S M) /\
 (∀k x τ M,xs[k]? = some x->Pv k τ M->g x τ λτ'=>tb {D with nx:=Pv (k+1),ct:=Pv (k+1),bk:=D.nx} τ' M)/\∀τ M,Pv xs.length τ M->D.nx τ M
def WY (ti:Nr)(g:Se)(tb:HH):HH:=λD τ M=>ti τ M λxs S M1=>UV xs S g tb D τ M1
theorem MC {tg iter:Cb}{body:List DC}{wi:Nr}{g:Se}{tb:HH}(hp:Pr (Ax X.prog X.w) X.A X.env X.xe)(hc:X.calm=true)(hi:Hs X tg iter wi)(hg:K2 X tg g)(hb:Du X body tb)
  (hs:∀ x,BC iter X.env x=pure x:=by intro _;rfl):GZ X (.For tg iter body [] pos) (WY wi g tb):=PS.mono (fc hp hc hi hg hb hs) (by
 intro D U H;ext1⟨Z,τ,M,D2,st,hr,h,er⟩;refine⟨Z,τ,M,_,st,hr,h,λZ1 J xs S H1 M1 l1 h1 jk ⟨Pv,p0,stay,turn,done⟩=>?_⟩;refine⟨λi m U H=>m=xs.length-i/\i<=xs.length/\∃Z2 τ2 M2,Le Z1 Z2/\Gp Z2 U τ2/\HR X.K H M2 Z2/\Pv i τ2 M2,⟨xs.length,by simp,C9 _,Z1,τ,M1,Le.refl _,st.mono l1,h1,p0⟩,?_⟩;intro i m U2 H2;ext1⟨e1',hi,Z2,τ2,M2,l2,s2,h2,p2⟩;obtain⟨go,stop⟩:=jk i H2 M2 Z2 l2 h2 (stay i τ2 M2 p2);by_cases hlt:i<xs.length
 .obtain⟨g1,g2⟩:=go _ (Ag hlt);refine .inr ⟨g1,λU' H'=>∃Z3 τ3 M3,Le Z1 Z3/\Gp Z3 U' τ3/\HR X.K H' M3 Z3/\Pv (i+1) τ3 M3,λU' H' n=>⟨xs.length-(i+1),by ext,rfl,hlt,n⟩,λx H' y=>?_⟩;obtain⟨Z5,l5,h5,a⟩:=g2 x H' y;have tk:=turn i _ τ2 M2 (Ag hlt) p2;have l2:=l2.trans l5;refine⟨Z5,τ2,M2,_,λτ' M'=>tb {D2 with nx:=Pv (i+1),ct:=Pv (i+1),bk:=D2.nx} τ' M',s2.mono l5,h5,a,tk,λZ3 U3 τ3 H3 M3 l3 s3 h3 q3=>?_⟩;have k:Rj X.K Z3 (Pv (i+1)) λU' H'=>∃Z3 τ3 M3,Le Z1 Z3/\Gp Z3 U' τ3/\HR X.K H' M3 Z3/\Pv (i+1) τ3 M3:=λZ4 U4 τ4 H4 M4 l4 s4 h4 q4=>⟨Z4,τ4,M4,l2.trans (l3.trans l4),s4,h4,q4⟩;have er3:=er.le (l1.trans (l2.trans l3));exact⟨Z3,τ3,M3,_,s3,h3,q3,⟨k,er3.rt,er3.nx,k⟩⟩
 .have e:i=xs.length:=by ext
  subst e;exact .inl ⟨stop (AJ _),lS.nx (er.le (l1.trans l2)) s2 h2 (done τ2 M2 p2)⟩)
end
end L3
namespace L3
open PySem PySem.Spec PyProof.Rows L2
unseal BX HQ Jw Gc Ky GZ Du Cq FL BL Fv FM K2 Hs
section
variable {X:Cx}{e:Cb}{te:DG}
noncomputable def Md (τ:Gq)(caps:List (Str×Nat))(v:Option D):Gq:=v::caps.map λc=>(τ[c.2]?).join
theorem Gp.join (h:Gp Z U τ)(i:Nat):OA Z (U[i]?).join (τ[i]?).join:=by
 cases e:(τ[i]?).join with
 |none=>cases(U[i]?).join<;>exact Ch
 |some d=>obtain⟨v,h1,h2⟩:=h.get (EF.mp e);rw[h1];exact h2
theorem Gp.cap (h:Gp Z U τ)(caps:List (Str×Nat))(a:At Z x d):Gp Z (MT U caps (some x)) (Md τ caps (some d)):=by
 refine .cons a ?_;induction caps with
 |nil=>exact .nil
 |cons c r ih=>exact .cons (h.join c.2) ih
def Gy:K0:=λ_ M Q=>Q true M
def F4 (xs:List D)(S:Mp->Prop)(caps:List (Str×Nat))(tt:K0)(te:DG)(τ:Gq)(M:Mp)(Q:List D->Mp->Prop):Prop:=xs.length<=Am/\∃W:Nat->List D->Mp->Prop,W 0 [] M/\(∀i ys M,W i ys M->S M/\ys.length<=i) /\
 (∀i x ys M,xs[i]? = some x->W i ys M->tt (Md τ caps (some x)) M λb M2=>if b=true then te (Md τ caps (some x)) M2 λy M3=>W (i+1) (ys++[y]) M3 else W (i+1) ys M2)/\∀ys M,W xs.length ys M->Q ys M
def II (wi:Nr)(caps:List (Str×Nat))(tt:K0)(te:DG):DG:=λτ M Q=>wi τ M λxs S M1=>F4 xs S caps tt te τ M1 λys M2=>Q (.lst ys) M2
def P8 (wi:Nr)(caps:List (Str×Nat))(tt:K0)(te:DG):DG:=λτ M Q=>wi τ M λxs S M1=>F4 xs S caps tt te τ M1 λys M2=>∀p,M2 p=none->Q (.ref p) (put M2 p (.lst ys))
theorem Yx {K:Ac}(st:Gp Z U τ)(hr:HR K H M Z)(h:wi τ M λxs S M1=>F4 xs S caps tt te τ M1 QL)
  (ht:∀U H Q,lT K tt U H Q->tt1 U H Q)
  (k:∀Z1 H1 M1 vs ds,Le Z Z1->HR K H1 M1 Z1->Ds Z1 vs ds->QL ds M1->∀p,H1 p=none->Q (.ref p) (CD H1 p (.lst vs))):JZ (lI K wi) caps tt1 (lE K te) U H Q:=by
 refine⟨Z,τ,M,_,st,hr,h,λZ1 J xs S H1 M1 l1 h1 jk ⟨hz,W,w0,stay,turn,done⟩=>?_⟩;refine⟨xs.length,λi vs H=>i<=xs.length/\∃Z2 M2 ds,Le Z1 Z2/\HR K H M2 Z2/\Ds Z2 vs ds/\W i ds M2,⟨C9 _,Z1,M1,[],Le.refl _,h1,.nil,w0⟩,?_⟩;intro i vs H2;ext1⟨hi,Z2,M2,ds,l2,h2,a2,w2⟩;obtain⟨s2,hl⟩:=stay i ds M2 w2;obtain⟨go,stop⟩:=jk i H2 M2 Z2 l2 h2 s2;have la:=a2.length;by_cases hlt:i<xs.length
 .obtain⟨g1,g2⟩:=go _ (Ag hlt);refine .inr ⟨g1,hlt,by ext,λx H' y=>?_⟩;obtain⟨Z5,l5,h5,a⟩:=g2 x H' y;have tk:=turn i _ ds M2 (Ag hlt) w2;have l2:=l2.trans l5;have a2:=a2.mono l5;refine ht _ _ _ (lT.bind ((st.mono (l1.trans l2)).cap caps a) h5 tk λZ3 b H3 M3 l3 h3 q3=>?_);cases b with
  |false=>rw[if_neg Aj]at q3 ⊢;exact⟨hlt,Z3,M3,ds,l2.trans l3,h3,a2.mono l3,q3⟩
  |true=>rw[if_pos rfl]at q3 ⊢;refine lE.bind (((st.mono (l1.trans l2)).cap caps a).mono l3) h3 q3 λZ4 z dz H4 M4 l4 h4 a4 q4=>?_;exact⟨hlt,Z4,M4,ds++[dz],l2.trans (l3.trans l4),h4,(a2.mono (l3.trans l4)).append (.cons a4 .nil),q4⟩
 .have e:i=xs.length:=by ext
  subst e;exact .inl ⟨stop (AJ _),by ext,k Z2 H2 M2 vs ds (l1.trans l2) h2 a2 (done ds M2 w2)⟩
theorem LI {K:Ac}:∀U H Q,lT K Gy U H Q->SU U H Q:=λU H Q ⟨Z,τ,M,Q2,st,hr,h,k⟩=>k Z true H M (Le.refl _) hr h
theorem N7 {K:Ac}(ht:∀U H Q,lT K tt U H Q->tt1 U H Q):∀U H Q,lE K (II wi caps tt te) U H Q->JZ (lI K wi) caps tt1 (lE K te) U H Q:=by
 intro U H Q;ext1⟨Z,τ,M,Q2,st,hr,h,k⟩;exact Yx st hr h ht λZ1 H1 M1 vs ds l1 h1 a1 q p hp=>(k.le l1).f h1 hp a1 q
theorem XY {K:Ac}(ht:∀U H Q,lT K tt U H Q->tt1 U H Q):∀U H Q,lE K (P8 wi caps tt te) U H Q->JZ (lI K wi) caps tt1 (lE K te) U H Q:=by
 intro U H Q;ext1⟨Z,τ,M,Q2,st,hr,h,k⟩;exact Yx st hr h ht λZ1 H1 M1 vs ds l1 h1 a1 q p hp=>(k.le l1).l h1 hp a1 q
variable {scope:Lo}{x:Str}{px:Pos}{caps:List (Str×Nat)}{elt iter:Cb}  {wi:Nr}
theorem GV (B:Ei X scope x caps)(hc:X.calm=true)(hi:Hs X (.Name x px) iter wi)(he:∀cl C fp pn s H,BX (GC X scope cl C (x::caps.map (·.1)) fp pn s H) elt te)
  (hs:∀x,BC iter X.env x=pure x:=by intro _;rfl):BX X (.ListComp elt [⟨.Name x px,iter,[],0⟩] scope pos) (II wi caps Gy te):=PE.mono (ZK (te:=lE X.K te) B hc hi he (λ_ _ _ _ _ _=>Im.nil) hs) (N7 LI)
theorem XE (B:Ei X scope x caps)(hc:X.calm=true)(hi:Hs X (.Name x px) iter wi)(he:∀cl C fp pn s H,BX (GC X scope cl C (x::caps.map (·.1)) fp pn s H) elt te)
  (hs:∀x,BC iter X.env x=pure x:=by intro _;rfl):BX X (.ListComp elt [⟨.Name x px,iter,[],0⟩] scope pos) (P8 wi caps Gy te):=PE.mono (ZK (te:=lE X.K te) B hc hi he (λ_ _ _ _ _ _=>Im.nil) hs) (XY LI)
theorem OE (B:Ei X scope x caps)(hc:X.calm=true)(hi:Hs X (.Name x px) iter wi)(he:∀cl C fp pn s H,BX (GC X scope cl C (x::caps.map (·.1)) fp pn s H) elt te)(hif:∀cl C fp pn s H,HQ (GC X scope cl C (x::caps.map (·.1)) fp pn s H) c tt)
  (hs:∀x,BC iter X.env x=pure x:=by intro _;rfl):BX X (.ListComp elt [⟨.Name x px,iter,[c],0⟩] scope pos) (II wi caps tt te):=PE.mono (ZK (te:=lE X.K te) (tt:=lT X.K tt) B hc hi he (λcl C fp pn s H=>Im.one (hif cl C fp pn s H)) hs) (N7 λ_ _ _ h=>h)
section
variable {i:Nat}{y:Str}
theorem XW {K:Ac}(m:∀U H Q,lE K t2 U H Q->t1 U H Q):∀D U H,lS K (HC i t2) D U H->O3 t1 (KW i) D U H:=by
 intro D U H;ext1⟨Z,τ,M,D2,st,hr,h,er⟩;exact m _ _ _ (lE.bind st hr h λZ1 x dx H1 M1 l1 h1 a1 q1=>lS.nx (er.le l1) ((st.mono l1).set a1 i) h1 q1)
variable (hN:X.N.Nodup)(hi0:X.N[i]? = some y)(hy:X.env.scope.names.lookup y=some .local)(B:Ei X scope x caps)(hc:X.calm=true)(hi:Hs X (.Name x px) iter wi)(he:∀cl C fp pn s H,BX (GC X scope cl C (x::caps.map (·.1)) fp pn s H) elt te)
theorem qx (hN:X.N.Nodup)(hi0:X.N[i]? = some y)(hy:X.env.scope.names.lookup y=some .local)(B:Ei X scope x caps)(hc:X.calm=true)(hi:Hs X (.Name x px) iter wi)(he:∀cl C fp pn s H,BX (GC X scope cl C (x::caps.map (·.1)) fp pn s H) elt te)
  (hsw:EE (.ListComp elt [⟨.Name x px,iter,[],0⟩] scope pos) (some (.Name y py)) spos.line X.env=pure true:=by rfl) (hs:∀x,BC iter X.env x=pure x:=by intro _;rfl) :
  GZ X (.Assign [.Name y py] (.ListComp elt [⟨.Name x px,iter,[],0⟩] scope pos) spos) (HC i (II wi caps Gy te)):=PS.mono (m6 (te:=lE X.K te) hN hi0 hy B hc hi he (λ_ _ _ _ _ _=>Im.nil) hsw hs) (XW (N7 LI))
end
def lM (K:Ac)(r:D->List D->Mp->Eb->Prop):V->List V->Hp->VK->Prop:=λx xs H Q=>∃Z d ds M Q2,HR K H M Z/\At Z x d/\Ds Z xs ds/\r d ds M Q2/\Hr K Z Q2 Q
@[irreducible] def EI (X:Cx)(id:String)(r:D->List D->Mp->Eb->Prop):Prop:=MY X id (lM X.K r)
unseal EI
theorem MY.mono {id:String}{r r':V->List V->Hp->VK->Prop}(h:MY X id r)(m:∀x xs H Q,r' x xs H Q->r x xs H Q):MY X id r':=λAd s U H x xs v us Q I rx r q=>h Ad s U H x xs v us Q I rx r (m x xs H Q q)
def kW (T:String)(r:D->List D->Mp->Eb->Prop)(to:DG)(t:Kp):DG:=λτ M Q=>to τ M λx M1=>Nl M1 x=some T/\t τ M1 λxs M2=>r x xs M2 Q
def W0 (T:String)(r:D->List D->Mp->Eb->Prop)(to:DG):DG:=λτ M Q=>to τ M λx M1=>Nl M1 x=some T/\r x [] M1 Q
theorem qT {K:Ac}{H:Hp}{M:Mp}{Z:Zt}{T:String}{v:V}{d:D}(hr:HR K H M Z)(a:At Z v d)(h:Nl M d=some T)(hT:T = "list"\/T = "int"\/T = "str"):Zh K T v H:=by
 cases d with
 |int i=>cases h;cases(show v=V.int i from a);rfl
 |str i=>cases h;cases(show v=V.str i from a);rfl
 |lst ds=>cases h;obtain⟨p,vs,rfl,hs,_⟩:=hr.rdF a;exact .inl ⟨rfl,vs,hs⟩
 |dic ds=>cases h;rcases hT with h | h | h<;>exact absurd h (by decide)
 |dct ds=>cases h;rcases hT with h | h | h<;>exact absurd h (by decide)
 |ref p=>
  cases(show v=.ref p from a);cases q:M p with
  |none=>rw[Vp q]at h;cases h
  |some o=>
   rw[Vp q]at h;cases o with
   |lst l=>cases h;obtain⟨vs,r,_⟩:=hr.rdM q;exact .inl ⟨rfl,vs,FS.of r⟩
   |dic l=>cases h;rcases hT with h | h | h<;>exact absurd h (by decide)
   |dct l=>cases h;rcases hT with h | h | h<;>exact absurd h (by decide)
   |obj C f=>cases h
 |non=>cases h;rcases hT with h | h | h<;>exact absurd h (by decide)
 |bl _=>cases h;rcases hT with h | h | h<;>exact absurd h (by decide)
 |tup _=>cases h;rcases hT with h | h | h<;>exact absurd h (by decide)
 |ty _=>cases h
theorem L7 {T id:String}(pa:NF T)(slot:bP T name id)(hty:Tp (.builtin id)=pure (.type "method_descriptor"))(hm:EI X id r)(ho:BX X o to)(ha:Gc X (e::es) t)
  (hT:T = "list"\/T = "int"\/T = "str":=by decide)
  (hbase:Cz o name X.env (eval o X.env)=eval o X.env:=by rfl)
  (hfew:((Cc cpos (Ar (e::es) X.env)).all (λx=>!x.1) && (Fk cpos (Dy [] X.env)).all (λx=>x.1.isSome)
   && decide ((e::es).length+([]:List EW).length+(if ([]:List EW).isEmpty then 0 else 1)<30))=true:=by rfl)
  (hline:(apos.endLine == cpos.line)=true:=by rfl) (hs:Ar (e::es) X.env=(false,eval e X.env)::Ar es X.env:=by rfl) (hplain:(Cc cpos (Ar es X.env)).any (·.1)=false:=by rfl) :
  BX X (.Call (.Attribute o name apos) (e::es) [] cpos) (kW T r to t):=PE.mono (mI pa slot hty hm ho ha hbase hfew hline hs hplain) (by
 intro U H Q;ext1⟨Z,τ,M,Q2,st,hr,h,k⟩;refine lE.bind st hr h λZ1 x dx H1 M1 l1 h1 a1 q1=>⟨qT h1 a1 q1.1 hT,Z1,τ,M1,_,st.mono l1,h1,q1.2,λZ2 vs ds H2 M2 l2 h2 a2 q2=>?_⟩;exact ⟨Z2,dx,ds,M2,Q2,h2,a1.mono l2,a2,q2,k.le (l1.trans l2)⟩)
theorem RK {T id:String}(pa:NF T)(slot:bP T name id)(hty:Tp (.builtin id)=pure (.type "method_descriptor"))(hm:EI X id r)(ho:BX X o to)
  (hT:T = "list"\/T = "int"\/T = "str":=by decide)
  (hbase:Cz o name X.env (eval o X.env)=eval o X.env:=by rfl) (hline:(apos.endLine == cpos.line)=true:=by rfl) :
  BX X (.Call (.Attribute o name apos) [] [] cpos) (W0 T r to):=PE.mono (b7 pa slot hty hm ho hbase hline) (by
 intro U H Q;ext1⟨Z,τ,M,Q2,st,hr,h,k⟩;refine lE.bind st hr h λZ1 x dx H1 M1 l1 h1 a1 q1=>⟨qT h1 a1 q1.1 hT,Z1,dx,[],M1,Q2,h1,a1,.nil,q1.2,k.le l1⟩)
def Jn:D->List D->Mp->Eb->Prop:=λx xs M Q=>J2 x λp=>GJ xs λy=>match M p with
 |some (.lst ys)=>ys.length<Am/\Q .non (put M p (.lst (ys++[y])))
 |_=>False
theorem Rh:EI X "list.append" Jn:=MY.mono uy (by
 intro x xs H Q;ext1⟨Z,d,ds,M,Q2,hr,a,as,h,k⟩;obtain⟨p,rfl,h1⟩:=IL h;obtain⟨y,rfl,h2⟩:=GW h1;cases(show x=V.ref p from a);obtain⟨v,rfl,av⟩:=JL as;split at h2
 .next ys e=>
  obtain⟨hl,q⟩:=h2;obtain⟨vs,r,a2⟩:=hr.rdM e;refine⟨p,vs,v,rfl,rfl,r,by rw[a2.length];exact hl,?_⟩;exact k Z .non .non _ _ (Le.refl _) (hr.chgL e (a2.append (.cons av .nil))) rfl q
 .exact h2.elim)
theorem dh:EI X "int.bit_length" (λx xs M Q=>EH x λi=>xs=[]/\Q (.int (D9 i)) M):=MY.mono je (by
 intro x xs H Q;ext1⟨Z,d,ds,M,Q2,hr,a,as,h,k⟩;obtain ⟨i,rfl,rfl,q⟩:=CG h;cases as;exact ⟨i,a,rfl,k.i hr q⟩)
def Xf (h:Av)(D:List (Str×Int)):Mi:=λx y M Q=>J2 x λa=>a=h/\GI y λk=>CH (D.lookup k) λv=>Q (.int v) M
theorem nY {D:List (Str×Int)}(T:TabOk X.K X.w h D):Fv X (Xf h D):=Pe.mono cv (by
 intro x y H Q;ext1⟨Z,dx,dy,M,Q2,hr,ax,ay,q,k⟩;obtain ⟨a,rfl,rfl,q1⟩:=IL q;obtain ⟨k',rfl,q2⟩:=Et q1;obtain ⟨v,l,q3⟩:=Cr q2;exact ⟨a,D,k',v,ax,ay,T,l,k.i hr q3⟩)
def Dn (Q:Eb):Eb:=λd M=>∃M0,Sub M0 M/\Q d M0
theorem Dn.of (h:Q d M):Dn Q d M:=⟨M,Sub.refl _,h⟩
noncomputable def JG (N:List Str)(ds:List D):Gq:=ds.map some++AE (N.length-ds.length) none
noncomputable def Ej:List Str->List D->Gq
 |[],_=>[]
 |_::N,[]=>none::Ej N []
 |_::N,d::ds=>some d::Ej N ds
theorem jA:∀{N:List Str}{ds:List D},ds.length<=N.length->Ej N ds=JG N ds
 |[],[],_=>rfl
 |[],d::ds,h=>by simp at h
 |n::N,[],_=>by
  unfold Ej;rw[jA (C9 _)];simp[JG,DQ]
 |n::N,d::ds,h=>by
  unfold Ej;rw[jA (by simpa using h)];simp[JG]
theorem wq (a:Ds Z vs ds):Gp Z (L2.start N vs) (JG N ds):=by
 unfold L2.start JG;rw[a.length]
 have tail:∀n,Gp Z (AE n none) (AE n none):=λn=>by
  induction n with
  |zero=>exact .nil
  |succ n ih=>exact .cons Ch ih
 generalize N.length-ds.length=n;induction a with
 |nil=>exact tail n
 |cons r _ ih=>exact .cons r ih
end
section
variable   {K:Ac}
theorem CM.ok2 {st:DC}(F:CM K x qual st f fd)(S:EM N ps (IP st))(len:∀ds M Q,sp ds M Q->ds.length=ps.length)
  (hbody:∀ cdv A outer s H E ds M Q,Dt k (A.deeper (FE qual (IP st) s.heap.objs.size f cdv))->sp ds M Q ->
   ∃ t,Du (Kn CX0 P w K mg base N qual (IP st) f cdv A outer s H E).nox (N9 st) t/\t { nx:=λ_ M'=>Dn Q .non M',rt:=Dn Q } (Ej N ds) M):FnOk P w K mg base CX0 (k+1) f fd ps (lSp K sp):=by
 refine F.ok S (λvs H Q E h=>?_) λcdv A outer s H vs Q E hr h=>?_
 .obtain⟨Z,ds,M,Q2,_,a,h,_⟩:_:=h;rw[a.length];exact len ds M Q2 h
 .obtain⟨Z,ds,M,Q2,hR,a,h,k'⟩:_:=h;obtain⟨t,ht,q⟩:=hbody cdv A outer s H E ds M Q2 hr h;have hpl:ps.length<=N.length:=by have:=congrArg Eg S.pre;rw[AW]at this;ext
  rw[jA (by rw[len ds M Q2 h];exact hpl)]at q;refine⟨_,ht,Z,JG N ds,M,_,wq a,hR,q,?_⟩;refine⟨λZ1 U τ H1 M1 l1 s1 h1 q1=>?_,k'.dn,λ_ _ _ _ _ _ _ _ q=>q.elim,λ_ _ _ _ _ _ _ _ q=>q.elim⟩;exact(k'.dn.le l1).n h1 q1
def spLaw2:Ee:=λds M Q=>∃ns:List Int,ds=[.lst (ns.map D.int)]/\ns.length<=63/\∀M',Q (.bl true) M'
theorem rL (Z)(ns:List Int):Ds Z (ns.map V.int) (ns.map D.int):=by
 induction ns with
 |nil=>exact .nil
 |cons n r ih=>exact .cons rfl ih
theorem de {ns:List Int}(hl:ns.length<=63)(hS:FS K H a (ns.map V.int)):lSp K spLaw2 [.ref a] H (λv _=>v=.bl true) E:=by
 refine⟨λb d=>b=a/\d=.lst (ns.map D.int),[.lst (ns.map D.int)],λ_=>none,λd _=>d=.bl true,⟨λp d z=>?_,λp o e=>nomatch e⟩,.cons ⟨a,rfl,rfl,rfl⟩ .nil,⟨ns,rfl,hl,λ_=>rfl⟩,λZ' v d H' M' _ _ at' q=>?_⟩
 .obtain⟨rfl,rfl⟩:=z;rcases hS with r|r
  .exact .inl ⟨_,r,rL _ ns⟩
  .exact .inr ⟨_,r,rL _ ns⟩
 .subst q;exact at'
theorem walk2 {l:Pq}{K:KJ->Ac}(hn:l.most=some 63)(hdf:d.params.defaults=[])(hr:Dt k JT)
  (hY:∀w h,YP w h->(K w.params).In h)
  (F:∀ w mg fa h,(K w.params).In h->h.Ns BY mg->mg d.name=some (.ref fa) ->
   ∃ fd,(∀ s u,Nk s fd ⟨[u],[]⟩ [("script",u)])/\∀ base,(K w.params).In base->base.Ns BY mg->FnOk l.prog w (K w.params) mg base CX0 k fa fd ["script"] (lSp (K w.params) spLaw2)) :
  QP q loose XP YP l.row.toRowW d [] (λf vs=>OQ f vs):=
 L2.walk_of hn (by decide) hdf hr hY F (λ_ _ a ns hl _ hS=>de hl hS) λ_ _ _ _ _ z=>z
end
end L3
namespace L3
open PySem PySem.Spec PyProof.Rows L2
unseal BX HQ Jw Gc Ky GZ Du Cq FL BL Fv FM K2 Hs EI
section
theorem ou (I:A6 X Ad U H s)(h1:FS X.K H p vs)(h2:FS X.K H p' ws)(hz:vs.length+ws.length<=Am)
  (q:∀l,H l=none->Q (.ref l) (CD H l (.lst (vs++ws)))):Aq (Ax X.prog X.w) X.A (BD .Add (.ref p) (.ref p')) (EP X Ad U Q) X.xe s:=by
 obtain⟨Bj,r1,l1,_⟩:=I.list h1;obtain⟨its2,r2,l2,_⟩:=I.list h2;have n1:=r1.length;have n2:=r2.length;obtain⟨⟨cls,dd,data,sl⟩,ho,hc,n,hd⟩:=l1.isList;obtain⟨⟨cls2,dd2,data2,sl2⟩,ho2,hc2,n2',hd2⟩:=l2.isList;simp only at hc hd hc2 hd2;subst hc hd hc2 hd2;refine concat_meets ⟨_,ho,rfl⟩ ⟨_,ho2,rfl⟩ noFill_list_add seq_list_add PySem.F.slot_list_add PySem.F.entry_list_add (PySem.F.args_list_add_2 _ _) (list_addW p p' Bj.toArray its2.toArray n n2' dd dd2 sl sl2 (by simp;ext)) ⟨ho,ho2,?_⟩;have e:Bj.toArray++its2.toArray=(Bj++its2).toArray:=by simp
 rw[e];exact⟨.ref _,_,I.lnew (r1.append r2) (by rw[Ao];ext),rfl,q _ I.fresh⟩
def SW:Mi:=λx y M Q=>CH (Bo M x) λxs=>CH (Bo M y) λys=>xs.length+ys.length<=Am/\Q (.lst (xs++ys)) M
theorem gQ:Cq X (BD .Add) SW:=by
 intro Ad s U H x y v u Q I rx ry;ext1⟨Z,dx,dy,M,Q2,hr,ax,ay,h,k⟩;obtain⟨xs,e1,h1⟩:=Cr h;obtain⟨ys,e2,hz,q⟩:=Cr h1;obtain⟨p,vs,rfl,hs,a⟩:=hr.rdL e1 ax;obtain⟨p',ws,rfl,hs',a'⟩:=hr.rdL e2 ay;cases(show v=AF p from rx);cases(show u=AF p' from ry);have l1:=a.length;have l2:=a'.length;exact ou I hs hs' (by ext) λl hl=>k.f hr hl (a.append a') q
noncomputable def Gk (f:D->D->Option Bool):List D->List D->Option Bool
 |[],[]=>some true
 |[],_::_=>some false
 |_::_,[]=>some false
 |x::xs,y::ys=>match f x y,Gk f xs ys with
  |some a,some b=>some (a && b)
  |_,_=>none
noncomputable def Ek (M:Mp):Nat->D->D->Option Bool
 |0,x,y=>if DE x && DE y then some (Kx x y)else none
 |n+1,x,y=>if DE x && DE y then some (Kx x y)else match x,y with
  |.tup xs,.tup ys=>Gk (Ek M n) xs ys
  |x,y=>match Bo M x,Bo M y with
   |some xs,some ys=>Gk (Ek M n) xs ys
   |_,_=>none
theorem mM {Z:Zt}{x y:V}{d e:D}(ax:At Z x d)(ay:At Z y e)(f1:DE d=true)(f2:DE e=true):G6 x=true/\G6 y=true/\Qt x y=Kx d e:=by
 cases d<;>first
  |exact absurd f1 Aj
  | (cases e<;>first
    |exact absurd f2 Aj
    | (subst ax;subst ay;refine ⟨rfl,rfl,?_⟩;delta Qt Kx;simp [NQ]))
theorem VM :∀{xs ys:List D}{b:Bool},Gk f xs ys=some b->∃e:Nat->Bool,(∀(j:Nat) x y,xs[j]? = some x->ys[j]? = some y->f x y=some (e j)) /\
  ((Bl (min xs.length ys.length)).all e && xs.length == ys.length)=b
 |[],[],b,h=>⟨λ_=>true,λj x y h=>by simp at h,by cases h;rfl⟩
 |[],y::ys,b,h=>⟨λ_=>true,λj x y h=>by simp at h,by cases h;simp⟩
 |x::xs,[],b,h=>⟨λ_=>true,λj x y _ h=>by simp at h,by cases h;simp⟩
 |x::xs,y::ys,b,h=>by
  unfold Gk at h;split at h
  .next a c ha hc=>
   cases h;obtain⟨e,he,hb⟩:=VM hc;refine⟨λj=>match j with | 0=>a | j+1=>e j,λj x' y' h1 h2=>?_,?_⟩
   .cases j with
    |zero=>
     have e1:x=x':=by simpa using h1
     have e2:y=y':=by simpa using h2
     rw[<- e1,<- e2];exact ha
    |succ j=>exact he j x' y' (by simpa using h1) (by simpa using h2)
   .rw[AO,AO,Nat.succ_min_succ,Em,FY,Vd,<- hb];have:((λj=>match j with | 0=>a | j+1=>e j) ∘ Nat.succ:Nat->Bool)=e:=rfl;rw[this,Bool.and_assoc];congr 2
    simp
  .cases h
theorem Uy (r:BF vs us)(a:Ds Z vs ds)(j:Nat)(h:j<us.toArray.size):∃v d,vs[j]? = some v/\ds[j]? = some d/\At Z v d/\RelV v us.toArray[j]:=by
 have l1:=r.length;have k1:j<vs.length:=by rw[l1];simpa using h
 have e:=Ag k1;obtain⟨u,e1,q1⟩:=r.get e;obtain⟨d,e2,q2⟩:=a.got e
 have z1:us.toArray[j]=u:=by
  obtain⟨_,z⟩:=Au.mp e1;simpa using z
 exact⟨_,d,e,e2,q2,by rw[z1];exact q1⟩
theorem qJ (h:k=true):E6 A s (.ref p) (.ref p) k:=by rw[h];exact Gw _
theorem rO {Ad:List (Av×Obj)}{U:St}{H:Hp}{s:Ap}{M:Mp}{Z:Zt}(I:A6 X Ad U H s)(hr:HR X.K H M Z):∀(n:Nat) {v:V}{x y:D}{b:Bool},At Z v x->At Z v y->Ek M n x y=some b->b=true:=by
 have flat:∀{v:V} {x y:D},At Z v x->At Z v y->DE x=true->DE y=true->Kx x y=true:=λ{v x y} ax ay f1 f2=>by
  cases x<;>first
   |exact absurd f1 Aj
   | (cases y<;>first
     |exact absurd f2 Aj
     | (rw [show v=_ from ax] at ay;cases ay<;>(delta Kx;simp)))
 intro n;induction n with
 |zero=>
  intro v x y b ax ay h;unfold Ek at h;split at h
  .next f=>
   rw[BQ]at f;cases h;exact flat ax ay f.1 f.2
  .cases h
 |succ n ih=>
  intro v x y b ax ay h;unfold Ek at h;split at h
  .next f=>
   rw[BQ]at f;cases h;exact flat ax ay f.1 f.2
  .have lists:∀{vs:List V} {xs ys:List D},Ds Z vs xs->Ds Z vs ys->Gk (Ek M n) xs ys=some b->b=true:=λ{vs xs ys} a1 a2 hc=>by
    obtain⟨e,he,hb⟩:=VM hc;have l1:=a1.length;have l2:=a2.length;rw[<- hb,BQ];refine⟨C5.mpr λj hj=>?_,by simp;ext⟩;have hj':j<min xs.length ys.length:=Ct.mp hj;have k1:j<xs.length:=by ext
    have k2:j<ys.length:=by ext
    obtain⟨v1,e1,q1⟩:=a1.get (Ag k1);obtain⟨v2,e2,q2⟩:=a2.get (Ag k2);rw[e1]at e2;cases e2;exact ih q1 q2 (he j _ _ (Ag k1) (Ag k2))
   split at h
   .obtain⟨p,vs,rfl,hs,a1⟩:=hr.rdT ax;obtain⟨p',ws,e,hs',a2⟩:=hr.rdT ay;cases e;rw[I.tuple_inj hs' hs]at a2;exact lists a1 a2 h
   .split at h
    .next e1 e2=>
     obtain⟨p,vs,rfl,hs,a1⟩:=hr.rdL e1 ax;obtain⟨p',ws,e,hs',a2⟩:=hr.rdL e2 ay;cases e;rw[I.list_inj hs' hs]at a2;exact lists a1 a2 h
    .cases h
theorem gF (I:A6 X Ad U H s)(hr:HR X.K H M Z):∀n {A:Ck}{v w:V}{x y:D}{u u':Ah}{b:Bool},At Z v x->At Z w y->RelV v u->RelV w u'->A.units+n<Dk->Ek M n x y=some b->E6 A s u u' b:=by
 have flat:∀{A:Ck} {v w:V} {x y:D} {u u':Ah},At Z v x->At Z w y->RelV v u->RelV w u'->DE x=true->DE y=true->E6 A s u u' (Kx x y):=λ{A v w x y u u'} ax ay rx ry f1 f2=>by
  obtain⟨k1,k2,k3⟩:=mM ax ay f1 f2;rw[<- k3];exact nU rx ry k1 k2
 intro n;induction n with
 |zero=>
  intro A v w x y u u' b ax ay rx ry hu h;unfold Ek at h;split at h
  .next f=>
   rw[BQ]at f;cases h;exact flat ax ay rx ry f.1 f.2
  .cases h
 |succ n ih=>
  intro A v w x y u u' b ax ay rx ry hu h;have h0:=h;unfold Ek at h;split at h
  .next f=>
   rw[BQ]at f;cases h;exact flat ax ay rx ry f.1 f.2
  .have hu1:A.in1.units+n<Dk:=by show A.units+1+n<Dk;ext
   have hu0:A.units<Dk:=by ext
   have items:∀{vs ws:List V} {xs ys:List D} {Bj its2:List Ah} {e:Nat->Bool},BF vs Bj->BF ws its2->Ds Z vs xs->Ds Z ws ys->(∀(j:Nat) x y,xs[j]? = some x->ys[j]? = some y->Ek M n x y=some (e j)) ->
     ∀j (h1:j<Bj.toArray.size) (h2:j<its2.toArray.size),E6 A.in1 s Bj.toArray[j] its2.toArray[j] (e j):=λ{vs ws xs ys Bj its2 e} r1 r2 a1 a2 he j h1 h2=>by
    obtain⟨v1,d1,_,e1,q1,z1⟩:=Uy r1 a1 j h1;obtain⟨v2,d2,_,e2,q2,z2⟩:=Uy r2 a2 j h2;exact ih q1 q2 z1 z2 hu1 (he j d1 d2 e1 e2)
   split at h
   .obtain⟨p,vs,rfl,hs,a1⟩:=hr.rdT ax;obtain⟨p',ws,rfl,hs',a2⟩:=hr.rdT ay;cases(show u=AF p from rx);cases(show u'=AF p' from ry);obtain⟨Bj,r1,t1,_⟩:=I.tuple hs;obtain⟨its2,r2,t2,_⟩:=I.tuple hs';obtain⟨e,he,hb⟩:=VM h;by_cases hp:p=p'
    .subst hp;exact qJ (rO I hr _ ax ay h0)
    .have l1:=a1.length;have l2:=a2.length;have m1:=r1.length;have m2:=r2.length;have z:=HJ hp (SeqAt.RcAt.tuples t1 t2 hu0 (items r1 r2 a1 a2 he));rw[show Bj.toArray.size=(_:List D).length by simp;rw[<- m1,l1],show its2.toArray.size=(_:List D).length by simp;rw[<- m2,l2],hb]at z;exact z
   .split at h
    .next xs ys e1 e2=>
     obtain⟨p,vs,rfl,hs,a1⟩:=hr.rdL e1 ax;obtain⟨p',ws,rfl,hs',a2⟩:=hr.rdL e2 ay;cases(show u=AF p from rx);cases(show u'=AF p' from ry);obtain⟨Bj,r1,t1,_⟩:=I.list hs;obtain⟨its2,r2,t2,_⟩:=I.list hs';obtain⟨e,he,hb⟩:=VM h;by_cases hp:p=p'
     .subst hp;exact qJ (rO I hr _ ax ay h0)
     .have l1:=a1.length;have l2:=a2.length;have m1:=r1.length;have m2:=r2.length;have s1:Bj.toArray.size=xs.length:=by simp;ext
      have s2:its2.toArray.size=ys.length:=by simp;ext
      by_cases hl:xs.length=ys.length
      .have z:=HJ hp (SeqAt.RcAt.lists t1.isList t2.isList (by ext) hu0 (items r1 r2 a1 a2 he));rw[s1]at z;rw[<- hb,hl,NJ];rw[hl]at z;simpa using z
      .have z:=HJ hp (SeqAt.RcAt.lists_lengths t1.isList t2.isList (by rw[s1,s2];simpa using hl) hu0);rw[<- hb,show(xs.length == ys.length)=false by simpa using hl,F9];exact z
    .cases h
def Qf (neg:Bool):Mi:=λx y M Q=>match x,y with
 |.tup xs,.tup ys=>CH (Gk (Ek M 40) xs ys) λb=>Q (.bl (if neg then !b else b)) M
 |x,y=>CH (Bo M x) λxs=>CH (Bo M y) λys=>CH (Gk (Ek M 40) xs ys) λb=>Q (.bl (if neg then !b else b)) M
theorem sO {A:Ck}(I:A6 X Ad U H s)(hr:HR X.K H M Z)(hu:A.units+41<Dk){e:Nat->Bool}(r1:BF vs Bj)(r2:BF ws its2)(a1:Ds Z vs xs)(a2:Ds Z ws ys)
  (he:∀(j:Nat) x y,xs[j]? = some x->ys[j]? = some y->Ek M 40 x y=some (e j)):∀j (h1:j<Bj.toArray.size) (h2:j<its2.toArray.size),E6 A.in1 s Bj.toArray[j] its2.toArray[j] (e j):=λj h1 h2=>by
 obtain⟨v1,d1,_,e1,q1,z1⟩:=Uy r1 a1 j h1;obtain⟨v2,d2,_,e2,q2,z2⟩:=Uy r2 a2 j h2;exact gF I hr 40 q1 q2 z1 z2 (by show A.units+1+40<Dk;ext) (he j d1 d2 e1 e2)
theorem t4 (h:Qf neg x y M Q):∃xs ys b,Gk (Ek M 40) xs ys=some b/\Q (.bl (if neg then !b else b)) M/\((x=.tup xs/\y=.tup ys)\/(Bo M x=some xs/\Bo M y=some ys)):=by
 unfold Qf at h;split at h
 .obtain⟨b,e,q⟩:=Cr h;exact⟨_,_,b,e,q,.inl ⟨rfl,rfl⟩⟩
 .obtain⟨xs,e1,h1⟩:=Cr h;obtain⟨ys,e2,h2⟩:=Cr h1;obtain⟨b,e,q⟩:=Cr h2;exact⟨_,_,b,e,q,.inr ⟨e1,e2⟩⟩
theorem fT (hu:X.A.units+41<Dk):Cq X (Bd .Eq) (Qf false):=by
 intro Ad s U H x y v u Q I rx ry;ext1⟨Z,dx,dy,M,Q2,hr,ax,ay,h,k⟩;obtain⟨xs,ys,b,hc,q,h|h⟩:=t4 h
 .obtain⟨rfl,rfl⟩:=h;obtain⟨p,vs,rfl,hs,a1⟩:=hr.rdT ax;obtain⟨p',ws,rfl,hs',a2⟩:=hr.rdT ay;cases(show v=AF p from rx);cases(show u=AF p' from ry);obtain⟨Bj,r1,t1,_⟩:=I.tuple hs;obtain⟨its2,r2,t2,_⟩:=I.tuple hs';obtain⟨e,he,hb⟩:=VM hc;have l1:=a1.length;have l2:=a2.length;have m1:=r1.length;have m2:=r2.length;refine SeqAt.eq_tupleAt t1 t2 (by ext) (sO I hr hu r1 r2 a1 a2 he) ⟨.bl b,H,I,?_,k.b hr q⟩;rw[show Bj.toArray.size=xs.length by simp;ext,show its2.toArray.size=ys.length by simp;ext,hb];rfl
 .obtain⟨e1,e2⟩:=h;obtain⟨p,vs,rfl,hs,a1⟩:=hr.rdL e1 ax;obtain⟨p',ws,rfl,hs',a2⟩:=hr.rdL e2 ay;cases(show v=AF p from rx);cases(show u=AF p' from ry);obtain⟨Bj,r1,t1,_⟩:=I.list hs;obtain⟨its2,r2,t2,_⟩:=I.list hs';obtain⟨e,he,hb⟩:=VM hc;have l1:=a1.length;have l2:=a2.length;have m1:=r1.length;have m2:=r2.length;have s1:Bj.toArray.size=xs.length:=by simp;ext
  have s2:its2.toArray.size=ys.length:=by simp;ext
  by_cases hl:xs.length=ys.length
  .refine SeqAt.eq_listAt t1.isList t2.isList (by ext) (by ext) (sO I hr hu r1 r2 a1 a2 he) ⟨.bl b,H,I,?_,k.b hr q⟩;rw[s1,<- hb,hl,NJ];simp[L2.RelV]
  .refine SeqAt.eq_list_lengthsAt t1.isList t2.isList (by rw[s1,s2];simpa using hl) (by ext) ⟨.bl b,H,I,?_,k.b hr q⟩;rw[<- hb,show(xs.length == ys.length)=false by simpa using hl,F9];rfl
def kY (neg:Bool):Mi:=λx y M Q=>CH (IJ M y) λys=>ys.all DE=true/\DE x=true/\Q (.bl (if neg then !(ys.any λz=>Kx z x)else ys.any λz=>Kx z x)) M
theorem j9 (a:At Z v d)(f:DE d=true):G6 v=true:=by
 cases d<;>first
  |exact absurd f Aj
  |(subst a;rfl)
theorem rT (ax:At Z x dx)(fx:DE dx=true):∀{vs:List V}{ds:List D},Ds Z vs ds->ds.all DE=true->vs.all G6=true/\Zo x vs=ds.any λz=>Kx z dx
 |_,_,.nil,_=>⟨rfl,rfl⟩
 |v::vs,d::ds,.cons a t,f=>by
  rw[FY,BQ]at f;obtain⟨h1,h2⟩:=rT ax fx t f.2;obtain⟨k1,k2,k3⟩:=mM a ax f.1 fx;refine⟨by rw[FY,k1,h1];rfl,?_⟩;show(Qt v x || Zo x vs)=(Kx d dx || _);rw[k3,h2]
theorem XR:Cq X (Bd .In) (kY false):=Gd.mono u9 (by
 intro x y H Q;ext1⟨Z,dx,dy,M,Q2,hr,ax,ay,h,k⟩;obtain ⟨ys,e,f,fx,q⟩:=Cr h;obtain ⟨p,vs,rfl,hs,a⟩:=hr.rdS e ay;obtain ⟨h1,h2⟩:=rT ax fx a f;exact ⟨p,vs,rfl,hs,j9 ax fx,h1,by rw [h2];exact k.b hr q⟩)
end
def Q4 (x:D)(k:Cd->Prop):Prop:=match x with
 |.int i=>k (.inl i)
 |.str z=>k (.inr z)
 |_=>False
noncomputable def kD:Cd->D
 |.inl i=>.int i
 |.inr z=>.str z
theorem Qn (h:Q4 x k):∃i,x=kD i/\k i:=by
 cases x with
 |int i=>exact⟨.inl i,rfl,h⟩
 |str i=>exact⟨.inr i,rfl,h⟩
 |_=>exact h.elim
theorem Vu (a:At Z v (kD k)):v=kV k:=by cases k<;>exact a
noncomputable def Eu (M:Mp):D->Option (List (Cd×D))
 |.dic AQ=>some AQ
 |.ref p=>match M p with
  |some (.dic AQ)=>some AQ
  |_=>none
 |_=>none
noncomputable def DL (AQ:List (Cd×D))(k:Cd):Option D:=(AQ.find? λkv=>decide (kv.1=k)).map (·.2)
noncomputable def Ih (AQ:List (Cd×D))(k:Cd)(v:D):List (Cd×D):=if AQ.any (λkv=>decide (kv.1=k))then AQ.map λkv=>if kv.1=k then(kv.1,v)else kv else AQ++[(k,v)]
section
variable {K:Ac}
theorem HR.rdD (h:HR K H M Z)(e:Eu M d=some ds)(a:At Z v d):∃p vs,v=.ref p/\Rd H p (.dK vs)/\Cu Z vs ds:=by
 cases d with
 |dic xs=>
  cases e;obtain⟨p,rfl,z⟩:=a;rcases h.z p _ z with⟨vs,r,a⟩|k
  .exact⟨p,vs,rfl,r,a⟩
  .exact k.elim
 |ref p=>
  cases(show v=.ref p from a);unfold Eu at e;simp only at e;split at e
  .next q=>
   cases e;obtain⟨vs,r,a⟩:=h.rdMD q;exact⟨p,vs,rfl,.inl r,a⟩
  .cases e
 |_=>cases e
theorem Cu.length (h:Cu Z vs ds):vs.length=ds.length:=DV h
theorem Cu.val :∀{vs:List (Cd×V)}{ds:List (Cd×D)},Cu Z vs ds->(DL ds k=none/\FI vs k=none)\/∃d v,DL ds k=some d/\FI vs k=some v/\At Z v d
 |_,_,.nil=>.inl ⟨rfl,rfl⟩
 |(k1,v)::vs,(k2,d)::ds,.cons r t=>by
  obtain⟨e,a⟩:=r;have e':=e;subst e';by_cases hk:k1=k
  .exact .inr ⟨d,v,by simp[DL,BZ,hk],by simp[FI,BZ,hk],a⟩
  .have h1:DL ((k1,d)::ds) k=DL ds k:=by simp[DL,BZ,hk]
   have h2:FI ((k1,v)::vs) k=FI vs k:=by simp[FI,BZ,hk]
   rw[h1,h2];exact Cu.val t
theorem Cu.isSome (h:Cu Z vs ds):(FI vs k).isSome=(DL ds k).isSome:=by
 rcases h.val with⟨e1,e2⟩|⟨d,v,e1,e2,_⟩<;>rw[e1,e2]<;>rfl
theorem Cu.any :∀{vs:List (Cd×V)}{ds:List (Cd×D)},Cu Z vs ds->(vs.any λkv=>decide (kv.1=k))=ds.any λkv=>decide (kv.1=k)
 |_,_,.nil=>rfl
 |(k1,v)::vs,(k2,d)::ds,.cons r t=>by
  have e':=r.1;rw[FX,FX,Cu.any t,e']
theorem Cu.append:∀{xs ys:List (Cd×V)}{us ws:List (Cd×D)},Cu Z xs us->Cu Z ys ws->Cu Z (xs++ys) (us++ws)
 |_,_,_,_,.nil,s=>s
 |_,_,_,_,.cons r t,s=>.cons r (Cu.append t s)
theorem Cu.repl (a:At Z v d):∀{vs:List (Cd×V)}{ds:List (Cd×D)},Cu Z vs ds->Cu Z (vs.map λkv=>if kv.1=k then(kv.1,v)else kv) (ds.map λkv=>if kv.1=k then(kv.1,d)else kv)
 |_,_,.nil=>.nil
 |(k1,v1)::vs,(k2,d1)::ds,.cons r t=>by
  have e':=r.1;subst e';rw[AM,AM];refine .cons ?_ (Cu.repl a t);by_cases h:k1=k
  .rw[if_pos h,if_pos h];exact⟨rfl,a⟩
  .rw[if_neg h,if_neg h];exact r
theorem Cu.put (a:At Z v d)(h:Cu Z vs ds):Cu Z (putK vs k v) (Ih ds k d):=by
 unfold putK Ih;rw[h.any];split
 .exact h.repl a
 .exact h.append (.cons ⟨rfl,a⟩ .nil)
end
section
def SM:DG:=λ_ M Q=>∀p,M p=none->Q (.ref p) (put M p (.dic []))
theorem J0:BX X (.Dict [] [] pos) SM:=PE.mono qp λU H Q ⟨Z,τ,M,Q2,st,hr,h,k⟩ p hp=>k.d hr hp .nil h
def KR (o:Option MO)(k:List (Cd×D)->Prop):Prop:=match o with
 |some (.dic AQ)=>k AQ
 |_=>False
theorem fV (h:KR o k):∃AQ,o=some (.dic AQ)/\k AQ:=by
 unfold KR at h;split at h
 .exact⟨_,rfl,h⟩
 .exact h.elim
def SK (td ty tv:DG):HH:=λE τ M=>tv τ M λv M1=>td τ M1 λx M2=>ty τ M2 λy M3=>J2 x λp=>Q4 y λk=>KR (M3 p) λAQ=>AQ.length<Am/\E.nx τ (put M3 p (.dic (Ih AQ k v)))
theorem VH (hu:X.A.units+1<Dk)(ho:BX X o td)(hi:BX X i ty)(hv:BX X value tv)(hs:EE value (some (.Subscript o i pos')) pos.line X.env=pure false) :
  GZ X (.Assign [.Subscript o i pos'] value pos) (SK td ty tv):=PS.mono (m7 hu ho hi hv hs) (by
 intro D U H;ext1⟨Z,τ,M,D2,st,hr,h,er⟩;refine lE.bind st hr h λZ1 v dv H1 M1 l1 h1 a1 q1=>lE.bind (st.mono l1) h1 q1 λZ2 x dx H2 M2 l2 h2 a2 q2=>lE.bind (st.mono (l1.trans l2)) h2 q2 λZ3 y dy H3 M3 l3 h3 a3 q3=>?_;obtain ⟨p,rfl,q4⟩:=IL q3;obtain ⟨k,rfl,q5⟩:=Qn q4;cases (show x=V.ref p from a2);cases Vu a3;obtain ⟨AQ,e,hl,q⟩:=fV q5;obtain ⟨ks,r,a4⟩:=h3.rdMD e;refine ⟨p,_,rfl,QI.k r (by rw [a4.length];exact hl),?_⟩;exact lS.nx (er.le (l1.trans (l2.trans l3))) (st.mono (l1.trans (l2.trans l3))) (h3.chgD e (a4.put (a1.mono (l2.trans l3)))) q)
def SN (td ty:DG):DG:=λτ M Q=>td τ M λx M1=>ty τ M1 λy M2=>CH (Eu M2 x) λAQ=>Q4 y λk=>CH (DL AQ k) λv=>Q v M2
theorem Gz (hu:X.A.units+1<Dk)(ho:BX X o td)(hi:BX X i ty)(hs:UU i):BX X (.Subscript o i pos) (SN td ty):=PE.mono (k6 hu ho hi hs) (by
 intro U H Q;ext1⟨Z,τ,M,Q2,st,hr,h,k⟩;refine lE.bind st hr h λZ1 x dx H1 M1 l1 h1 a1 q1=>lE.bind (st.mono l1) h1 q1 λZ2 y dy H2 M2 l2 h2 a2 q2=>?_;obtain⟨AQ,e,q3⟩:=Cr q2;obtain⟨k',rfl,q4⟩:=Qn q3;obtain⟨d,e2,q⟩:=Cr q4;obtain⟨p,ks,rfl,r,a3⟩:=h2.rdD e (a1.mono l2);cases Vu a2;rcases a3.val with⟨z,_⟩|⟨d',v,z,zv,av⟩
 .rw[e2]at z;cases z
 .rw [e2] at z;cases z;exact ⟨p,v,rfl,.inl ⟨ks,k',r,rfl,zv.symm⟩,(k.le (l1.trans l2)).v h2 av q⟩)
def T3 (neg:Bool):Mi:=λx y M Q=>CH (Eu M y) λAQ=>Q4 x λk=>Q (.bl (if neg then !(DL AQ k).isSome else(DL AQ k).isSome)) M
theorem xV (hu:X.A.units+1<Dk):Cq X (Bd .In) (T3 false):=by
 intro Ad s U H x y v u Q I rx ry;ext1⟨Z,dx,dy,M,Q2,hr,ax,ay,h,k⟩;obtain⟨AQ,e,h1⟩:=Cr h;obtain⟨k',rfl,q⟩:=Qn h1;obtain⟨p,ks,rfl,r,a3⟩:=hr.rdD e ay;cases Vu ax;cases(show u=AF p from ry);refine fK hu I (.inl ⟨ks,k',r,rfl,rfl⟩) rx λs' I'=>⟨.bl _,H,I',rfl,?_⟩;rw[a3.isSome];exact k.b hr q
theorem p9 (hu:X.A.units+1<Dk):Cq X (Bd .NotIn) (T3 true):=by
 intro Ad s U H x y v u Q I rx ry;ext1⟨Z,dx,dy,M,Q2,hr,ax,ay,h,k⟩;obtain⟨AQ,e,h1⟩:=Cr h;obtain⟨k',rfl,q⟩:=Qn h1;obtain⟨p,ks,rfl,r,a3⟩:=hr.rdD e ay;cases Vu ax;cases(show u=AF p from ry);refine j5 hu I (.inl ⟨ks,k',r,rfl,rfl⟩) rx λs' I'=>⟨.bl _,H,I',rfl,?_⟩;rw[a3.isSome];exact k.b hr q
theorem cq (h:(BU P w).is k v=true):L2.RelV (kV k) v:=by
 rw[vv]at h;rcases Rf h with⟨i,t,rfl,rfl⟩|⟨x,t,rfl,rfl⟩
 .exact⟨t,rfl⟩
 .exact⟨t,rfl⟩
theorem jF:Cq X (BD .Add) (λx y M Q=>GI x λi=>GI y λj=>i.length+j.length<=Am/\Q (.str (i++j)) M):=Gd.mono wg (by
 intro x y H Q;ext1⟨Z,dx,dy,M,Q2,hr,ax,ay,h,k⟩;obtain ⟨i,rfl,h1⟩:=Et h;obtain ⟨j,rfl,hz,q⟩:=Et h1;exact ⟨i,j,ax,ay,hz,k.s hr q⟩)
def Xh:D->Option Int->Option Int->Mp->Eb->Prop:=λx lo hi M Q=>GI x λz=>z.length<=Am/\Q (.str (Bi z lo hi)) M
theorem nI:FM X Xh:=by
 intro Ad s U H x v vl vu lo hi sl Q I rx hs pl pu;ext1⟨Z,d,M,Q2,hr,a,h,k⟩;obtain⟨z,rfl,hz,q⟩:=Et h;cases(show x=V.str z from a);obtain⟨t,rfl⟩:=rx;have fin:∀t' tk,EP X Ad U Q (.str (Bi z lo hi) t') {s with toks:=tk}:=λt' tk=>⟨.str _,H,I.tok tk,⟨_,rfl⟩,k.s hr q⟩;have hl:=AY (bF z lo hi) hz;refine⟨"str",_,PySem.F.slot_str_getitem.lookup,Iz _ _ _,?_⟩;cases pl with
 |none=>cases pu with
  |none=>exact E3 (l:=none) (u:=none) (st:=none) hs rfl (IW ⟨hl,fin⟩)
  |int j uj=>exact E3 (l:=none) (u:=some (j,uj)) (st:=none) hs rfl (IW ⟨hl,fin⟩)
 |int i ui=>cases pu with
  |none=>exact E3 (l:=some (i,ui)) (u:=none) (st:=none) hs rfl (IW ⟨hl,fin⟩)
  |int j uj=>exact E3 (l:=some (i,ui)) (u:=some (j,uj)) (st:=none) hs rfl (IW ⟨hl,fin⟩)
theorem fN (a:Ds Z vs [d,e,f]):∃v w u,vs=[v,w,u]/\At Z v d/\At Z w e/\At Z u f:=by
 cases a with
 |cons a1 a2=>obtain⟨w,u,rfl,a3,a4⟩:=ats2 a2;exact⟨_,w,u,rfl,a1,a3,a4⟩
end
section
variable (P:Bs)(w:BG)
def VZ (A:Ck)(s:Ap)(y x:Ah)(b:Bool):Prop:=∀E Q,Q b s->Aq (Ax P w) A (eqBool y x) Q E s
end
section
open MeetsSeq MeetsSeq2 MeetsSeq3 SeqRoads2
end
theorem aE :∀{AQ:List (Cd×D)},(AQ.map (·.1)).Nodup->(k,d)∈AQ->DL AQ k=some d
 |(k1,d1)::r,hn,hm=>by
  obtain⟨n1,n2⟩:=Fx.mp hn;rcases AU.mp hm with h|h
  .cases h;simp[DL,BZ]
  .have ne:¬k1=k:=λe=>n1 (by rw[e];exact AB.mpr ⟨(k,d),h,rfl⟩);have h3:DL ((k1,d1)::r) k=DL r k:=by simp[DL,BZ,ne]
   rw[h3];exact aE n2 h
theorem Cu.keysEq :∀{vs:List (Cd×V)}{ds:List (Cd×D)},Cu Z vs ds->vs.map (·.1)=ds.map (·.1)
 |_,_,.nil=>rfl
 |(k1,v1)::vs,(k2,d1)::ds,.cons r t=>by
  have e':=r.1;rw[AM,AM,Cu.keysEq t,e']
section
theorem pY (I:A6 X Ad U H s)(hr:HR X.K H M Z)(hu:A.units+41<Dk)(hn:(full.map (·.1)).Nodup)(k2:KV ks2 vs2)(a2:Cu Z ks2 full)(fl:∀p∈full,∃i,p.2=D.int i) :
  ∀{ks:List (Cd×V)} {vs:List (Cd×Ah)} {ds:List (Cd×D)},KV ks vs->Cu Z ks ds->(∀p∈ds,p∈full)->PySem.W.KeqHits A s vs2 vs true
 |_,_,_,.nil,.nil,_=>.nil
 |(k1,v1)::ks,(k2',u1)::vs,(k3,d1)::ds,.cons r t,.cons r' t',sub=>by
  have e1:=r.1;have e2:=r'.1;subst e1 e2;have m1:=sub _ (AA ..);obtain⟨i,hi⟩:=fl _ m1;have hi':d1=D.int i:=hi;have hv:=aE hn m1;rcases a2.val with⟨z,_⟩|⟨d',v',z,zv,av⟩
  .rw[hv]at z;cases z
  .rw[hv]at z;cases z;have ro:=k2.val k1;rw[zv]at ro;cases q:JP vs2 k1 with
   |none=>rw[q]at ro;exact ro.elim
   |some y=>rw[q]at ro;have eq:E6 A s u1 y true:=gF I hr 40 r'.2 av r.2 ro (by ext) (by rw[hi'];exact(show Ek M 40 (.int i) (.int i)=some (decide (i=i))from rfl).trans (by rw[decide_eq_true rfl]));exact TC q eq (pY I hr hu hn k2 a2 fl t t' λp hp=>sub p (Aw _ hp))
theorem X6 (I:A6 X Ad U H s)(hr:HR X.K H M Z)(hu:A.units+43<Dk){u1 u2:Ah}(f1:Eu M d1=some AQ)(f2:Eu M d2=some AQ)(fl:∀p∈AQ,∃i:Int,p.2=D.int i)(z1:At Z v1 d1)(z2:At Z v2 d2)(q1:RelV v1 u1)(q2:RelV v2 u2) :
  VZ X.prog X.w A s u1 u2 true:=by
 obtain⟨p1,ks1,rfl,rd1,b1⟩:=hr.rdD f1 z1;obtain⟨p2,ks2,rfl,rd2,b2⟩:=hr.rdD f2 z2;cases(show u1=AF p1 from q1);cases(show u2=AF p2 from q2);intro E Q hq;by_cases hp:p1=p2
 .subst hp;exact Gw _ X.prog X.w E Q hq
 obtain⟨l1,y1,vs1,k1,D1⟩:=Ra I.hok rd1;obtain⟨l2,y2,vs2,k2,D2⟩:=Ra I.hok rd2
 have hn:(AQ.map (·.1)).Nodup:=by
  obtain⟨ep,da⟩:=D1.dictAt;have n1:=da.nodup;have e1:=k1.keys;have e2:=b1.keysEq;rw[<- e2,e1];exact n1
 have hits:=pY I hr (A:=A.in1) (by show A.units+1+41<Dk;ext) hn k2 b2 fl k1 b1 λp h=>h
 have le:vs1.length=vs2.length:=by
  have:=k1.length;have:=k2.length;have:=b1.length;have:=b2.length;ext
 unfold eqBool;refine Bh ?_;refine YM (λhab=>absurd (by have:=eq_of_beq hab;injection this) hp) (λ_=>?_);refine Aa (PySem.W.keq_eq y1 y2 D1 D2 (by ext) (λ_=>hits) (CW ?_));rw[show(vs1.length == vs2.length && true)=true by simp[le]];exact hq
end
section
variable {X:Cx}
end
end L3
namespace L2
open PySem PySem.Spec PyProof.Rows L3
theorem uU {Q:St->Hp->Prop}{H:Hp}{CK:St}:∀us (done:List (Option V)) (vs:List (Option V)),vs.length=us.length->Q (done++us.map some++CK) H->Fp (Ou done.length us.length) us (done++vs++CK) H Q
 |[],done,vs,hl,q=>by
  have e:=AC hl;subst e;exact⟨rfl,q⟩
 |u::us,done,[],hl,q=>by cases hl
 |u::us,done,v::vs,hl,q=>by
  rw[AO,List.range'_succ];refine⟨u,us,rfl,?_⟩
  have e1:(done++v::vs++CK).set done.length (some u)=(done++[some u])++vs++CK:=by
   rw[Bm,List.set_append_right _ _ (AJ _),Jx];simp
  show Fp (Ou (done.length+1) us.length) us ((done++v::vs++CK).set done.length (some u)) H Q;rw[e1];have z:=uU us (done++[some u]) vs (GH hl) (by simpa using q);rw[Ao,E8]at z;exact z
theorem xw {n:Nat}{Q:St->Hp->Prop}(hv:vs.length=n)(hu:us.length=n)(q:Q (Fb U caps (us.map some)) H) :
  Fp (Bl n) us (Fb U caps vs) H Q:=by
 have z:=uU us [] vs (hv.trans hu.symm) (by simpa[Fb]using q);rw[List.range_eq_range',<- hu];exact z
def L0 (wi:TI)(k:Nat)(caps:List (Str×Nat))(tt:TT)(te:TE)(K:Ac):TE:=λU H Q=>wi U H λJ H1=>∃(n:Nat) (W:Nat->List V->Hp->Prop),W 0 [] H1/\∀i ys H,W i ys H ->
 (J.stop i H/\ys.length<=Am/\∀p,H p=none->Q (.ref p) (CD H p (.lst ys))) \/
 (J.go i H/\i<n/\ys.length<Am/\∀v H',J.yld i H v H'->∃a us,v=.ref a/\LK K H' a us/\us.length=k/\tt (Fb U caps (us.map some)) H' λb H2=>if b=true then te (Fb U caps (us.map some)) H2 λy H3=>W (i+1) (ys++[y]) H3 else W (i+1) ys H2)
section
theorem xf {Q:VK}{RR:Ah->Av->Tz->Ap->Prop}(B:JO X scope x ns caps)(hc:X.calm=true)
  (he:∀cl C fp pn s H,PE (GC X scope cl C (x::(ns++caps.map (·.1))) fp pn s H) elt te) (hif:∀cl C fp pn s H,Im (GC X scope cl C (x::(ns++caps.map (·.1))) fp pn s H) ifs tt)
  (hg:∀cl C fp pn s H,QH (GC X scope cl C (x::(ns++caps.map (·.1))) fp pn s H) tes (Fp (Bl (ns.length+1)))) (hgn:∀cl C fp pn s H,(Bz tes (GC X scope cl C (x::(ns++caps.map (·.1))) fp pn s H).env).length=ns.length+1) (hgf:∀cl C fp pn s H,Jh (λy=>y.1) (Bz tes (GC X scope cl C (x::(ns++caps.map (·.1))) fp pn s H).env)=none)
  (hRR:∀D C s' H' ys m,A6 X Ad U (CD H' D (.lst ys)) s'->Jr X Ad (CD H' D (.lst ys)) C->s'.heap.Ns C m->Q (.ref D) (CD H' D (.lst ys))->RR (.ref D) C (.ok .next) s')
  (h:YF X Ad U (.Tuple tes tk px) (λJ H1=>∃ (n:Nat) (W:Nat->List V->Hp->Prop),W 0 [] H1/\∀ i ys H,W i ys H ->
   (J.stop i H/\ys.length<=Am/\∀p,H p=none->Q (.ref p) (CD H p (.lst ys))) \/
   (J.go i H/\i<n/\ys.length<Am/\∀ v H',J.yld i H v H'->∃ a us,v=.ref a/\LK X.K H' a us/\us.length=ns.length+1/\tt (Fb U caps (us.map some)) H' λb H2=>if b=true then te (Fb U caps (us.map some)) H2 λy H3=>W (i+1) (ys++[y]) H3 else W (i+1) ys H2)) it s₂) :
  Aq (Ax X.prog X.w) X.A (PU []) (λacc s₃=>Aq (Ax X.prog X.w) X.A (Nx scope X.env.globals (El X.env scope.names []) [] X.env.qual none .none (some X.env)) (λcenv s₄ =>
   DP (Ax X.prog X.w) X.A (.compStart (.ListComp elt [⟨.Tuple tes tk px,iter,ifs,0⟩] scope pos) 0 it acc { cenv with scope:=relabel scope X.env }) (RR acc cenv.locals) s₄) E s₃) E s₂:=by
 refine uD (g:=Qs X.K (ns.length+1) (Fp (Bl (ns.length+1)))) B hc he hif (λcl C fp pn s H=>oQ (show(GC X scope cl C (x::(ns++caps.map (·.1))) fp pn s H).calm=true from hc) (hg cl C fp pn s H) (hgn cl C fp pn s H) (hgf cl C fp pn s H)) hRR ?_;obtain⟨itA,fp,tn,J,H2,e,I2,T,st2,f2,n,W,w0,turn⟩:_:=h;refine⟨itA,fp,tn,J,H2,e,I2,T,st2,f2,n,W,w0,λi ys H w=>(turn i ys H w).imp id λ⟨z1,z2,z3,st⟩=>⟨z1,z2,z3,λv H' y=>?_⟩⟩;obtain⟨a,us,ev,hs,hus,q⟩:=st v H' y;exact⟨us,hus,λo R ho r=>⟨a,us,ev,hs,hus,xw ho hus r⟩,q⟩
theorem qZ (B:JO X scope x ns caps)(hc:X.calm=true)(hi:PI X (.Tuple tes tk px) iter wi)
  (he:∀cl C fp pn s H,PE (GC X scope cl C (x::(ns++caps.map (·.1))) fp pn s H) elt te) (hif:∀cl C fp pn s H,Im (GC X scope cl C (x::(ns++caps.map (·.1))) fp pn s H) ifs tt)
  (hg:∀cl C fp pn s H,QH (GC X scope cl C (x::(ns++caps.map (·.1))) fp pn s H) tes (Fp (Bl (ns.length+1)))) (hgn:∀cl C fp pn s H,(Bz tes (GC X scope cl C (x::(ns++caps.map (·.1))) fp pn s H).env).length=ns.length+1) (hgf:∀cl C fp pn s H,Jh (λy=>y.1) (Bz tes (GC X scope cl C (x::(ns++caps.map (·.1))) fp pn s H).env)=none)
  (hs:∀x,BC iter X.env x=pure x:=by intro _;rfl):PE X (.ListComp elt [⟨.Tuple tes tk px,iter,ifs,0⟩] scope pos) (L0 wi (ns.length+1) caps tt te X.K):=by
 intro Ad s U H Q I h;rw[eval_ListComp];have hcl:∀y∈scope.names,y.2=.free->∃c,X.env.cells.lookup y.1=some c:=λy hy hf=>I.ok.has y.1 (B.b.hfree y hy hf);refine Ht rfl hs (jP hcl) B.b.kind B.b.hloc (Do (hi Ad s U H _ I h) λv s1 h1=>Do h1 λitv s2 h2=>?_);refine xf B hc he hif hg hgn hgf (λD C s' H' ys m I' f' hn q=>?_) h2;refine⟨m,hn,λh' sb=>⟨.ref D,CD H' D (.lst ys),?_,rfl,q⟩⟩;obtain⟨g0,g1,g2,g3,g4,g5⟩:=f';exact I'.turned (λb o hb e=>(sb.2 b hb).trans e) g0 g1 g3 g4 g5
end
theorem A6.turnedN {X:Cx}{Ad:List (Av×Obj)}{U:St}{H:Hp}{s:Ap}{h':CU}{t':Nat}{fp:List Av}(I:A6 X Ad U H s)(hf:∀b∈fp,Jr X Ad H b)(k:∀b o,b∉fp->s.heap.get? b=some o->h'.get? b=some o):A6 X Ad U H {s with heap:=h',toks:=t' }:=by
 have nit:∀b u,H b=some u->b∉fp:=λb u e z=>by rw[(hf b z).1]at e;cases e
 refine I.step (λb hb=>?_) (λb o _ _ hc e _=>k b o hc e) (λb o _ _ hc e _=>⟨o.slots,k b o hc e⟩) (λ_ _ _ _ n=>n)
  (λb o hc e=>⟨o,k b o hc e⟩) (λ_ _ e=>e) (λ_ _ _ e=>e) (λb ps e=>⟨#[],by rw[e];simp⟩) (λm hm=>?_) (λb u e=>?_) I.bare
 .obtain⟨f0,f1,f2,f3,f4,f5⟩:=hf b hb;exact⟨f3,f1,f4,f5⟩
 .obtain⟨o,es,ep,ho,r⟩:=hm;exact⟨o,es,ep,k _ o (λz=>(hf _ z).2.1 rfl) ho,r⟩
 .refine(I.hok b u e).stay (λc v hc q=>k c v ?_ q) (λ_ q=>q) λ_ _ q=>q;rcases hc with z|z
  .rw[z];exact nit b u e
  .exact nit c _ z
noncomputable def wM (K:Ac)(a b:Av):It:=
  ⟨λi H=>∃ xs ys x y,FS K H a xs/\FS K H b ys/\xs[i]? = some x/\ys[i]? = some y,
   λi H v H'=>∃p x y,v=.ref p/\H p=none/\H'=CD H p (.tup [x,y])/\(∀xs,FS K H a xs->xs[i]? = some x)/\∀ys,FS K H b ys->ys[i]? = some y,
   λi H=>∃ xs ys,FS K H a xs/\FS K H b ys/\(xs.length<=i\/ys.length<=i)⟩
structure Qy (z TI TO i1 i2 a b:Av)(i:Nat)(h:CU):Prop where
 n1:TI≠z
 n2:TO≠z
 n3:i1≠z
 n4:i2≠z
 n5:TI≠TO
 n6:TI≠i1
 n7:TI≠i2
 n8:TO≠i1
 n9:TO≠i2
 n10:i1≠i2
 hz:IsZip h z TI TO .none
 ht:IsPair h TI (.ref i1) (.ref i2)
 ho:∃u v,IsPair h TO u v
 h1:h.IsListIter i1 a i
 h2:h.IsListIter i2 b i
theorem Qy.apart {z TI TO i1 i2 a b:Av}(t:Qy z TI TO i1 i2 a b i h)(ha:h.IsList a us)(hb:h.IsList b vs):ZipApart z TI TO i1 i2 a b:=by
 obtain⟨u,v,ho⟩:=t.ho;obtain⟨o1,e1,c1,_⟩:=t.h1;obtain⟨o2,e2,c2,_⟩:=t.h2
 have key:∀{l:Av} {ws:Array Ah},h.IsList l ws->l≠z/\l≠TO/\l≠i1/\l≠i2:=λ{l ws} ⟨o,e,c,_⟩=>by
  refine⟨λq=>?_,λq=>?_,λq=>?_,λq=>?_⟩
  .rw[q,t.hz]at e;cases e;exact absurd c (by simp)
  .rw[q,ho]at e;cases e;exact absurd c (by simp)
  .rw[q,e1]at e;cases e;rw[c1]at c;exact absurd c (by simp)
  .rw[q,e2]at e;cases e;rw[c2]at c;exact absurd c (by simp)
 obtain⟨a1,a2,a3,a4⟩:=key ha;obtain⟨b1,b2,b3,b4⟩:=key hb;exact⟨t.n1,t.n2,t.n3,t.n4,t.n5,t.n6,t.n7,t.n8,t.n9,t.n10,a1,a2,a3,a4,b1,b2,b3,b4⟩
theorem tj {K:Ac}(z TI TO i1 i2 a b:Av):MW P w K F (.Tuple es k pos) (wM K a b) [z,TI,TO,i1,i2] z (Qy z TI TO i1 i2 a b) where
 mem:=by simp
 obj:=λi h st c hc=>by
  obtain⟨u,v,ho⟩:=st.ho;obtain⟨o1,e1,_,d1⟩:=st.h1;obtain⟨o2,e2,_,d2⟩:=st.h2;simp only[Bx,AX,or_false]at hc;rcases hc with rfl|rfl|rfl|rfl|rfl
  .exact⟨_,st.hz,λv q=>by cases q⟩
  .exact⟨_,st.ht,λv q=>by cases q⟩
  .exact⟨_,ho,λv q=>by cases q⟩
  .exact⟨_,e1,λv q=>by rw[d1]at q;cases q⟩
  .exact⟨_,e2,λv q=>by rw[d2]at q;cases q⟩
 keep:=λi h h' st k=>by
  obtain⟨u,v,ho⟩:=st.ho;exact{st with hz:=k z (by simp) _ st.hz,ht:=k TI (by simp) _ st.ht,ho:=⟨u,v,k TO (by simp) _ ho⟩,h1:=st.h1.at λo e=>k i1 (by simp) o e,h2:=st.h2.at λo e=>k i2 (by simp) o e}
 item:=by
  intro X hP hw hK hF hc i Ad s U H E I hf st hg;subst hP hw hK;obtain⟨xs,ys,x,y,hx,hy,ex,ey⟩:_:=hg;obtain⟨Bj,rv,p,hzz⟩:=I.list hx;obtain⟨jts,rw',p',_⟩:=I.list hy;obtain⟨u,hu,ru⟩:=rv.get ex;obtain⟨v,hv,rv'⟩:=rw'.get ey;obtain⟨c,d,ho⟩:=st.ho;have ap:=st.apart p.isList p'.isList;refine wpAny_pyNext_zip_item ap st.hz st.ht ho st.h1 st.h2 p.isList p'.isList (by simpa using hu) (by simpa using hv) λh' z1 t1 l1 l2 tp hs old=>?_;refine⟨_,rfl,wpAny_letOwnedTupleGo_zip z1 λh2 z2 sb=>?_⟩
  have ne:∀q∈[z,TI,TO,i1,i2],q≠s.heap.objs.size:=λq hq e=>by
   have hob:∃o,s.heap.get? q=some o:=by
    obtain⟨o1,e1,_,d1⟩:=st.h1;obtain⟨o2,e2,_,d2⟩:=st.h2;simp only[Bx,AX,or_false]at hq;rcases hq with rfl|rfl|rfl|rfl|rfl
    .exact⟨_,st.hz⟩
    .exact⟨_,st.ht⟩
    .exact⟨_,ho⟩
    .exact⟨_,e1⟩
    .exact⟨_,e2⟩
   obtain⟨o,e'⟩:=hob;rw[e]at e';exact absurd (An e') (E4 _)
  have I1:A6 X Ad U H {s with heap:=h2}:=I.turnedN hf λq o hq e=>by
   simp only[Bx,AX,or_false,not_or]at hq;exact(sb.2 q hq.1).trans (old q o hq.1 hq.2.2.1 hq.2.2.2.1 hq.2.2.2.2 e)
  have freshT:=I.fresh;have tp2:=(sb.2 _ (λe=>ne z (by simp) e.symm)).trans tp;have I2:A6 X Ad U (CD H s.heap.objs.size (.tup [x,y])) {s with heap:=h2}:=I1.track (I.fpOk (AJ _) freshT) ⟨FW (B5 (by simp)),[u,v],.cons ru (.cons rv' .nil),_,tp2,rfl,_,rfl,rfl⟩;have kp:∀q o,q≠z->h'.get? q=some o->h2.get? q=some o:=λq o hq e=>(sb.2 q hq).trans e;refine⟨.ref s.heap.objs.size,_,I2,rfl,⟨_,x,y,rfl,freshT,rfl,λzs hz=>by rw[I.list_inj hz hx];exact ex,λzs hz=>by rw[I.list_inj hz hy];exact ey⟩,?_,λq hq=>?_⟩
  .have hTI:=old TI _ st.n1 st.n5 st.n6 st.n7 st.ht;exact{st with hz:=z2,ht:=kp TI _ st.n1 hTI,ho:=⟨u,v,kp TO _ st.n2 t1⟩,h1:=l1.at λo e=>kp i1 o st.n3 e,h2:=l2.at λo e=>kp i2 o st.n4 e}
  .rw[Ij (ne q hq)];exact(hf q hq).1
 done:=by
  intro X hP hw hK hF hc i Ad s U H E I hf st hg;subst hP hw hK;obtain⟨xs,ys,hx,hy,hl⟩:=hg;obtain⟨Bj,rv,p,_⟩:=I.list hx;obtain⟨jts,rw',p',_⟩:=I.list hy;obtain⟨c,d,ho⟩:=st.ho;have e1:=rv.length;have e2:=rw'.length;refine wpAny_pyNext_zip_end (I.ok.hd hc) (st.apart p.isList p'.isList) st.hz st.ht ho st.h1 st.h2 p.isList p'.isList ?_ λh' old=>⟨rfl,I.turnedN hf λq o hq e=>?_⟩
  .rcases hl with hl|hl
   .exact .inl (by simp;ext)
   .exact .inr (by simp;ext)
  .simp only[Bx,AX,or_false,not_or]at hq;exact old q o hq.1 hq.2.2.1 hq.2.2.2.1 hq.2.2.2.2 e
 self:=λ_ _ _ _ _ st h=>V3 st.hz h
def fG (K:Ac)(ta:TA):TI:=λU H R=>ta U H λvs H1=>∃a b xs ys,vs=[.ref a,.ref b]/\FS K H1 a xs/\FS K H1 b ys/\R (wM K a b) H1
theorem ei {X:Cx}{es:List Cb}{k:Nat}{tp:Pos}{a b:Cb}{ta:TA}{p pos:Pos}(hg:Gl X "zip")(hm:X.mg "zip" = none)(ha:PA X [a,b] ta)(hs:Ar [a,b] X.env=[(false,eval a X.env),(false,eval b X.env)]:=by rfl)(hs2:Ar [b] X.env=[(false,eval b X.env)]:=by rfl) :
  PI X (.Tuple es k tp) (.Call (.Name "zip" p) [a,b] [] pos) (fG X.K ta):=by
 intro Ad s U H R I h;refine Call_ (Qz I hg hm boot_zip (BO (Do (ha pos Ad s U H _ I h) λus s1 e=>e.el λvs H1 I1 r1 q1=>?_) (by rw[hs,hs2]) (by rw[hs2];rfl)));refine Al λG' kk'=>?_;obtain⟨a,b,xs,ys,e,hx,hy,q⟩:=q1;refine kk' ?_;clear kk';subst e;cases r1 with
 |cons r rr=>
  cases rr with
  |cons r' rr=>
   cases rr;cases(show _=AF a from r);cases(show _=AF b from r');obtain⟨Bj,rv,pl,_⟩:=I1.list hx;obtain⟨jts,rv',pl',_⟩:=I1.list hy;refine call_zip_2 pl.isList pl'.isList λh' z t o l1 l2 hz old=>?_;have I2:A6 X Ad U H1 {s1 with heap:=h' }:=I1.kept λb o e=>old b o e;have hN:∀i j,i≠j->(s1.heap.objs.size+i:Nat)≠s1.heap.objs.size+j:=λi j h=>by ext
   refine V3 z ?_;refine⟨_,[s1.heap.objs.size+4,s1.heap.objs.size+2,s1.heap.objs.size+3,s1.heap.objs.size,s1.heap.objs.size+1],_,_,H1,rfl,I2,tj _ _ _ _ _ a b,⟨hN 2 4 (by decide),hN 3 4 (by decide),hN 0 4 (by decide),hN 1 4 (by decide),hN 2 3 (by decide),hN 2 0 (by decide),hN 2 1 (by decide),hN 3 0 (by decide),hN 3 1 (by decide),hN 0 1 (by decide),z,t,⟨_,_,o⟩,l1,l2⟩,λc hc=>?_,q⟩
   have hge:s1.heap.objs.size<=c:=by
    simp only[Bx,AX,or_false]at hc;rcases hc with rfl|rfl|rfl|rfl|rfl
    .exact He _ _
    .exact He _ _
    .exact He _ _
    .exact AJ _
    .exact He _ _
   exact I1.fpOk hge (I1.hok.fresh hge)
noncomputable abbrev Cx.fr (X:Cx)(f:Av×Obj×HO):Cx:={X with fz:=f::X.fz}
theorem A6.unfr (I:A6 (X.fr f) Ad U H s):A6 X Ad U H s:=
 ⟨{I.ok with},I.os,I.bare,I.base,I.loc,I.cell,I.free,I.freeC,I.pin,I.hok,I.len,λg hg=>I.fzd g (Aw _ hg)⟩
theorem A6.freeze (I:A6 X Ad U H s)(rd:Rd H a (.dK ks)) :
  ∃ob,A6 (X.fr (a,ob,.dK ks)) Ad U (CD H a (.frz ob (.dK ks))) s:=by
 have fin:∀{H':Hp} {ob:Obj},A6 X Ad U H' s->H' a=some (.frz ob (.dK ks))->A6 (X.fr (a,ob,.dK ks)) Ad U H' s:=λ{H' ob} J e=>
  ⟨{ J.ok with },J.os,J.bare,J.base,J.loc,J.cell,J.free,J.freeC,J.pin,J.hok,J.len,λg hg=>by
   rcases AU.mp hg with rfl|hg
   .exact e
   .exact J.fzd g hg⟩
 rcases rd with e|⟨ob,e⟩
 .obtain⟨z,hd,vs,rel,dd⟩:=Ra I.hok (.inl e);obtain⟨ep,ob,es,eo,_⟩:=dd.dictAt;refine⟨ob,fin ?_ MA⟩;have ne:∀b u,H b=some u->u≠.dK ks->b≠a:=λb u q n z=>by rw[z,e]at q;exact n (Ba q).symm
  have hu:∀b u,H b=some u->u≠.dK ks->CD H a (.frz ob (.dK ks)) b=some u:=λb u q n=>by rw[Ij (ne b u q n)];exact q
  refine I.step (ch:=[]) (λ_ z=>nomatch z) (λb o _ _ _ q _=>q) (λb o _ _ _ q _=>⟨o.slots,q⟩)
   (λb o _ q n=>by rw[Ij (λz=>by rw[z,e]at n;cases n)];exact n) (λb o _ q=>⟨o,q⟩) (λb xs q=>hu b _ q (by simp)) (λb o u q=>hu b _ q (by simp)) (λb ps q=>⟨#[],by rw[hu b _ q (by simp)];simp⟩) (λm hm=>hm) (λb u q=>?_) I.bare
  by_cases hb:b=a
  .subst hb;rw[MA]at q;cases q;exact⟨eo,(I.hok b _ e).stay (λ_ _ _ q=>q) (λc q=>hu c _ q (by simp)) λc xs q=>hu c _ q (by simp)⟩
  .rw[Ij hb]at q;exact(I.hok b u q).stay (λ_ _ _ q=>q) (λc q=>hu c _ q (by simp)) λc xs q=>hu c _ q (by simp)
 .refine⟨ob,fin ?_ MA⟩
  have z:CD H a (.frz ob (.dK ks))=H:=funext λb=>by
   by_cases hb:b=a
   .subst hb;rw[MA,e]
   .rw[Ij hb]
  rw[z];exact I
noncomputable def YI (ks:List (Cd×V)):It:=⟨λi _=>i<ks.length,λi H x H'=>H'=H/\∃p,ks[i]? = some p/\x=kV p.1,λi _=>ks.length<=i⟩
theorem db {ks:List (Cd×V)}{vs:List (Cd×Ah)}(rel:KV ks vs){i:Nat}(h:i<ks.length):∃k v v',ks[i]? = some (k,v)/\vs[i]? = some (k,v'):=by
 have hk:=rel.keys;have hl:=rel.length;have h1:(ks.map (·.1))[i]? = (vs.map (·.1))[i]?:=by rw[hk]
 rw[AL,AL,Ag h,Ag (by omega:i<vs.length)]at h1;have h2:ks[i].1=vs[i].1:=by simpa using h1
 exact⟨ks[i].1,ks[i].2,vs[i].2,Ag h,by rw[h2];exact Ag (by ext)⟩
theorem wt {K:Ac}(a it)(hF:(a,ob,HO.dK ks)∈F)(rel:KV ks vs)(da:Heap.DictAt (BU P w) h0 a vs ep)(h0a:h0.get? a=some ob) :
  MW P w K F tg (YI ks) [it] it (λi h=>h.IsKeyIter it a i vs.length ep) where
 mem:=by simp
 obj:=λi h st b hb=>by
  have e:b=it:=by simpa using hb
  subst e;obtain⟨o,e,c,d⟩:=st;exact⟨o,e,λv z=>by rw[d]at z;cases z⟩
 keep:=λi h h' st k=>st.at λo e=>k it (by simp) o e
 item:=by
  intro X hP hw hK hF' hc i Ad s U H E I hf st hg;subst hP hw hK hF';obtain⟨k,v,v',e1,e2⟩:=db rel (show i<ks.length from hg);have ea:=I.fzd _ hF;have go:=(show CQ X.prog X.w H s.heap a (.frz ob (.dK ks))from I.hok a _ ea).1;have da':=da.at' λo e=>by rw[h0a]at e;cases e;exact go
  obtain⟨f0,f1,f2,f3,f4,f5⟩:=hf it (by simp);refine wpAny_pyNext_dict_item st da' e2 λkey h' isk st' sb=>?_;have I1:A6 X Ad U H {s with heap:=h' }:=I.turned (λb o hb e=>(sb.2 b hb).trans e) f0 f1 f3 f4 f5;obtain⟨o,e,c,d⟩:=id st';exact⟨key,rfl,Vt e c d (by decide) ⟨kV k,H,I1,cq isk,⟨rfl,_,e1,rfl⟩,st',λb hb=>(hf b hb).1⟩⟩
 done:=by
  intro X hP hw hK hF' hc i Ad s U H E I hf st hg;subst hP hw hK hF';have ea:=I.fzd _ hF;have go:=(show CQ X.prog X.w H s.heap a (.frz ob (.dK ks))from I.hok a _ ea).1;have da':=da.at' λo e=>by rw[h0a]at e;cases e;exact go
  obtain⟨f0,f1,f2,f3,f4,f5⟩:=hf it (by simp);have hl:=rel.length;have hg':ks.length<=i:=hg;exact wpAny_pyNext_dict_end (I.ok.hd hc) st da' (Er.mpr (by ext)) λh' eb=>⟨rfl,I.turned (λb o hb e=>eb b o hb e) f0 f1 f3 f4 f5⟩
 self:=λ_ _ _ _ _ st h=>wpAny_pyIter_keyiter st h
theorem d9 {X:Cx}(hl:PE X l tl)(hF:(a,ob,HO.dK ks)∈X.fz):PI X tg l (λU H R=>tl U H λv H1=>v=.ref a/\R (YI ks) H1):=by
 intro Ad s U H R I h;refine Do (hl Ad s U H _ I h) λu s1 e=>e.el λv H1 I1 r ⟨e,q⟩=>?_;subst e;cases(show u=AF a from r);have ea:=I1.fzd _ hF;obtain⟨z,hd,vs,rel,dd⟩:=Ra I1.hok (.inr ⟨ob,ea⟩);obtain⟨ep,da⟩:=dd.dictAt;have go:=(show CQ X.prog X.w H1 s1.heap a (.frz ob (.dK ks))from I1.hok a _ ea).1;refine wpAny_pyIter_dict hd da ?_;have I2:A6 X Ad U H1 {s1 with heap:=s1.heap.push {cls:=.type "dict_keyiterator",data:=.fields #[.ref a,.int 0 0,.int (vs.length:Int) 0,.int (ep:Int) 0]} }:=I1.kept λb o e=>Af _ e;refine⟨s1.heap.objs.size,[s1.heap.objs.size],_,_,H1,rfl,I2,wt a _ hF rel da go,⟨_,Ay _ rfl,rfl,rfl⟩,λb hb=>?_,q⟩;have e:b=s1.heap.objs.size:=by simpa using hb
 subst e;exact I1.fpOk (AJ _) (I1.hok.fresh (AJ _))
end L2
namespace L3
open PySem PySem.Spec PyProof.Rows L2
unseal BX HQ Jw Gc Ky GZ Du Cq FL BL Fv FM K2 Hs EI
section
noncomputable def Lu (xs ys:List D):List D:=(xs.zip ys).map λp=>.tup [p.1,p.2]
theorem tu {xs ys:List D}{i:Nat}{d:D}(h:(Lu xs ys)[i]? = some d):∃x y,xs[i]? = some x/\ys[i]? = some y/\d=.tup [x,y]:=by
 unfold Lu at h;rw[AL]at h;cases e:(xs.zip ys)[i]? with
 |none=>rw[e]at h;cases h
 |some p=>rw[e]at h;rw[List.getElem?_zip_eq_some]at e;exact⟨p.1,p.2,e.1,e.2,(Ba h).symm⟩
theorem tz (xs ys:List D):(Lu xs ys).length=min xs.length ys.length:=by unfold Lu;rw[Ae,Ru]
def WI (t:Kp):Nr:=λτ M R=>t τ M λds M1=>Fq ds λx y=>CH (Bo M1 x) λxs=>CH (Bo M1 y) λys=>R (Lu xs ys) (λM=>Bo M x=some xs/\Bo M y=some ys) M1
theorem gx {es:List Cb}{n:Nat}{tp:Pos}{a b:Cb}{ta:Kp}{p pos:Pos}(hm:X.mg "zip" = none)(ha:Gc X [a,b] ta)(hg:Gl X "zip":=by rfl)(hs:Ar [a,b] X.env=[(false,eval a X.env),(false,eval b X.env)]:=by rfl)(hs2:Ar [b] X.env=[(false,eval b X.env)]:=by rfl) :
  Hs X (.Tuple es n tp) (.Call (.Name "zip" p) [a,b] [] pos) (WI ta):=PI.mono (ei hg hm ha hs hs2) (by
 intro U H R;ext1⟨Z,τ,M,R2,st,hr,h,k⟩;refine ⟨Z,τ,M,_,st,hr,h,λZ1 vs ds H1 M1 l1 h1 a1 q1=>?_⟩;obtain ⟨x,y,rfl,q0⟩:=L9 q1;obtain ⟨xs,e,q0⟩:=Cr q0;obtain ⟨ys,e',q⟩:=Cr q0;obtain ⟨v,w,rfl,a2,a3⟩:=ats2 a1;obtain ⟨p,ws,rfl,hs,b2⟩:=h1.rdL e a2;obtain ⟨p',ws',rfl,hs',b3⟩:=h1.rdL e' a3;refine ⟨p,p',ws,ws',rfl,hs,hs',k Z1 _ (Lu xs ys) _ H1 M1 l1 h1 (λi H M Z' l hr s=>?_) q⟩;obtain ⟨q,us,e2,hu,c2⟩:=hr.rdL s.1 (a2.mono l);cases e2;obtain ⟨q',us',e3,hu',c3⟩:=hr.rdL s.2 (a3.mono l);cases e3;have lu:=c2.length;have lu':=c3.length;refine ⟨λd hd=>?_,λhi=>⟨us,us',hu,hu',by rw [tz] at hi;ext⟩⟩;obtain ⟨d1,d2,g1,g2,rfl⟩:=tu hd;obtain ⟨v1,hv1,av1⟩:=c2.get g1;obtain ⟨v2,hv2,av2⟩:=c3.get g2;refine ⟨⟨us,us',v1,v2,hu,hu',hv1,hv2⟩,λz H' yl=>?_⟩;refine Al λG' kk'=>?_;obtain ⟨r,x',y',e1',hn,e2',f1,f2⟩:=yl;refine kk' ?_;clear kk';subst e1' e2';have z1:=f1 us hu;rw [hv1] at z1;cases z1;have z2:=f2 us' hu';rw [hv2] at z2;cases z2;exact ⟨_,Le.ext,hr.newT hn (.cons av1 (.cons av2 .nil)),⟨r,rfl,.inr ⟨rfl,rfl⟩⟩⟩)
noncomputable def capT (τ:Gq)(caps:List (Str×Nat))(ds:List D):Gq:=ds.map some++caps.map λc=>(τ[c.2]?).join
theorem Gp.capT (h:Gp Z U τ)(caps:List (Str×Nat)):∀{us:List V}{ds:List D},Ds Z us ds->Gp Z (Fb U caps (us.map some)) (capT τ caps ds)
 |[],[],.nil=>by
  unfold Fb L3.capT;rw[CY,CY,GQ,GQ];induction caps with
  |nil=>exact .nil
  |cons c r ih=>exact .cons (h.join c.2) ih
 |_::_,_::_,.cons a r=>.cons a (Gp.capT h caps r)
def Kc (n:Nat)(xs:List D)(S:Mp->Prop)(caps:List (Str×Nat))(tt:K0)(te:DG)(τ:Gq)(M:Mp)(Q:List D->Mp->Prop):Prop:=xs.length<=Am/\∃W:Nat->List D->Mp->Prop,W 0 [] M/\(∀i ys M,W i ys M->S M/\ys.length<=i) /\
 (∀i x ys M,xs[i]? = some x->W i ys M->∃us,x=.tup us/\us.length=n/\tt (capT τ caps us) M λb M2=>if b=true then te (capT τ caps us) M2 λy M3=>W (i+1) (ys++[y]) M3 else W (i+1) ys M2)/\∀ys M,W xs.length ys M->Q ys M
def LY (wi:Nr)(n:Nat)(caps:List (Str×Nat))(tt:K0)(te:DG):DG:=λτ M Q=>wi τ M λxs S M1=>Kc n xs S caps tt te τ M1 λys M2=>Q (.lst ys) M2
theorem uE {K:Ac}(st:Gp Z U τ)(hr:HR K H M Z)(h:wi τ M λxs S M1=>Kc n xs S caps tt te τ M1 QL)
  (ht:∀U H Q,lT K tt U H Q->tt1 U H Q)
  (k:∀Z1 H1 M1 vs ds,Le Z Z1->HR K H1 M1 Z1->Ds Z1 vs ds->QL ds M1->∀p,H1 p=none->Q (.ref p) (CD H1 p (.lst vs))):L0 (lI K wi) n caps tt1 (lE K te) K U H Q:=by
 refine⟨Z,τ,M,_,st,hr,h,λZ1 J xs S H1 M1 l1 h1 jk ⟨hz,W,w0,stay,turn,done⟩=>?_⟩;refine⟨xs.length,λi vs H=>i<=xs.length/\∃Z2 M2 ds,Le Z1 Z2/\HR K H M2 Z2/\Ds Z2 vs ds/\W i ds M2,⟨C9 _,Z1,M1,[],Le.refl _,h1,.nil,w0⟩,?_⟩;intro i vs H2;ext1⟨hi,Z2,M2,ds,l2,h2,a2,w2⟩;obtain⟨s2,hl⟩:=stay i ds M2 w2;obtain⟨go,stop⟩:=jk i H2 M2 Z2 l2 h2 s2;have la:=a2.length;by_cases hlt:i<xs.length
 .obtain⟨g1,g2⟩:=go _ (Ag hlt);refine .inr ⟨g1,hlt,by ext,λx H' y=>?_⟩;obtain⟨Z5,l5,h5,a⟩:=g2 x H' y;obtain⟨ds5,ex,hl5,tk⟩:=turn i _ ds M2 (Ag hlt) w2;rw[ex]at a;obtain⟨p5,us,rfl,hs5,a5⟩:=h5.rdT a;have l2:=l2.trans l5;have a2:=a2.mono l5;refine⟨p5,us,rfl,hs5,a5.length.trans hl5,?_⟩;refine ht _ _ _ (lT.bind ((st.mono (l1.trans l2)).capT caps a5) h5 tk λZ3 b H3 M3 l3 h3 q3=>?_);cases b with
  |false=>rw[if_neg Aj]at q3 ⊢;exact⟨hlt,Z3,M3,ds,l2.trans l3,h3,a2.mono l3,q3⟩
  |true=>rw[if_pos rfl]at q3 ⊢;refine lE.bind (((st.mono (l1.trans l2)).capT caps a5).mono l3) h3 q3 λZ4 z dz H4 M4 l4 h4 a4 q4=>?_;exact⟨hlt,Z4,M4,ds++[dz],l2.trans (l3.trans l4),h4,(a2.mono (l3.trans l4)).append (.cons a4 .nil),q4⟩
 .have e:i=xs.length:=by ext
  subst e;exact .inl ⟨stop (AJ _),by ext,k Z2 H2 M2 vs ds (l1.trans l2) h2 a2 (done ds M2 w2)⟩
theorem RU {K:Ac}(ht:∀U H Q,lT K tt U H Q->tt1 U H Q):∀U H Q,lE K (LY wi n caps tt te) U H Q->L0 (lI K wi) n caps tt1 (lE K te) K U H Q:=by
 intro U H Q;ext1⟨Z,τ,M,Q2,st,hr,h,k⟩;exact uE st hr h ht λZ1 H1 M1 vs ds l1 h1 a1 q p hp=>(k.le l1).f h1 hp a1 q
theorem RI (B:JO X scope x ns caps)(hc:X.calm=true)(hi:Hs X (.Tuple tes tk px) iter wi)(he:∀cl C fp pn s H,BX (GC X scope cl C (x::(ns++caps.map (·.1))) fp pn s H) elt te)
  (hg:∀cl C fp pn s H,QH (GC X scope cl C (x::(ns++caps.map (·.1))) fp pn s H) tes (Fp (Bl (ns.length+1)))) (hgn:∀cl C fp pn s H,(Bz tes (GC X scope cl C (x::(ns++caps.map (·.1))) fp pn s H).env).length=ns.length+1:=by intros;rfl) (hgf:∀cl C fp pn s H,Jh (λy=>y.1) (Bz tes (GC X scope cl C (x::(ns++caps.map (·.1))) fp pn s H).env)=none:=by intros;rfl)
  (hs:∀x,BC iter X.env x=pure x:=by intro _;rfl):BX X (.ListComp elt [⟨.Tuple tes tk px,iter,[],0⟩] scope pos) (LY wi (ns.length+1) caps Gy te):=PE.mono (qZ (te:=lE X.K te) B hc hi he (λ_ _ _ _ _ _=>Im.nil) hg hgn hgf hs) (RU LI)
noncomputable def X7:D->Option (List (Cd×D))
 |.dic AQ=>some AQ
 |_=>none
theorem HR.frzH {K:Ac}(h:HR K H M Z)(z:Z p (.dic AQ))(rd:Rd H p (.dK ks)):HR K (CD H p (.frz ob (.dK ks))) M Z:=by
 have hM:M p=none:=by
  cases e:M p with
  |none=>rfl
  |some o=>exact((h.m p o e).1 _ z).elim
 have key:∀{d:D},HB H Z p d->HB (CD H p (.frz ob (.dK ks))) Z p d:=λ{d} hb=>by
  cases d with
  |dic ds=>
   obtain⟨vs,r,a⟩:=hb
   have e:HO.dK vs=HO.dK ks:=by
    rcases r with r|⟨o,r⟩<;>rcases rd with r' | ⟨o',r'⟩<;>rw[r]at r'<;>cases r'<;>rfl
   cases e;exact⟨_,.inr ⟨ob,MA⟩,a⟩
  |tup ds=>obtain⟨vs,r,a⟩:=hb;rcases rd with r' | ⟨o',r'⟩<;>rw[r]at r'<;>cases r'
  |dct ds=>obtain⟨vs,r,a⟩:=hb;rcases r with r|⟨o,r⟩<;>rcases rd with r' | ⟨o',r'⟩<;>rw[r]at r'<;>cases r'
  |lst ds=>obtain⟨vs,r,a⟩:=hb;rcases r with r|⟨o,r⟩<;>rcases rd with r' | ⟨o',r'⟩<;>rw[r]at r'<;>cases r'
  |_=>exact hb.elim
 refine⟨λb d q=>?_,λb w q=>?_⟩
 .by_cases hb:b=p
  .subst hb;rcases h.z b d q with k|k
   .exact .inl (key k)
   .exact .inr k
  .rcases h.z b d q with k|k
   .exact .inl (k.at (Ij hb))
   .exact .inr k
 .have hb:b≠p:=λe=>by rw[e,hM]at q;cases q
  obtain⟨k1,k2⟩:=h.m b w q;exact⟨k1,k2.at (Ij hb)⟩
def TU (t:DG):Nr:=λτ M R=>t τ M λx M1=>CH (X7 x) λAQ=>R (AQ.map λp=>kD p.1) (λ_=>True) M1
theorem kz {Z:Zt}{ks:List (Cd×V)}{AQ:List (Cd×D)}(a:Cu Z ks AQ){i:Nat}{p:Cd×V}(h:ks[i]? = some p):∃d,AQ[i]? = some (p.1,d):=by
 induction a generalizing i with
 |nil=>simp at h
 | @cons u d _ _ h1 _ ih=>
  cases i with
  |zero=>
   have e:u=p:=by simpa using h
   subst e;obtain⟨e1,_⟩:=h1;exact⟨d.2,by rw[e1];rfl⟩
  |succ i=>exact ih (by simpa using h)
theorem xR (k):At Z (kV k) (kD k):=by cases k<;>rfl
theorem pq {K:Ac}{Z:Zt}{ks:List (Cd×V)}{AQ:List (Cd×D)}(a:Cu Z ks AQ):YH K (YI ks) (AQ.map λp=>kD p.1) (λ_=>True) Z:=λi H M Z' l hr s=>by
 have hl:=a.length;refine⟨λd hd=>?_,λhi=>by rw[Ae]at hi;show ks.length<=i;ext⟩;rw[AL]at hd
 have hi:i<AQ.length:=by
  cases e:AQ[i]? with
  |none=>rw[e]at hd;cases hd
  |some p=>exact(Au.mp e).1
 refine⟨show i<ks.length by ext,λx H' y=>?_⟩;obtain⟨rfl,p,e1,rfl⟩:=y;obtain⟨d',e2⟩:=kz a e1;rw[e2]at hd;cases hd;exact⟨Z',Le.refl _,hr,xR _⟩
noncomputable def DX:List D->Option (List Str)
 |[]=>some []
 |.str a::r=>(DX r).map (a::·)
 |_::_=>none
theorem UO:∀{ds:List D}{ss:List Str},DX ds=some ss->ds=ss.map D.str
 |[],ss,h=>by cases h;rfl
 |.str a::r,ss,h=>by
  change(DX r).map (a::·)=_ at h;cases e:DX r with
  |none=>rw[e]at h;cases h
  |some t=>rw[e]at h;cases h;rw[AM,<- UO e]
 |.non::r,_,h | .int _::r,_,h | .bl _::r,_,h | .tup _::r,_,h | .lst _::r,_,h | .dic _::r,_,h | .dct _::r,_,h | .ref _::r,_,h | .ty _::r,_,h=>by cases h
theorem ww (as bs:List Int):Lu (as.map D.int) (bs.map D.int)=(as.zip bs).map λp=>.tup [.int p.1,.int p.2]:=by
 unfold Lu;rw[List.zip_map,CP];rfl
theorem rJ (f):∀as bs:List Int,((as.zip bs).map λp=>D.int (f p.1 p.2))=(as.zipWith f bs).map D.int
 |[],_=>rfl
 |_::_,[]=>rfl
 |a::as,b::bs=>by
  show D.int (f a b)::(as.zip bs).map _=D.int (f a b)::(as.zipWith f bs).map D.int;rw[rJ f as bs]
theorem Kc.ints {as bs:List Int}(f:Int->Int->Int)(hz:as.length<=Am)(hS:S M)(h:∀a b,(a,b)∈as.zip bs->∀R:Eb,R (.int (f a b)) M->te (capT τ caps [.int a,.int b]) M R)(q:Q ((as.zipWith f bs).map D.int) M):Kc 2 (Lu (as.map D.int) (bs.map D.int)) S caps Gy te τ M Q:=by
 rw[ww];refine⟨by rw[Ae,Ru];ext,λi ys M'=>M'=M/\ys=((as.zip bs).take i).map λp=>D.int (f p.1 p.2),⟨rfl,rfl⟩,?_,?_,?_⟩
 .rintro i ys M' ⟨rfl,rfl⟩;exact⟨hS,by rw[Ae,AW];ext⟩
 .rintro i x ys M' hx ⟨rfl,rfl⟩;rw[AL]at hx;cases e:(as.zip bs)[i]? with
  |none=>rw[e]at hx;cases hx
  |some p=>rw[e]at hx;refine⟨_,(Ba hx).symm,rfl,?_⟩;unfold Gy;dsimp only;rw[if_pos rfl];exact h p.1 p.2 (AG e) _ ⟨rfl,by rw[A3,e,AI];rfl⟩
 .rintro ys M' ⟨rfl,rfl⟩;rw[Ae,Bw];rw[rJ f as bs];exact q
end
end L3
namespace L2
open PySem PySem.Spec PyProof.Rows L3
noncomputable def wO (x:Str):It:=⟨λi _=>i<x.cps.size,λi H v H'=>H'=H/\∃c,x.cps[i]? = some c/\v=.str ⟨#[c]⟩,λi _=>x.cps.size<=i⟩
theorem tf {K:Ac}(it)(x)(t:Tok):MW P w K F tg (wO x) [it] it (λi h=>h.IsStrIter it "str_ascii_iterator" x t i) where
 mem:=by simp
 obj:=λi h st b hb=>by
  have e:b=it:=by simpa using hb
  subst e;obtain⟨o,e,c,d⟩:=st;exact⟨o,e,λv z=>by rw[d]at z;cases z⟩
 keep:=λi h h' st k=>by
  obtain⟨o,e,c,d⟩:=st;exact⟨o,k it (by simp) o e,c,d⟩
 item:=by
  intro X hP hw hK hF hc i Ad s U H E I hf st hg;subst hP hw hK;have hi:=hg;obtain⟨f0,f1,f2,f3,f4,f5⟩:=hf it (by simp);refine wpAny_pyNext_ascii_item st (AT hi) λh' st' sb=>?_;have I1:A6 X Ad U H {s with heap:=h',toks:=s.toks+1}:=I.turned (λb o hb e=>(sb.2 b hb).trans e) f0 f1 f3 f4 f5;obtain⟨o,e,c,d⟩:=id st';exact⟨_,rfl,Vt e c d (by decide) ⟨.str ⟨#[x.cps[i]]⟩,H,I1,⟨_,rfl⟩,⟨rfl,_,AT hi,rfl⟩,st',λb hb=>(hf b hb).1⟩⟩
 done:=by
  intro X hP hw hK hF hc i Ad s U H E I hf st hg;subst hP hw hK;have hg':=hg;obtain⟨f0,f1,f2,f3,f4,f5⟩:=hf it (by simp);exact wpAny_pyNext_ascii_end (I.ok.hd hc) st (DK hg') λh' eb=>⟨rfl,I.turned (λb o hb e=>eb b o hb e) f0 f1 f3 f4 f5⟩
 self:=λ_ _ _ _ _ st h=>wpAny_pyIter_striter_ascii st h
theorem ef {X:Cx}{tg l:Cb}{tl:TE}(hl:PE X l tl):PI X tg l (λU H R=>tl U H λv H1=>∃x,v=.str x/\(x.cps.all λc=>decide (c<128))=true/\R (wO x) H1):=by
 intro Ad s U H R I h;refine Do (hl Ad s U H _ I h) λu s1 e=>e.el λv H1 I1 r ⟨x,e,ha,q⟩=>?_;subst e;obtain⟨t,rfl⟩:=r;refine wpAny_pyIter_ascii ha ?_;have I2:A6 X Ad U H1 {s1 with heap:=s1.heap.push {cls:=.type "str_ascii_iterator",data:=.fields #[.str x t,.int 0 0]} }:=I1.kept λb o e=>Af _ e;refine⟨s1.heap.objs.size,[s1.heap.objs.size],_,_,H1,rfl,I2,tf _ x t,⟨_,Ay _ rfl,rfl,rfl⟩,λb hb=>?_,q⟩;have e:b=s1.heap.objs.size:=by simpa using hb
 subst e;exact I1.fpOk (AJ _) (I1.hok.fresh (AJ _))
theorem va :Gd X (Bd .LtE) (λx y H Q=>∃i j,x=.str i/\y=.str j/\Q (.bl (!decide (j.cps.toList<i.cps.toList))) H):=by
 intro Ad s U H x y v u Q I rx ry h;obtain⟨i,j,rfl,rfl,q⟩:=h;obtain⟨t,rfl⟩:=rx;obtain⟨t',rfl⟩:=ry;exact richCompare_gives (op:=.LtE) (Iz _ _ _) (Iz _ _ _) PySem.F.slot_str_le PySem.F.entry_str_le (PySem.F.args_str_le_2 _ _) (PySem.gives_str_le i j t t') (by simp[Made.takes]) (Iv I q rfl)
end L2
namespace L3
open PySem PySem.Spec PyProof.Rows L2
unseal BX HQ Jw Gc Ky GZ Du Cq FL BL Fv FM K2 Hs EI
section
noncomputable def KO (z:Str):List D:=z.cps.toList.map λc=>.str ⟨#[c]⟩
def WK (t:DG):Nr:=λτ M R=>t τ M λx M1=>GI x λz=>(z.cps.all λc=>decide (c<128))=true/\R (KO z) (λ_=>True) M1
theorem gu (hl:BX X l tl):Hs X tg l (WK tl):=PI.mono (ef hl) (by
 intro U H R;ext1⟨Z,τ,M,R2,st,hr,h,k⟩;refine lE.bind st hr h λZ1 v d H1 M1 l1 h1 a1 q1=>?_;obtain⟨z,rfl,ha,q⟩:=Et q1;refine⟨z,a1,ha,k Z1 _ (KO z) _ H1 M1 l1 h1 (λi H M Z' l hr s=>?_) q⟩;unfold KO;refine⟨λd hd=>?_,λhi=>by rw[Ae,A8]at hi;exact hi⟩;rw[AL,C0]at hd;cases e:z.cps[i]? with
 |none=>rw[e]at hd;cases hd
 | some c=>rw [e] at hd;cases hd;refine ⟨(F3.mp e).1,λx H' y=>?_⟩;obtain ⟨rfl,c',e',rfl⟩:=y;rw [e] at e';cases e';exact ⟨Z',Le.refl _,hr,rfl⟩)
theorem qX:Cq X (Bd .LtE) (λx y M Q=>GI x λi=>GI y λj=>Q (.bl (!decide (j.cps.toList<i.cps.toList))) M):=Gd.mono va (by
 intro x y H Q;ext1⟨Z,dx,dy,M,Q2,hr,ax,ay,h,k⟩;obtain ⟨i,rfl,h1⟩:=Et h;obtain ⟨j,rfl,q⟩:=Et h1;exact ⟨i,j,ax,ay,k.b hr q⟩)
noncomputable def IQ:List D->Option (List Bool)
 |[]=>some []
 |.bl b::r=>(IQ r).map (b::·)
 |_::_=>none
theorem sJ:∀{ds:List D}{bs:List Bool},IQ ds=some bs->ds=bs.map D.bl
 |[],bs,h=>by cases h;rfl
 |.bl a::r,bs,h=>by
  change(IQ r).map (a::·)=_ at h;cases e:IQ r with
  |none=>rw[e]at h;cases h
  |some t=>rw[e]at h;cases h;rw[AM,<- sJ e]
 |.non::r,_,h | .int _::r,_,h | .str _::r,_,h | .tup _::r,_,h | .lst _::r,_,h | .dic _::r,_,h | .dct _::r,_,h | .ref _::r,_,h | .ty _::r,_,h=>by cases h
theorem uA:∀bs,IQ (bs.map D.bl)=some bs
 |[]=>rfl
 |b::r=>by
  show(IQ (r.map D.bl)).map (b::·)=_;rw[uA r];rfl
theorem uk (bs:List Bool):(Bl bs.length).all (λi=>bs.getD i true)=bs.all id:=by
 induction bs with
 |nil=>rfl
 |cons b r ih=>rw[AO,Em,FY,Vd,FY];congr 1
theorem xN (hc:X.calm=true):BL X (.builtin "all") (λxs M Q=>GJ xs λx=>CH (Bo M x) λds=>CH (IQ ds) λbs=>Q (.bl (bs.all id)) M):=by
 intro Ad s U H xs us Q I r;ext1⟨Z,ds,M,Q2,hr,a,h,k⟩;obtain⟨x,rfl,h1⟩:=GW h;obtain⟨zs,e,h2⟩:=Cr h1;obtain⟨bs,e2,q⟩:=Cr h2;obtain⟨v,rfl,av⟩:=JL a;obtain⟨p,ws,rfl,hs,a2⟩:=hr.rdL e av;obtain⟨u,rfl,ru⟩:=HA r;cases(show u=AF p from ru);obtain⟨Bj,rv,pl,hz⟩:=I.list hs;have hzs:=sJ e2;have l1:=rv.length;have l2:=a2.length;have hzl:zs.length=bs.length:=by rw[hzs,Ae]
 have hsz:Bj.toArray.size=bs.length:=by simp;ext
 refine call_all_walkS (Fe pl.isList ?_)
 have hlt:p<s.heap.objs.size:=by
  obtain⟨o,eo,_⟩:=pl.isList;exact An eo
 have hne:=A5 hlt;refine⟨s.heap.objs.size,[s.heap.objs.size,p],[s.heap.objs.size],_,Bj.toArray.size,_,_,λi=>bs.getD i true,rfl,(We (show X.A.in1.handled=none from I.ok.hd hc) s.heap.objs.size p hne Bj.toArray).toS,⟨⟨_,Ay _ rfl,rfl,rfl⟩,?_⟩,?_,?_⟩
 .obtain⟨o,eo,c1,n,c2⟩:=pl.isList;exact⟨o,Af _ eo,c1,n,c2⟩
 .intro i v s' Q' E' hv hq;have hi:=(F3.mp hv).1;obtain⟨v',d',_,e1,q1,z1⟩:=Uy rv a2 i hi;rw[hzs,AL]at e1;cases e4:bs[i]? with
  |none=>rw[e4]at e1;cases e1
  |some b=>
   rw[e4]at e1;cases e1;cases(show v'=V.bl b from q1)
   have hb:v=Jd b:=by
    have h3:=z1;rw[AT hi,h3]at hv;exact(Ba hv).symm
   subst hb
   have hq':Q' b s':=by
    have:bs.getD i true=b:=by rw[Cg,e4];rfl
    have hq2:Q' (bs.getD i true) s':=hq;rw[this]at hq2;exact hq2
   exact CW hq'
 .intro s' mv;rw[hsz,uk];obtain⟨m1,m2,m3,m4,m5⟩:=mv;obtain⟨h',g',d',t',o'⟩:=s';have e1:=m2;have e2:=m3;have e3:=m4;subst e1 e2 e3;refine⟨.bl _,H,I.kept λb o eb=>m1 b o (λhb=>?_) (Af _ eb),rfl,k.b hr q⟩;have:b=s.heap.objs.size:=by simpa using hb
  rw[this]at eb;exact absurd (An eb) (E4 _)
theorem F4.of {α:Type}{ks:List α}{g f:α->D}{S:Mp->Prop}{caps:List (Str×Nat)}{te:DG}{τ:Gq}{M:Mp}{Q:List D->Mp->Prop}(hz:ks.length<=Am)(hS:S M)(h:∀k∈ks,∀R:Eb,R (f k) M->te (Md τ caps (some (g k))) M R)(q:Q (ks.map f) M):F4 (ks.map g) S caps Gy te τ M Q:=by
 refine⟨by rw[Ae];exact hz,λi ys M'=>M'=M/\ys=(ks.take i).map f,⟨rfl,rfl⟩,?_,?_,?_⟩
 .rintro i ys M' ⟨rfl,rfl⟩;exact⟨hS,by rw[Ae,AW];ext⟩
 .rintro i x ys M' hx ⟨rfl,rfl⟩;rw[AL]at hx;cases e:ks[i]? with
  |none=>rw[e]at hx;cases hx
  |some k=>rw[e]at hx;cases hx;unfold Gy;dsimp only;rw[if_pos rfl];exact h k (AG e) _ ⟨rfl,by rw[A3,e,AI];rfl⟩
 .rintro ys M' ⟨rfl,rfl⟩;rw[Ae,Bw];exact q
end
end L3
namespace L2
open PySem PySem.Spec PyProof.Rows L3
theorem sM (hne:l≠it):∀n i s Q,s.heap.IsListIter it l i->s.heap.IsList l items->i+n<=items.size ->
  (∀h',h'.IsListIter it l (i+n)->By it s.heap h'->Q ((items.toList.drop i).take n) {s with heap:=h' })->Aq (Ax prog w) A (draw (.ref it) n) Q E s
 |0,i,s,Q,hi,hl,hs,hQ=>by
  have e:draw (AF it) 0=pure []:=by simp only[draw]
  rw[e];exact Ab (by simpa using hQ s.heap hi (Cj _ _))
 |n+1,i,s,Q,hi,hl,hs,hQ=>by
  simp only[draw];have hlt:i<items.size:=by ext
  refine Aa (Iy hi hl (AT hlt) λh1 hi1 sb=>?_)
  have hl1:h1.IsList l items:=by
   obtain⟨o,eo,c1,n,c2⟩:=hl;exact⟨o,(sb.2 l hne).trans eo,c1,n,c2⟩
  refine Aa (Bh (sM hne n (i+1) {s with heap:=h1} _ hi1 hl1 (by ext) λh2 hi2 sb2=>Ab ?_));have z:=hQ h2 (by rw[show i+(n+1)=i+1+n by ext];exact hi2) (sb.trans sb2);rw[Dz (by simpa using hlt),List.take_succ_cons]at z;simpa using z
theorem ZcR (hd:A.handled=none)(hl:s.heap.IsList l items)
  (hn:(Bz elts env).length=items.size) (hst:(Bz elts env).findIdx? (·.1)=none)
  (hQ:∀h',Heap.ExtBut s.heap.objs.size s.heap h'->Aq (Ax prog w) A (Kt ((Bz elts env).map (·.2)) items.toList) Q E {s with heap:=h' }) :
  Aq (Ax prog w) A (KH (.Tuple elts k pos) env (.ref l)) Q E s:=by
 rw[arm_assign_Tuple];refine Aa (Kq ?_);unfold unpack;rw[hst,hn];refine Aa (Bh ?_);unfold unpackItems notIterableAtAll
 have ht:s.TypeIs (.ref l) "list":=by
  obtain⟨o,eo,c1,_⟩:=hl;exact⟨o,eo,c1⟩
 have hlt:l<s.heap.objs.size:=by
  obtain⟨o,eo,_⟩:=hl;exact An eo
 have hne:=A5 hlt;refine Aa (Aa (MD ht PySem.F.slot_list_iter.lookup ?_));rw[show(some (So "list.__iter__")).isSome=true from rfl,if_pos rfl];refine Ab ?_;rw[if_neg Aj];refine Aa (Bh (Fe hl ?_))
 have hl1:(s.heap.push {cls:=.type "list_iterator",data:=.fields #[.ref l,.int 0 0]}).IsList l items:=by
  obtain⟨o,eo,c1,n,c2⟩:=hl;exact⟨o,Af _ eo,c1,n,c2⟩
 refine Aa (Bh (sM hne items.size 0 _ _ ⟨_,Ay _ rfl,rfl,rfl⟩ hl1 (by ext) λh2 hi2 sb2=>?_))
 have hl2:h2.IsList l items:=by
  obtain⟨o,eo,c1,n,c2⟩:=hl1;exact⟨o,(sb2.2 l hne).trans eo,c1,n,c2⟩
 have hlen:((items.toList.drop 0).take items.size)=items.toList:=by
  rw[LQ,<- A8,Bw]
 rw[hlen];rw[if_neg (by rw[A8];ext)];refine Aa (Bh (Jc hd hi2 hl2 (by simp) λh3 eb=>?_));rw[if_neg (by simp)];refine Ab (hQ h3 λb o hb e=>?_);exact eb b o hb ((sb2.2 b hb).trans (Af _ e))
def fJ (K:Ac)(n:Nat)(t:UQ):TG:=λv U H Q=>∃a xs,v=.ref a/\FS K H a xs/\xs.length=n/\t xs U H Q
theorem dq (hc:X.calm=true)(h:QH X es t)
  (hn:(Bz es X.env).length=n:=by rfl) (hst:(Bz es X.env).findIdx? (·.1)=none:=by rfl):PG X (.Tuple es k pos) (fJ X.K n t):=by
 intro Ad s U H v u Q I r hw;obtain⟨a,xs,e1,hq,hl,hw⟩:=hw;subst e1;cases r;obtain⟨Bj,rv,ht,hz⟩:=I.list hq;refine ZcR (I.ok.hd hc) ht.isList (by simp[hn,<- hl,rv.length]) hst λh' hx=>?_;have I1:A6 X Ad U H {s with heap:=h' }:=I.kept λb o e=>hx b o (A5 (An e)) e;exact h Ad _ U H xs _ Q I1 (by simpa using rv) hw
end L2
namespace L3
open PySem PySem.Spec PyProof.Rows L2
unseal BX HQ Jw Gc Ky GZ Du Cq FL BL Fv FM K2 Hs EI
def fI (is:List Nat):Se:=λd τ k=>match d with
 |.lst xs=>xs.length=is.length/\k (FJ τ is xs)
 |_=>False
theorem gt (hc:X.calm=true)(h:QH X es (Fp is))
  (hn:(Bz es X.env).length=is.length:=by rfl) (hst:(Bz es X.env).findIdx? (·.1)=none:=by rfl):K2 X (.Tuple es k pos) (fI is):=PG.mono (dq hc h hn hst) (by
 intro v U H Q;ext1⟨Z,τ,M,d,Q2,st,hr,a,h,k⟩;cases d with
 |lst xs=>obtain⟨hl,q⟩:=h;obtain⟨p,vs,rfl,hs,a2⟩:=hr.rdF a;exact⟨p,vs,rfl,hs,by rw[a2.length];exact hl,jD hr k is a2 st hl q⟩
 | _=>exact h.elim)
end L3
namespace L2
open PySem PySem.Spec PyProof.Rows L3
theorem Ξ (t:Dl)(n:Nat):(t.orStandIn n).led=t.led:=by
 unfold SetTable.orStandIn;split<;>rfl
theorem vk (t:Dl)(es:Array (Int×Ah))(h:Int)(x:Ah):(layNew t es h x).2.1.led=t.led:=by
 unfold layNew;split
 .next slot wd e=>
  show((t.put slot).1.orStandIn _).led=_;rw[Ξ];rfl
 .rfl
theorem z6 (t)(es)(n):(HV t es n).2.1.led=t.led:=by
 unfold HV;split
 .next t' order e=>
  have e2:t'.led=t.led:=by
   unfold OP K3 at e;cases q:NE (Ew n-1) (es.map (·.1))with
   |none=>rw[q]at e;cases e
   |some o=>rw[q]at e;cases e;rfl
  dsimp only;split
  .exact e2
  .rfl
 .rfl
theorem Zef (t)(es)(n)(h:t.plain=false):(HV t es n).2.1.plain=false:=by
 unfold HV;split
 .next t' order e=>
  have e2:t'.plain=t.plain:=by
   unfold OP K3 at e;cases q:NE (Ew n-1) (es.map (·.1))with
   |none=>rw[q]at e;cases e
   |some o=>rw[q]at e;cases e;rfl
  dsimp only;split
  .rw[<- h];exact e2
  .rfl
 .rfl
def IT (w:BG)(es:List (Int×Ah)):Prop:=∀e∈es,∃x t,e=(Fi w x,C2 x t)
noncomputable def GA (es:List (Int×Ah)):List Str:=es.map λe=>strOf e.2
def CL (w:BG)(h:CU)(a:Av)(ks:List Str)(led:Bool):Prop:=
 ∃o es ep t,h.get? a=some o/\o.ExactSet/\o.data=Ip es ep t/\IT w es.toList/\(GA es.toList).Perm ks/\es.size<A9/\t.fits es.size=true/\t.led=led/\(es.size≠0->t.plain=false)
theorem IT.elems (h:IT w es):ElemsOf (Bv prog w) es:=λe he=>by
 obtain⟨x,t,rfl⟩:=h e he;exact⟨⟨x,by simp[Bv,D0],rfl⟩,rfl⟩
theorem iX (h:IT w es)(hx:x∉GA es):es.findIdx? (λe=>(Bv prog w).is x e.2)=none:=by
 rw[Go];intro e he;obtain⟨y,t,rfl⟩:=h e he;cases q:(Bv prog w).is x (C2 y t)with
 |false=>rfl
 |true=>
  have:y=x:=by simpa[Bv,D0]using q
  subst this;exact absurd (AB.mpr ⟨_,he,rfl⟩) hx
theorem jC (h:IT w es)(hx:x∈GA es):∃j,es.findIdx? (λe=>(Bv prog w).is x e.2)=some j:=by
 cases q:es.findIdx? (λe=>(Bv prog w).is x e.2)with
 |some j=>exact⟨j,rfl⟩
 |none=>rw[Go]at q;obtain⟨e,he,rfl⟩:=AB.mp hx;obtain⟨y,t,rfl⟩:=h e he;have:=q _ he;simp[Bv,D0,strOf]at this
theorem stored {s:CU}(ho:s.get? a=some o)(hex:o.ExactSet)(hd:o.data=Ip es ep t) :
  ∃o',(s.update a (Obj.putSet es1 t2)).get? a=some o'/\o'.ExactSet/\o'.data=Ip es1 (ep+1) t2:=by
 have e:=putSet_of es1 t2 hd;refine⟨_,D6 _ ho ?_,?_,?_⟩
 .rw[e];obtain⟨h1,h2,h3⟩:=hex;simp[Obj.isFreed,h1]
 .rw[e];exact hex
 .rw[e]
theorem SS {g:Bool->Sem Unit}(hg:∀b s₁ Q',Q' () s₁->Aq (Ax prog w) A (g b) Q' E s₁)
  (ho:s.heap.get? a=some o) (hex:o.ExactSet) (hd:o.data=Ip es ep t)
  (h1:IT w es1.toList) (hp:(GA es1.toList).Perm ks) (hsz:es1.size<A9) (hfit:t2.fits es1.size=true) (hled:t2.led=led) (hpl:t2.plain=false)
  (hR:∀h',By a s.heap h'->CL w h' a ks led->R (some true) {s with heap:=h' }) :
  Aq (Ax prog w) A (do
   storeSet a es1 t2
   if (!wd && t2.tooFull)=true then do
    g (HV t2 es1 (Dq es1.size)).2.2
    storeSet a (HV t2 es1 (Dq es1.size)).1 (HV t2 es1 (Dq es1.size)).2.1
    pure (some true)
   else pure (some true)) R E s:=by
 have hline:A9<=Am:=by decide
 obtain⟨o1,ho1,hex1,hd1⟩:=stored ho hex hd;refine Aa (Dx ho hd ?_ (by ext));split
 .refine Aa (hg _ _ _ ?_);have hperm:=relayAll_perm t2 es1 (Dq es1.size);have hfit3:=relayAll_fits t2 es1 (Dq es1.size);have hled3:=z6 t2 es1 (Dq es1.size);have hpl3:=Zef t2 es1 (Dq es1.size) hpl
  have hlen:(HV t2 es1 (Dq es1.size)).1.size=es1.size:=by
   have:=hperm.length_eq;simpa using this
  obtain⟨o2,ho2,hex2,hd2⟩:=stored ho1 hex1 hd1;refine Aa (Dx ho1 hd1 (Ab (hR _ ((Bf _ _ _).trans (Bf _ _ _)) ⟨o2,_,_,_,ho2,hex2,hd2,λe he=>h1 e (hperm.mem_iff.mp he),?_,by ext,by rw[hlen]at hfit3 ⊢;exact hfit3,by rw[hled3];exact hled,λ_=>hpl3⟩)) (by ext));exact(hperm.map _).trans hp
 .exact Ab (hR _ (Bf _ _ _) ⟨o1,_,_,_,ho1,hex1,hd1,h1,hp,hsz,hfit,hled,λ_=>hpl⟩)
theorem jM (hS:CL w s.heap a ks led)(hn:ks.length+1<A9)
  (hQ:∀b h',By a s.heap h'->CL w h' a (if x∈ks then ks else ks++[x]) led->Q b {s with heap:=h' }):Aq (Ax prog w) A (IC a (.str x t) (Fi w x)) Q E s:=by
 obtain⟨o,es,ep,tb,ho,hex,hd,hes,hp,hsz,hfit,hled,hpl⟩:_:=hS;unfold IC;refine Bh ?_;generalize hN:(99999:Nat)=N;rw[show(100000:Nat)=99999+1 from rfl,hN];rw[setAddHashedIn];refine Aa (A7 ho hd hfit ?_);dsimp only;rw[if_pos (byScan_of (knd:=Bv prog w) (x:=.str x t) rfl hsz hes.elems)];refine Aa ?_;unfold setAddByScan;refine Aa (FA (Aa (V2 (knd:=Bv prog w) (k:=x) (by simp[Bv,D0]) ho hd hfit hes.elems ?_)));by_cases hx:x∈ks
 .obtain⟨j,hj⟩:=jC (prog:=prog) hes (hp.mem_iff.mpr hx);rw[hj];refine Ab (Ab ?_);have z:=hQ false s.heap (Cj _ _) (by rw[if_pos hx];exact⟨o,es,ep,tb,ho,hex,hd,hes,hp,hsz,hfit,hled,hpl⟩);exact z
 .rw[iX (prog:=prog) hes (λh=>hx (hp.mem_iff.mp h))];dsimp only;have lp:=layNew_perm tb es (Fi w x) (.str x t);have lf:=layNew_fits tb es (Fi w x) (.str x t);have ll:=vk tb es (Fi w x) (.str x t);generalize layNew tb es (Fi w x) (.str x t)=L at lp lf ll ⊢;obtain⟨es1,t1,wd,gv⟩:=L;dsimp only at lp lf ll ⊢
  have hok1:IT w es1.toList:=λe he=>by
   rcases Array.mem_push.mp (Ic.mp (lp.mem_iff.mp he))with h|h
   .exact hes e (Ic.mpr h)
   .exact⟨x,t,h⟩
  have hlen:es1.size=es.size+1:=by
   have:=lp.length_eq;simpa using this
  have hkl:(GA es.toList).length=es.size:=by unfold GA;rw[Ae,A8]
  have hkl2:=hp.length_eq
  have hp1:(GA es1.toList).Perm (ks++[x]):=by
   have h2:(GA es1.toList).Perm (GA (es.push (Fi w x,C2 x t)).toList):=lp.map _;refine h2.trans ?_;unfold GA;rw[Pz,AI];exact hp.append (D4 _)
  have gw:∀gv s₁ Q',Q' () s₁->Aq (Ax prog w) A (match gv with | true=>PR "set.scan.the-table-gave-way" |false=>pure ()) Q' E s₁:=λgv s₁ Q' h=>by
   cases gv with
   |true=>exact FA h
   |false=>exact Ab h
  refine Aa (gw gv s _ ?_);split
  .rw[hashByValue_scannable 8 (x:=.str x t) rfl];refine Aa (Ab ?_);refine SS (led:=led) gw ho hex hd hok1 hp1 (by ext) ?_ ?_ ?_ λh' sb hS=>?_
   .split
    .exact lf
    .exact SetTable.fits_plain_off lf
   .split
    .rw[ll];exact hled
    .show t1.led=led;rw[ll];exact hled
   .rfl
   .exact Ab (hQ true h' sb (by rw[if_neg hx];exact hS))
  .refine Aa (Ab ?_);refine SS (led:=led) gw ho hex hd hok1 hp1 (by ext) ?_ ?_ ?_ λh' sb hS=>?_
   .rw[if_pos rfl];exact lf
   .rw[if_pos rfl,ll];exact hled
   .rw[if_pos rfl];exact Bool.eq_false_iff.mpr (by assumption)
   .exact Ab (hQ true h' sb (by rw[if_neg hx];exact hS))
theorem zf (a)
  (h:Q₁ (.ref s.heap.objs.size) {s with heap:=s.heap.push {cls:=.type "set",dict:=none,data:=.set #[] 0 (.fresh 0 0 (!(w.params.followText "set-order")))} }) :
  DP (Ax prog w) A (.call (.builtin "set.__new__") ⟨[.type "set",a],[]⟩) (wants Q₁ E) s:=by
 refine YN ?_;show Aq _ A.in1 (do checkBuiltinCall "set.__new__" ⟨[.type "set",a],[]⟩;NC (.builtin "set.__new__" ⟨[.type "set",a],[]⟩)) _ _ s;refine Aa (Ce (PySem.F.newCall_set_1 a) (Ab ⟨FP F.plain_set_new _,Dw F.entry_set_new ?_⟩));rw[CJ F.plain_set_new _];unfold Ea.«set.__new__» Ry;have hsub:=Lf;obtain⟨hp,g,d,tk,os⟩:=s;dsimp only;wp_walk;refine Dg (Ab ?_);dsimp only;simp only[newObj];refine Aa (wpAny_alloc (Ab ?_));exact Ab h
noncomputable def fm (xs:List Str):List Str:=xs.foldl (λks x=>if x∈ks then ks else ks++[x]) []
theorem pQ (xs)(x:Str):fm (xs++[x])=if x∈fm xs then fm xs else fm xs++[x]:=by
 unfold fm;rw[JW];rfl
theorem xq (xs:List Str):∀ks,(xs.foldl (λks x=>if x∈ks then ks else ks++[x]) ks).length<=ks.length+xs.length:=by
 induction xs with
 |nil=>intro ks;exact AJ _
 |cons x xs ih=>
  intro ks;rw[CC,AO];refine AY (ih _) ?_;split
  .ext
  .rw[Ao];simp only[E8];ext
theorem Ux (xs:List Str):(fm xs).length<=xs.length:=by
 have:=xq xs [];simpa[fm]using this
theorem CL.moved (hS:CL w s.heap S ks led)(hm:Moved wr G s s')(hn:S∉wr):CL w s'.heap S ks led:=by
 obtain⟨o,es,ep,t,ho,CK⟩:=hS;exact⟨o,es,ep,t,hm.heap S _ hn ho,CK⟩
section
variable          {St:Nat->Ap->Prop}
theorem vd (W:WalksS prog w A.in1 I fp wr G n P St)(S:Av)(hSf:S∉fp)(xs:List Str)(hx:xs.length=n)
  (hval:∀i v (h:i<xs.length),P i v->∃t,v=.str xs[i] t) (hb:n+1<A9) (led:Bool) :
  ∀k i s,n-i=k->i<=n->St i s ->
   CL w s.heap S (fm (xs.take i)) led ->
   (∀s',Moved (S::wr) G s s'->CL w s'.heap S (fm xs) led->R (.ok (.ret .none)) s') ->
   DP (Ax prog w) A (.builtin "set.update.loop" ⟨[.ref S,.ref I],[]⟩) R s:=by
 have hSw:S∉wr:=λh=>hSf (W.sub _ h);have hsub:∀b∈wr,b∈S::wr:=λb hb=>Aw _ hb;intro k;induction k with
 |zero=>
  intro i s hk hi hst hS hR;have hin:i=n:=by ext
  subst hin;refine Dw F.entry_set_update_loop ?_;rw[CJ F.plain_set_update_loop _];show Aq _ A.in1 (ID (.ref I) >>= _) _ _ s;refine Aa (W.done s _ _ hst λs' hm=>?_);show Aq _ A.in1 (ret FZ) _ _ s';rw[CB (by ext)]at hS;exact Ab (hR s' (hm.mono hsub) (hS.moved hm hSw))
 |succ k ih=>
  intro i s hk hi hst hS hR;have hlt:i<n:=by ext
  refine Dw F.entry_set_update_loop ?_;rw[CJ F.plain_set_update_loop _];show Aq _ A.in1 (ID (.ref I) >>= _) _ _ s;refine Aa (W.item i s _ _ hlt hst λv s' hP hst' hm=>?_);obtain⟨t,rfl⟩:=hval i v (by ext) hP;have hS':=hS.moved hm hSw;show Aq _ A.in1 (Gu [C2 xs[i] t] (setAdd S (.str xs[i] t)) >>= _) _ _ s';refine Aa (Bh ?_);unfold setAdd;refine Bh ?_;refine Aa ((Bv prog w).pyHash (strKind_is _ _ _ _) ?_)
  have hroom:(fm (xs.take i)).length+1<A9:=by
   have:=Ux (xs.take i);rw[AW]at this;ext
  refine jM hS' hroom λb h' hsb hS2=>?_;have e:xs.take (i+1)=xs.take i++[xs[i]]:=by rw[JV (by ext)]
  rw[<- pQ,<- e]at hS2;refine Ab ⟨FP F.plain_set_update_loop _,ih (i+1) _ (by ext) hlt (W.frame _ s' _ _ hst' (Lj _) λb hb o e=>?_) hS2 λs'' hm'' hS''=>?_⟩
  .rw[hsb.2 b (λh:b=S=>hSf (by rw[<- h];exact hb))];exact e
  .refine hR s'' (Moved.trans W.gtrans ((hm.mono hsub).then_heap (Lj _) λb o hb e=>?_) hm'') hS'';rw[hsb.2 b (λh:b=S=>hb (by rw[h];exact AA))];exact e
end
theorem jL (hg:h.get? a=some {cls:=.type "set",dict:=none,data:=.set #[] 0 (.fresh 0 0 led)})(e:led=led'):CL w h a (fm ([]:List Str)) led':=by
 subst e;exact⟨_,#[],0,_,hg,⟨rfl,rfl,rfl⟩,rfl,λe he=>absurd he (by simp),D4 _,by decide,rfl,rfl,λh=>absurd rfl h⟩
theorem O8 (ft:TypeCalled T newId initId)(hct:checkTypeCall T ⟨args,[]⟩=pure ())
  (hnew:DP (Ax prog w) A.in1 (.call (.builtin newId) ⟨.type T::args,[]⟩) (wants Q₁ E) s)
  (hini:∀obj s₁,Q₁ obj s₁->s₁.TypeIs obj T/\DP (Ax prog w) A.in1 (.call (.builtin initId) ⟨obj::args,[]⟩) (wants (λr s₂=>r=.none/\Q obj s₂) E) s₁) :
  Aq (Ax prog w) A (IE (.type T) args) Q E s:=by
 have f1:=ft.notType;have f2:=ft.canCreate;have f3:=ft.made;have f4:=ft.sub;have f5:=ft.init.lookup;obtain⟨c,tl,f6⟩:=ft.mro;refine Kz (YN ?_);show Aq _ _ (callAny (.type T) _) _ _ _;refine Ab ⟨Code.quiet_builtin _ (by nofun),Dw F.entry_type_call ?_⟩;rw[Around.under_plain (weight_type_call_type T args []) rfl]
 repeat (any_goals (first | assumption | wp_step))
 refine Gv hnew λr s₁ hr=>?_
 match r,hr with
 |.error e,hr=>exact hr
 |.ok (.ret obj),hr=>
  obtain⟨hT,hi⟩:=hini _ _ hr;have f7:=ft.init.bind obj
  repeat (any_goals (first | assumption | wp_step))
  refine Gv hi λr₂ s₂ hr₂=>?_
  match r₂,hr₂ with
  |.error e,hr₂=>exact hr₂
  |.ok (.ret _),⟨rfl,hq⟩=>repeat (any_goals (first | assumption | wp_step))
set_option maxHeartbeats 3200000 in
theorem vc {Q:Ap->Prop}(hh:A.handled=none)
  (hS:s.heap.get? S=some {cls:=.type "set",dict:=none,data:=.set #[] 0 (.fresh 0 0 led)}) (hl:s.heap.IsList l items) (hx:xs.length=items.size)
  (hi:∀i v (h:i<xs.length),items[i]? = some v->∃t,v=.str xs[i] t) (hb:items.size+1<A9)
  (h:∀h' tk,CL w h' S (fm xs) led->(∀b o,b≠S->s.heap.get? b=some o->h'.get? b=some o)->Q {s with heap:=h',toks:=tk}) :
  DP (Ax prog w) A (.call (.builtin "set.__init__") ⟨[.ref S,.ref l],[]⟩) (wants (λr s₂=>r=.none/\Q s₂) E) s:=by
 have hT:s.TypeIs (.ref S) "set":=⟨_,hS,rfl⟩;have hSlt:=An hS
 have ne:l≠S:=λe=>by
  subst e;obtain⟨o,ho,hc,-⟩:=hl;rw[hS]at ho;cases ho;exact absurd (show DJ "set" = DJ "list" from hc) (by decide)
 refine JD F.called_set.init.plain F.entry_set_init (check_set_init_1 hT ?_);have hl0:=hl;obtain⟨⟨lc,ld,ldata,lsl⟩,hol,hcl,nl,hdl⟩:_:=hl;dsimp only at hcl hdl;subst hcl;subst hdl;have f1:=PySem.F.sub_list_set;have f2:=PySem.F.sub_list_frozenset;have f3:(DJ "list" == DJ "dict")=false:=by decide
 unfold Ea.«set.__init__» noKeywords Hy;generalize hPI:Tr=PI;wp_walk;subst hPI;refine Fe hl0 (Aa (bA ?_));have hllt:=An hol
 refine vd ((We (by simp[hh]) _ l (A5 hllt) items).toS) S (by simp[A5 hSlt,Bg ne]) xs hx (λi v hlt hv=>hi i v hlt hv) hb led (items.size-0) 0 _ (by ext) (C9 _)
  ⟨⟨_,Ay _ rfl,rfl,rfl⟩,hl0.push _⟩ (jL (Af _ hS) rfl) ?_
 intro s' hm hS';obtain⟨h',g',d',tk',os'⟩:=s';have eg:=hm.gens;have ed:=hm.drawn;have eo:=hm.os;subst eg;subst ed;subst eo;refine Ab (Ab ⟨rfl,h h' tk' hS' λb o hbS e=>hm.heap b o ?_ (Af _ e)⟩);have:=An e;simp only[Bx,AX,or_false,not_or];exact⟨hbS,A5 this⟩
theorem iW {prog:Bs}{w:BG}{A:Ck}{E:Ah->Ap->Prop}{s:Ap}{l:Av}{items:Array Ah}{xs:List Str}{Q:Ah->Ap->Prop}
  (hh:A.handled=none) (hl:s.heap.IsList l items) (hx:xs.length=items.size) (hi:∀i v (h:i<xs.length),items[i]? = some v->∃t,v=.str xs[i] t) (hb:items.size+1<A9)
  (h:∀h' tk,CL w h' s.heap.objs.size (fm xs) (!(w.params.followText "set-order"))->(∀b o,s.heap.get? b=some o->h'.get? b=some o)->Q (.ref s.heap.objs.size) {s with heap:=h',toks:=tk}) :
  Aq (Ax prog w) A (IE (.type "set") [.ref l]) Q E s:=by
 refine O8 F.called_set (PySem.F.typeCall_set_1 _) (zf (.ref l) (Q₁:=λobj s₁=>obj=.ref s.heap.objs.size/\s₁={s with heap:=s.heap.push {cls:=.type "set",dict:=none,data:=.set #[] 0 (.fresh 0 0 (!(w.params.followText "set-order")))} }) ⟨rfl,rfl⟩) ?_;rintro _ _ ⟨rfl,rfl⟩;refine⟨⟨_,Ay _ rfl,rfl⟩,vc (by simp[hh]) (Ay _ rfl) (hl.push _) hx hi hb λh' tk hS' hk=>h h' tk hS' λb o e=>hk b o (A5 (An e)) (Af _ e)⟩
theorem UM:bP "set_iterator" "__next__" "set_iterator.__next__":=
 .of (owner:="set_iterator") (n:="__next__") (by rw[IV,Fw];kernel_rfl) (by nofun) (by nofun) (by nofun)
  (by first | exact .inl (by nofun) | exact .inr (by nofun)) (by rw[bK];kernel_rfl)
theorem wA:Ll U5 "set_iterator.__next__" = some Ea.«set_iterator.__next__»:=V9 (by kernel_rfl)
theorem vY (a):bN "set_iterator.__next__" ⟨[a],[]⟩:=by
 unfold bN;rw[signature?_of (id:="set_iterator.__next__") (n:=['_','_','t','x','e','n','_','_']) (o:=['r','o','t','a','r','e','t','i','_','t','e','s']) (by kernel_rfl) (show OU.lookup (Rp ['r','o','t','a','r','e','t','i','_','t','e','s'].reverse)=some KL by kernel_rfl)]
 kernel_rfl
theorem zk:Ll U5 "set.__iter__" = some Ea.«frozenset.__iter__»:=JC (id':="frozenset.__iter__") (by kernel_rfl) rfl (by nofun) (by kernel_rfl)
theorem L8 :∀(l:List α) (i:Nat) (h:i<l.length),(l[i]::l.eraseIdx i).Perm l
 |x::xs,0,_=>D4 _
 |x::xs,i+1,h=>by
  have h':i<xs.length:=by simpa using h
  exact(O0 x xs[i] _).trans ((L8 xs i h').cons x)
theorem ZfO (hn:n≠0)(h:∀i,i<n->∀d,Q i {s with drawn:=d}):Aq M A (choose src n) Q E s:=
 λΓ p _=>⟨hn,h _ (PV _ (Nat.pos_of_ne_zero hn)) _⟩
theorem Zdh :∀n xs (s:Ap) (Q:List α->Ap->Prop),xs.length<=n->(∀ys d,ys.Perm xs->Q ys {s with drawn:=d})->Aq M A (drawOrder n xs) Q E s:=by
 intro n;induction n with
 |zero=>
  intro xs s Q hl h;cases xs with
  |nil=>exact Ab (h [] s.drawn (D4 _))
  |cons x xs=>exact absurd hl (Nat.not_succ_le_zero _)
 |succ n ih=>
  intro xs s Q hl h;cases xs with
  |nil=>exact Ab (h [] s.drawn (D4 _))
  |cons x xs=>
   refine Aa (ZfO (by simp) λi hi d=>?_);rw[Ag hi];dsimp only;refine Aa (ih _ _ _ ?_ λys d' hp=>Ab (h _ d' ?_))
   .rw[LD hi];simp only[AO]at hl ⊢;ext
   .exact(hp.cons _).trans (L8 _ _ hi)
theorem pR (f):∀(fuel k:Nat) (left:List α) (out:Array α),left.length<=fuel->(Li f fuel k left out).toList.Perm (out.toList++left)
 |0,k,[],out,_=>by unfold Li;simp
 |fuel+1,k,left,out,h=>by
  unfold Li;cases left with
  |nil=>simp
  |cons x xs=>
   have hi:f k%(x::xs).length<(x::xs).length:=PV _ (by simp);rw[Ag hi];dsimp only;refine(pR f fuel _ _ _ ?_).trans ?_
   .rw[LD hi];simp only[AO]at h ⊢;ext
   .rw[Pz,Bm];exact(D4 _).append (L8 _ _ hi)
theorem wC (f)(xs:Array α):(HW f xs).toList.Perm xs.toList:=by
 have:=pR f xs.size 0 xs.toList #[] (by simp);simpa[HW]using this
def Rk (w:BG)(h:CU)(I S p i:Nat)(ord:List Ah):Prop:=
  ∃(o so:Obj) (first:Ah) (es:Array (Int×Ah)) (ep:Nat) (t:Dl),h.get? I=some o/\o.cls=DJ "set_iterator"/\o.data=Ox #[first,.int i 0,.ref S,.int es.size 0,.int ep 0]/\h.get? S=some so/\so.data=Ip es ep t/\t.fits es.size=true/\ord.length=es.size /\
    ((∃ (po:Obj) (js:List Nat) (c:Nat),first=AF p/\h.get? p=some po/\po.data=Data.seq (js.map λj:Nat=>DB j 0).toArray c/\ord.map some=js.map λj=>es[j]?.map (·.2))
   \/(∃sl tk,first=DB sl tk/\w.params.followText "set-order" = true/\ord=(HW (w.params.setOrder S ep) es).toList.map (·.2))
   \/(∃ sl:Nat,first=DB sl 0/\w.params.followText "set-order" = false/\t.led=true/\es.size<=1/\ord=es.toList.map (·.2)/\(i=0->sl=0)/\(i≠0->∀ j,t.place[0]? = some j->sl=j+1)))
theorem Rk.typeIs {s:Ap}(h:Rk w s.heap I S p i ord):s.TypeIs (.ref I) "set_iterator":=by
 obtain⟨o,so,first,es,ep,t,ho,hc,-⟩:_:=h;exact⟨o,ho,hc⟩
theorem Rk.kept (x:Rk w h I S p i ord)(e:∀b∈[I,S,p],∀o,h.get? b=some o->h'.get? b=some o):Rk w h' I S p i ord:=by
 obtain⟨o,so,first,es,ep,t,ho,hc,hd,hso,hsd,hf,hl,m⟩:_:=x;refine⟨o,so,first,es,ep,t,e I (by simp) _ ho,hc,hd,e S (by simp) _ hso,hsd,hf,hl,?_⟩;rcases m with⟨po,js,c,m1,m2,m3⟩|m|m
 .exact .inl ⟨po,js,c,m1,e p (by simp) _ m2,m3⟩
 .exact .inr (.inl m)
 .exact .inr (.inr m)
theorem jZ (ho:s.heap.get? a=some o)(hd:o.data=.set es ep t)(hf:t.fits es.size=true)(h:Q es.size s) :
  Aq (Ax prog w) A (IF a) Q E s:=by
 unfold IF Tq;exact Aa (Aa (A7 ho hd hf (Ab (Ab h))))
theorem vO (ho:s.heap.get? a=some o)(hd:o.data=.set es ep t)(hf:t.fits es.size=true)(h:Q es s) :
  Aq (Ax prog w) A (Tq a) Q E s:=by
 unfold Tq;exact Aa (A7 ho hd hf (Ab h))
theorem VU (ho:s.heap.get? a=some o)(hd:o.data=.set es ep t)(hf:t.fits es.size=true)(h:Q ep s) :
  Aq (Ax prog w) A (bH a) Q E s:=by
 unfold bH;exact Aa (A7 ho hd hf (Ab h))
theorem Zdg (ho:s.heap.get? a=some o)(hd:o.data=.set es ep t)(hf:t.fits es.size=true)(h:Q (!(w.params.followText "set-order") && (!t.plain && decide (es.size > 1))) s) :
  Aq (Ax prog w) A (setDrawn a) Q E s:=by
 unfold setDrawn IB;exact Aa (A7 ho hd hf (Aa (Aa (Dg (Ab (Ab h))))))
theorem aJ :∀{es:List (Int×Ah)},IT w es->Lm (es.map (·.2)) (GA es)
 |[],_=>.nil
 |e::es,h=>by
  obtain⟨x,t,rfl⟩:=h e (by simp);exact .cons x t (aJ λe he=>h e (by simp[he]))
theorem oA {es:List (Int×Ah)}:∀(js:List Nat),(∀j∈js,j<es.length)->∃fs:List (Int×Ah),js.map (λj=>es[j]?)=fs.map some/\fs=js.filterMap λj=>es[j]?
 |[],_=>⟨[],rfl,rfl⟩
 |j::js,h=>by
  obtain⟨fs,h1,h2⟩:=oA js λk hk=>h k (by simp[hk]);have hj:=h j (by simp);refine⟨es[j]::fs,?_,?_⟩
  .rw[AM,AM,h1,Ag hj]
  .rw[CT,Ag hj,h2]
theorem sS (es:List (Int×Ah)):(Bl es.length).filterMap (λj=>es[j]?)=es:=by
 induction es with
 |nil=>rfl
 |cons e es ih=>rw[AO,Em,CT];simp only[G1,Ju];rw[show(λj=>(e::es)[j]?) ∘ Nat.succ=λj=>es[j]? from by funext j;simp,ih]
set_option maxHeartbeats 1000000 in
theorem ze (hS:CL w s.heap S ks (!(w.params.followText "set-order")))
  (hQ:∀(h':CU) d (I p:Nat) (ord:List Ah),Rk w h' I S p 0 ord->I∉[S,p]->(∀b o,s.heap.get? b=some o->h'.get? b=some o)->(∀b∈[I,p],s.heap.get? b=none\/b=S)->(∃ys,ys.Perm ks/\Lm ord ys)->Q (.ref I) {s with heap:=h',drawn:=d}) :
  Aq (Ax prog w) A (Tr (.ref S)) Q E s:=by
 obtain⟨o,es,ep,t,ho,hex,hd,hes,hp,hsz,hfit,hled,hpl⟩:_:=hS;have hT:s.TypeIs (.ref S) "set":=⟨o,ho,hex.1⟩;refine UZ hT F.slot_set_iter (B9 F.slot_set_iter hT zk ?_ (F.args_set_iter_1 _));unfold Ea.«frozenset.__iter__»;refine Aa (Ce rfl ?_);refine Aa (jZ ho hd hfit ?_);refine Aa (Zdg ho hd hfit ?_);have hle:es.size<4096:=hsz
 have none_at:∀b,s.heap.objs.size<=b->s.heap.get? b=none:=λb hb=>by
  cases hq:s.heap.get? b with
  |none=>rfl
  |some o'=>exact absurd (An hq) (bQ.mpr hb)
 have hSlt:S<s.heap.objs.size:=An ho;by_cases c:(!(w.params.followText "set-order") && (!t.plain && decide (es.size > 1)))=true
 .rw[if_pos c];refine Aa (Zdh es.size (Bl es.size) _ _ (by simp) λjs d hjs=>?_);have hjl:js.length=es.size:=by simpa using hjs.length_eq
  refine Aa (BM ?_ (by simp only[sizeOk,A4,Ae];have:(4096:Nat)<=Am:=(by decide);ext));have hS1:(s.heap.push {cls:=DJ "tuple",dict:=none,data:=Data.seq (js.map λi:Nat=>LO i).toArray}).get? S=some o:=Af _ ho;refine Aa (VU hS1 hd hfit ?_);refine Aa (BM (Ab ⟨_,rfl, "set_iterator",_,⟨_,Ay _ rfl,rfl⟩,UM.lookup,?_⟩));obtain⟨fs,f1,f2⟩:=oA (es:=es.toList) js λj hj=>by simpa using hjs.mem_iff.mp hj
  have fp:fs.Perm es.toList:=by
   rw[f2];have:=hjs.filterMap (λj=>es.toList[j]?);rw[show es.size=es.toList.length by simp,sS]at this;exact this
  have hfl:fs.length=es.size:=by simpa using fp.length_eq
  have fok:IT w fs:=λe he=>hes e (fp.mem_iff.mp he);refine hQ _ d _ s.heap.objs.size (fs.map (·.2)) ⟨_,o,_,es,ep,t,Ay _ rfl,rfl,rfl,Af _ hS1,hd,hfit,by simpa using hfl,.inl ⟨_,js,_,rfl,Af _ (Ay _ rfl),rfl,?_⟩⟩ ?_ ?_ ?_ ⟨GA fs,?_,aJ fok⟩
  .have:=congrArg (EV (G0 λe:Int×Ah=>e.2)) f1;rw[CP,CP]at this;rw[CP];refine Eq.trans ?_ (this.symm.trans ?_)
   .rfl
   .apply DS;intro j hj;simp
  .rw[F8];simp only[Bx,AX,or_false,not_or];exact⟨ET (EU hSlt),Nat.succ_ne_self _⟩
  .intro b o' e;exact Af _ (Af _ e)
  .intro b hb;left
   rw[F8]at hb;simp only[Bx,AX,or_false]at hb;exact none_at b (by ext)
  .exact(fp.map _).trans hp
 .rw[if_neg c];refine Aa (Ab ?_);refine Aa (VU ho hd hfit ?_);refine Aa (BM (Ab ⟨_,rfl, "set_iterator",_,⟨_,Ay _ rfl,rfl⟩,UM.lookup,?_⟩))
  have side:s.heap.objs.size∉[S,S]/\(∀b∈[s.heap.objs.size,S],s.heap.get? b=none\/b=S):=by
   refine⟨by simp only[Bx,AX,or_false,not_or];exact⟨ET hSlt,ET hSlt⟩,λb hb=>?_⟩;simp only[Bx,AX,or_false]at hb;rcases hb with rfl|rfl
   .exact .inl (none_at _ (AJ _))
   .exact .inr rfl
  cases ft:w.params.followText "set-order" with
  |true=>
   have pp:=wC (w.params.setOrder S ep) es;have pl:(HW (w.params.setOrder S ep) es).toList.length=es.size:=by simpa using pp.length_eq
   exact hQ _ s.drawn _ S ((HW (w.params.setOrder S ep) es).toList.map (·.2)) ⟨_,o,_,es,ep,t,Ay _ rfl,rfl,rfl,Af _ ho,hd,hfit,by rw[Ae];exact pl,.inr (.inl ⟨_,_,rfl,ft,rfl⟩)⟩ side.1 (λb o' e=>Af _ e) side.2 ⟨_,(pp.map _).trans hp,aJ λe he=>hes e (pp.mem_iff.mp he)⟩
  |false=>
   have h1:es.size<=1:=by
    rcases Fg 1 es.size with h|h
    .have hq:=hpl (by ext);rw[ft,hq]at c;simp at c;ext
    .exact h
   rw[ft]at hled;exact hQ _ s.drawn _ S (es.toList.map (·.2)) ⟨_,o,_,es,ep,t,Ay _ rfl,rfl,rfl,Af _ ho,hd,hfit,by simp,.inr (.inr ⟨0,rfl,ft,hled,h1,rfl,λ_=>rfl,λh=>absurd rfl h⟩)⟩ side.1 (λb o' e=>Af _ e) side.2 ⟨_,hp,aJ hes⟩
theorem wG {prog:Bs}{w:BG}{A:Ck}{E:Ah->Ap->Prop}{s:Ap}{a:Av}{o:Obj}{es:Array (Int×Ah)}{ep sl i:Nat}{t:Dl}{Q:Option (Ah×Nat)->Ap->Prop}(ho:s.heap.get? a=some o)(hd:o.data=.set es ep t)(hf:t.fits es.size=true)
  (ft:w.params.followText "set-order" = true) (h:Q (((HW (w.params.setOrder a ep) es)[i]?).map λe=>(e.2,sl)) s):Aq (Ax prog w) A (Va a sl i ep) Q E s:=by
 unfold Va IB;refine Aa (A7 ho hd hf ?_);refine Aa (Aa (Dg (Ab ?_)));have e1:(Ax prog w).w.params.followText "set-order" = true:=ft;dsimp only;rw[if_pos e1];rw[if_neg (by simp)];unfold setWalk IB;refine Aa (Aa (A7 ho hd hf ?_));refine Aa (Aa (Dg (Ab ?_)));dsimp only;rw[if_pos e1];exact Aa (Dg (Ab (Ab h)))
theorem wF {prog:Bs}{w:BG}{A:Ck}{E:Ah->Ap->Prop}{s:Ap}{a:Av}{o:Obj}{es:Array (Int×Ah)}{ep sl i:Nat}{t:Dl}{Q:Option (Ah×Nat)->Ap->Prop}(ho:s.heap.get? a=some o)(hd:o.data=.set es ep t)(hf:t.fits es.size=true)
  (ft:w.params.followText "set-order" = false) (hl:t.led=true) (h1:es.size<=1) (h:Q (match es[CZ t.place sl]?,t.place[CZ t.place sl]? with | some (_,x),some j=>some (x,j+1) | _,_=>none) s):Aq (Ax prog w) A (Va a sl i ep) Q E s:=by
 unfold Va IB;refine Aa (A7 ho hd hf ?_);refine Aa (Aa (Dg (Ab ?_)));have e1:(Ax prog w).w.params.followText "set-order" = false:=ft;dsimp only;rw[if_neg (by rw[e1];simp)];split
 .next hc=>
  have h':(!t.plain && decide (es.size > 1))=true:=hc;simp at h';ext
 .refine Aa ?_;show Aq _ A (if (!t.led && !es.isEmpty)=true then unsupported "set:maker-not-led" else pure ()) _ E s;rw[if_neg (by rw[hl];simp)];exact Ab (Ab h)
theorem w5 (xs)(j)(h:xs.size=0):CZ xs j=0:=by
 have:=Kg h;subst this;rfl
theorem w9 (k):CZ #[k] 0=0:=by
 simp[CZ,Ln]
theorem ra (k):CZ #[k] (k+1)=1:=by
 simp[CZ,Ln]
theorem VD {s:CU}{I:Av}{o:Obj}{vs:Array Ah}(ho:s.get? I=some o)(hc:o.cls=DJ "set_iterator")(hd:o.data=Ox vs)(k)(x) :
  ∃o',(s.update I (Obj.mapFields (·.setIfInBounds k x))).get? I=some o'/\o'.cls=DJ "set_iterator"/\o'.data=Ox (vs.setIfInBounds k x):=
 ⟨_,D6 _ ho (Obj.isFreed_of_fields (PY hd _)),(Obj.cls_mapFields ..).trans hc,PY hd _⟩
set_option maxHeartbeats 2000000 in
theorem sj {prog:Bs}{w:BG}{A:Ck}{E:Ah->Ap->Prop}{s:Ap}{I S p i:Nat}{ord:List Ah}{Q:Option Ah->Ap->Prop}(hit:Rk w s.heap I S p i ord)(hI:I∉[S,p])(hi:i<ord.length)
  (hQ:∀h',Rk w h' I S p (i+1) ord->By I s.heap h'->Q (some ord[i]) {s with heap:=h' }):Aq (Ax prog w) A (ID (.ref I)) Q E s:=by
 obtain⟨o,so,first,es,ep,t,ho,hc,hd,hso,hsd,hf,hl,m⟩:_:=id hit;have hIS:S≠I:=λe=>hI (by simp[e]);have hIp:p≠I:=λe=>hI (by simp[e]);unfold ID;refine Aa (wpAny_attempt (HU (name:=Ak "__next__") hit.typeIs UM (B9 UM hit.typeIs wA ?_ (vY _))));unfold Ea.«set_iterator.__next__»;refine Aa (Ce (a:=(AF I,[])) rfl ?_);refine Aa (bB ho hd ?_);dsimp only;refine Aa (vO hso hsd hf ?_);rw[if_neg (by simp)];rcases m with⟨po,js,c,rfl,hpo,hpd,hmap⟩|⟨sl,tk,rfl,ft,rfl⟩|⟨sl,rfl,ft,hled,h1,rfl,z0,z1⟩
 .have hjl:js.length=ord.length:=by
   have:=congrArg Eg hmap;simpa using this.symm
  have hat:∃e,es[js[i]'(by ext)]? = some e/\e.2=ord[i]:=by
   have h2:=congrArg (λl:List (Option Ah)=>l[i]?) hmap;try dsimp only at h2
   rw[AL,AL,Ag hi,Ag (show i<js.length by ext)]at h2;simp only[Jz,HZ]at h2;cases q:es[js[i]'(by ext)]? with
   |none=>rw[q]at h2;cases h2
   |some e=>rw[q]at h2;exact⟨e,rfl,(Ba h2).symm⟩
  obtain⟨e,he,hev⟩:=hat
  dsimp only;refine Aa (Nu hpo hpd ?_);dsimp only
  have g1:((js.map λj:Nat=>DB j 0).toArray)[(i:Int).toNat]? = some (.int (js[i]'(by ext):Nat) 0):=by
   rw[BN,DU,AL,Ag (show i<js.length by ext)];rfl
  rw[g1];dsimp only;refine Aa ?_;unfold setNextDrawn;refine Aa (A7 hso hsd hf ?_);dsimp only;rw[if_neg (by simp),BN,he];refine Ab ?_;refine Aa (Dh ho hd (by simp) (Ab ⟨_,rfl,Ab ?_⟩));rw[hev];obtain⟨o',ho',hc',hd'⟩:=VD ho hc hd 1 (LO ((i:Int)+1));exact hQ _ ⟨o',so,_,es,ep,t,ho',hc',hd',(Bb _ _ (Bg hIS)).trans hso,hsd,hf,hl,.inl ⟨po,js,c,rfl,(Bb _ _ (Bg hIp)).trans hpo,hpd,hmap⟩⟩ (Bf ..)
 .dsimp only;refine Aa (wG hso hsd hf ft ?_);have hi':i<(HW (w.params.setOrder S ep) es).size:=by simpa using hi
  rw[BN i,BN ep,AT hi'];dsimp only[G0];refine Aa (Dh ho hd (by simp) ?_);obtain⟨o',ho',hc',hd'⟩:=VD ho hc hd 0 (LO (sl.toNat:Int));refine Aa (Dh (s:={s with heap:=_}) ho' hd' (by simp) (Ab ⟨_,rfl,Ab ?_⟩));obtain⟨o2,ho2,hc2,hd2⟩:=VD ho' hc' hd' 1 (LO ((i:Int)+1));have z:=hQ _ ⟨o2,so,_,es,ep,t,ho2,hc2,hd2,(Bb _ _ (Bg hIS)).trans ((Bb _ _ (Bg hIS)).trans hso),hsd,hf,hl,.inr (.inl ⟨_,_,rfl,ft,rfl⟩)⟩ ((Bf ..).trans (Bf ..));rw[QV,NS]at z;exact z
 .dsimp only;refine Aa (wF hso hsd hf ft hled h1 ?_);have hi':i<es.size:=by simpa using hi
  have i0:i=0:=by ext
  subst i0;have e0:=z0 rfl;subst e0
  have hps:t.place.size=es.size:=by
   unfold Eo at hf;simp at hf;exact hf.1
  have hs1:es.size=1:=by ext
  obtain⟨k,hk⟩:∃k,t.place=#[k]:=by
   have:t.place.toList.length=1:=by simp[hps,hs1]
   obtain⟨k,hk⟩:=Nf.mp this;exact⟨k,by rw[<- Ib (xs:=t.place),hk]⟩
  rw[hk,show((0:Nat):Int).toNat=0 from rfl,w9,AT hi'];try dsimp only
  try rw[show(#[k]:Array Nat)[0]? = some k from rfl]
  try dsimp only
  refine Aa (Dh ho hd (by simp) ?_);obtain⟨o',ho',hc',hd'⟩:=VD ho hc hd 0 (LO ((k+1:Nat):Int));refine Aa (Dh (s:={s with heap:=_}) ho' hd' (by simp) (Ab ⟨_,rfl,Ab ?_⟩));obtain⟨o2,ho2,hc2,hd2⟩:=VD ho' hc' hd' 1 (LO (((0:Nat):Int)+1));have z:=hQ _ ⟨o2,so,_,es,ep,t,ho2,hc2,hd2,(Bb _ _ (Bg hIS)).trans ((Bb _ _ (Bg hIS)).trans hso),hsd,hf,hl,.inr (.inr ⟨k+1,rfl,ft,hled,h1,rfl,λh=>absurd h (by ext),λ_ j hj=>by rw[hk]at hj;cases hj;rfl⟩)⟩ ((Bf ..).trans (Bf ..));rw[QV,NS]at z;exact z
theorem jB {prog:Bs}{w:BG}{A:Ck}{E:Ah->Ap->Prop}{s:Ap}{Q:Option Ah->Ap->Prop}{R:Fin->Ap->Prop}(hh:A.handled=none)
  (hQ:∀h',(∀b o,s.heap.get? b=some o->h'.get? b=some o)->Q none {s with heap:=h' }) :
  Aq (Ax prog w) A.in1 (do raiseNew (<- newExc (.type "StopIteration") [])) R
   (λe s'=>Aq (Ax prog w) A (do if <- isInstance e (.type "StopIteration")then pure none else throw e) Q E s') s:=by
 refine Aa ?_;simp only[newExc,newTuple];refine Aa (BM ?_ (by size_fits));refine Aa (Ce (by first | rfl | (simp only[firstArgMember];rfl)) ?_);refine BM ?_ (by size_fits);simp only[raiseNew];refine Aa (wpAny_handled ?_);rw[show A.in1.handled=none from hh];refine Aa (Ab (wpAny_throw ?_));refine Aa (HS ⟨_,Ay _ rfl,rfl⟩ isSubtype_stop ?_);exact Ab (hQ _ λb o e=>Af _ (Af _ e))
set_option maxHeartbeats 2000000 in
theorem si {prog:Bs}{w:BG}{A:Ck}{E:Ah->Ap->Prop}{s:Ap}{I S p:Nat}{ord:List Ah}{Q:Option Ah->Ap->Prop}(hh:A.handled=none)(hit:Rk w s.heap I S p ord.length ord)
  (hQ:∀h',(∀b o,b≠I->s.heap.get? b=some o->h'.get? b=some o)->Q none {s with heap:=h' }):Aq (Ax prog w) A (ID (.ref I)) Q E s:=by
 obtain⟨o,so,first,es,ep,t,ho,hc,hd,hso,hsd,hf,hl,m⟩:_:=id hit;unfold ID;refine Aa (wpAny_attempt (HU (name:=Ak "__next__") hit.typeIs UM (B9 UM hit.typeIs wA ?_ (vY _))));unfold Ea.«set_iterator.__next__»;refine Aa (Ce (a:=(AF I,[])) rfl ?_);refine Aa (bB ho hd ?_);dsimp only;refine Aa (vO hso hsd hf ?_);rw[if_neg (by simp)];rcases m with⟨po,js,c,rfl,hpo,hpd,hmap⟩|⟨sl,tk,rfl,ft,rfl⟩|⟨sl,rfl,ft,hled,h1,rfl,z0,z1⟩
 .have hjl:js.length=ord.length:=by
   have:=congrArg Eg hmap;simpa using this.symm
  dsimp only;refine Aa (Nu hpo hpd ?_);dsimp only
  have g1:((js.map λj:Nat=>DB j 0).toArray)[(ord.length:Int).toNat]? = none:=by
   rw[BN,DU,AL,BJ (by ext)];rfl
  rw[g1];dsimp only;refine Aa (Dh ho hd (by simp) ?_);obtain⟨o',ho',hc',hd'⟩:=VD ho hc hd 0 (LO 0);refine Aa (Dh (s:={s with heap:=_}) ho' hd' (by simp) ?_);exact jB hh λh' k=>hQ h' λb o hb e=>k b o ((Bb _ _ (Bg hb)).trans ((Bb _ _ (Bg hb)).trans e))
 .dsimp only;refine Aa (wG hso hsd hf ft ?_);rw[BN (Eg _),BN ep,DK (by simp)];dsimp only[G0];refine Aa (Dh ho hd (by simp) ?_);exact jB hh λh' k=>hQ h' λb o hb e=>k b o ((Bb _ _ (Bg hb)).trans e)
 .dsimp only;refine Aa (wF hso hsd hf ft hled h1 ?_)
  have hps:t.place.size=es.size:=by
   unfold Eo at hf;simp at hf;exact hf.1
  have none_there:es[CZ t.place ((sl:Int)).toNat]? = none:=by
   rcases Fg 0 es.size with h|h
   .have hs1:es.size=1:=by ext
    obtain⟨k,hk⟩:∃k,t.place=#[k]:=by
     have:t.place.toList.length=1:=by simp[hps,hs1]
     obtain⟨k,hk⟩:=Nf.mp this;exact⟨k,by rw[<- Ib (xs:=t.place),hk]⟩
    have:=z1 (by rw[Ae,A8];ext) k (by rw[hk];rfl);subst this;rw[hk,BN,ra];exact DK (by ext)
   .rw[w5 _ _ (by ext)];exact DK (by ext)
  rw[none_there];dsimp only;refine Aa (Dh ho hd (by simp) ?_);exact jB hh λh' k=>hQ h' λb o hb e=>k b o ((Bb _ _ (Bg hb)).trans e)
theorem vM:bP "set_iterator" "__iter__" "set_iterator.__iter__":=
 .of (owner:="set_iterator") (n:="__iter__") (by rw[IV,Fw];kernel_rfl) (by nofun) (by nofun) (by nofun)
  (by first | exact .inl (by nofun) | exact .inr (by nofun)) (by rw[bK];kernel_rfl)
theorem Zem:Ll U5 "set_iterator.__iter__" = some Ea.«dict_keyiterator.__iter__»:=JC (id':="dict_keyiterator.__iter__") (by kernel_rfl) rfl (by nofun) (by kernel_rfl)
theorem ZfL (a):bN "set_iterator.__iter__" ⟨[a],[]⟩:=by
 unfold bN;rw[signature?_of (id:="set_iterator.__iter__") (n:=['_','_','r','e','t','i','_','_']) (o:=['r','o','t','a','r','e','t','i','_','t','e','s']) (by kernel_rfl) (show OU.lookup (Rp ['r','o','t','a','r','e','t','i','_','t','e','s'].reverse)=some KL by kernel_rfl)]
 kernel_rfl
theorem WH (hh:A.handled=none)(hI:I∉[S,p]) :
  WalksS prog w A I [I,S,p] [I] (λa b=>b=a) ord.length (λi v=>ord[i]? = some v) (λi s=>Rk w s.heap I S p i ord) where
 sub:=λb hb=>by simp at hb;simp[hb]
 grefl:=λ_=>rfl
 gtrans:=λa b c h1 h2=>h2.trans h1
 frame:=λi s h' tk hst _ hk=>hst.kept hk
 item:=λi s Q E hi hst hQ=>sj hst hI hi λh' hst' sb=>hQ _ _ (Ag hi) hst' ⟨λb o hb e=>by rw[sb.2 b (by simpa using hb)];exact e,rfl,rfl,rfl,AJ _⟩
 done:=λs Q E hst hQ=>si hh hst λh' hk=>hQ _ ⟨λb o hb e=>hk b o (by simpa using hb) e,rfl,rfl,rfl,AJ _⟩
 self:=λi s Q E hst hQ=>UZ hst.typeIs vM (B9 vM hst.typeIs Zem (by
  show Aq _ _ (ret (.ref I)) _ _ s;exact Ab ⟨_,rfl, "set_iterator",_,hst.typeIs,UM.lookup,hQ⟩) (ZfL _))
theorem iR:∀{vs:List Ah}{ys:List Str},Lm vs ys->vs.length=ys.length
 |_,_,.nil=>rfl
 |_,_,.cons y t h=>by simp[iR h]
theorem ZeX:splitId "set.__len__" = some ("set", "__len__"):=by kernel_rfl
theorem i4:Nv (.type "set") "__len__" = pure (some (.builtin "set.__len__")):=by rw[IV,Fw];kernel_rfl
theorem wv (hc:c=true)(h:Aq M A a Q E s):Aq M A (if c=true then a else b) Q E s:=by
 rw[if_pos hc];exact h
set_option maxHeartbeats 2000000 in
theorem zj (hh:A.handled=none)(hS:CL w s.heap S ks (!(w.params.followText "set-order")))
  (hQ:∀(h':CU) d tk vs ys,ys.Perm ks->Lm vs ys->(∀b o,s.heap.get? b=some o->h'.get? b=some o)->Q vs {s with heap:=h',drawn:=d,toks:=tk}) :
  Aq (Ax prog w) A (collect (.ref S)) Q E s:=by
 have hSlt:S<s.heap.objs.size:=by obtain⟨o,es,ep,t,ho,-⟩:=hS;exact An ho
 unfold collect;refine Aa (bA (Dw F.entry_proto_collect ?_));rw[CJ F.plain_proto_collect _];show Aq _ A.in1 (PU [] >>= λl=>NC (.builtin "list.__iadd__" ⟨[l,.ref S],[]⟩)) _ _ s;refine Aa (BM ?_);refine Ab ⟨FP F.plain_list_iadd _,Dw F.entry_list_iadd ?_⟩;rw[CJ F.plain_list_iadd _];show Aq _ A.in1 (E5 (.ref s.heap.objs.size) (.ref S) (.ref s.heap.objs.size)) _ _ _
 have hS1:CL w (s.heap.push {cls:=.type "list",data:=.seq ([]:List Ah).toArray}) S ks (!(w.params.followText "set-order")):=by
  obtain⟨o,es,ep,t,ho,CK⟩:=hS;exact⟨o,es,ep,t,Af _ ho,CK⟩
 have hL:(s.heap.push {cls:=.type "list",data:=.seq ([]:List Ah).toArray}).get? s.heap.objs.size=some {cls:=.type "list",data:=.seq ([]:List Ah).toArray}:=Ay _ rfl
 have hT:Rq {s with heap:=s.heap.push {cls:=.type "list",data:=.seq ([]:List Ah).toArray} } (.ref S) "set":=by
  obtain⟨o,es,ep,t,ho,hex,-⟩:_:=hS1;exact⟨o,ho,hex.1⟩
 unfold E5;refine Aa (Fd hT ?_)
 rw [if_neg (by
  have:JY (.ref s.heap.objs.size) (.ref S)=false:=by simp[JY,ET hSlt]
  rw [this];decide)]
 refine Aa (ze hS1 λh' d I p ord hit hIn hk hfr hord=>?_)
 have hT':Rq {s with heap:=h',drawn:=d} (.ref S) "set":=by
  obtain⟨o,ho,hc⟩:=hT;exact⟨o,hk _ _ ho,hc⟩
 refine Aa (Bh ?_);unfold Zb;refine Aa (MD hT' i4 ?_);dsimp only;rw[ZeX];dsimp only;refine Aa (HS hT' Lf ?_);rw[if_neg (by decide)];refine wv (by kernel_rfl) ?_
 .refine Aa (Fd hT' (Ab ?_))
  show Aq _ A.in1 (PR "list.extend.makes-room" >>= λ_=>Za (.ref s.heap.objs.size) >>= λ_ =>
   NC (.builtin "list.extend.loop" ⟨[.ref s.heap.objs.size,.ref I,.ref s.heap.objs.size],[]⟩)) _ _ _
  refine Aa (FA ?_);have hL1:=hk _ _ hL;refine Aa ?_;show Aq _ A.in1 (updateSeq s.heap.objs.size (·.push .none) >>= λ_=>updateSeq s.heap.objs.size (·.pop)) _ _ _;refine Aa (YL hL1 rfl ?_);have hL2:=D6 (Hx (·.push FZ)) hL1 rfl;refine YL hL2 rfl ?_;have hL3:=D6 (Hx (·.pop)) hL2 rfl
  have hnot:∀b∈[I,p],s.heap.objs.size≠b:=λb hb e=>by
   rcases hfr b hb with h|h
   .rw[<- e]at h;rw[hL]at h;cases h
   .rw[h]at e;exact ET hSlt e
  have hLn:s.heap.objs.size∉[I,S,p]:=by
   simp only[Bx,AX,or_false,not_or];exact⟨hnot I (by simp),ET hSlt,hnot p (by simp)⟩
  have oth:∀b o,b≠s.heap.objs.size->h'.get? b=some o->((h'.update s.heap.objs.size (Hx (·.push FZ))).update s.heap.objs.size (Hx (·.pop))).get? b=some o:=
   λb o hb e=>(Bb _ _ (Bg hb)).trans ((Bb _ _ (Bg hb)).trans e)
  obtain⟨ys,hy1,hy2⟩:=hord
  have hol:ord.length<=Am:=by
   obtain⟨o,es,ep,t,ho,hex,hd,hes,hp,hsz,-⟩:_:=hS;have l1:=hy1.length_eq;have l2:=hp.length_eq;have l3:(GA es.toList).length=es.size:=by unfold GA;rw[Ae,A8]
   have l4:=(iR hy2).symm;have:A9<=Am:=by decide
   ext
  refine Ab ⟨FP F.plain_extend_loop _,codeAny_extend_loopS (WH (by simp[hh]) hIn) ?_ _ hLn _ ord.length 0 _ _ _ rfl (C9 _) (hit.kept λb hb o e=>?_) hL3 (ItemsOf.nil _) λs' acc' c' hm hS' hacc=>?_⟩
  .exact hol
  .exact oth b o (λh=>hLn (h ▸ hb)) e
  .show Aq _ A (load s.heap.objs.size >>= _) _ _ s';refine Aa (wpAny_load hS' ?_)
   have e:acc'.toList=ord:=by
    apply Fj;intro j;rcases Fg j acc'.size with h|h
    .rw[C0,AT h];exact(hacc.2 j _ (AT h)).symm
    .rw[BJ (by simpa using h),BJ (by rw[<- hacc.1];exact h)]
   obtain⟨h2,g2,d2,tk2,os2⟩:=s';have eg:=hm.gens;have ed:d2=d:=hm.drawn;have eo:os2=s.os:=hm.os;subst eg;subst ed;subst eo;refine Ab ?_;rw[e];refine hQ h2 d2 tk2 ord ys hy1 hy2 λb o e=>?_;have hb:=A5 (An e);refine hm.heap b o ?_ (oth b o hb (hk b o (Af _ e)));simp only[Bx,AX,or_false,not_or];refine⟨hb,λe2=>?_⟩;rcases hfr I (by simp)with h|h
   .rw[<- e2,Af _ e]at h;cases h
   .exact hIn (by simp[h])
theorem uS (hh:A.handled=none)(hS:CL w s.heap S ks (!(w.params.followText "set-order")))(h64:ks.length<64)
  (hQ:∀(h':CU) d tk (L:Av) (out:List Ah) (c:Nat) (ys:List Str),s.heap.get? L=none->S<L->h'.get? L=some (seqObj "list" out.toArray c)->Lm out ys->ys.Perm ks->Lg ys=true->(∀b o,s.heap.get? b=some o->h'.get? b=some o)->Q (.ref L) {s with heap:=h',drawn:=d,toks:=tk}) :
  Aq (Ax prog w) A (IE (.builtin "sorted") [.ref S]) Q E s:=by
 refine Calls.call_function_entry kind_sorted plain_sorted entry_sorted (args_sorted1 _) ?_;unfold Ea.«sorted»;refine Aa (Ab ?_);refine Aa (zj (by simp[hh]) hS λh1 d tk vs ys hy1 hy2 hk=>?_)
 have hvl:vs.length<64:=by
  have l1:=iR hy2;have l2:=hy1.length_eq;ext
 have hSL:S<h1.objs.size:=by
  obtain⟨o,es,ep,t,ho,-⟩:=hS;exact An (hk _ _ ho)
 refine Aa (wpAny_newList ?_);have hoL:(h1.push (seqObj "list" vs.toArray 0)).get? h1.objs.size=some (seqObj "list" vs.toArray 0):=Ay _ rfl
 have hfresh:s.heap.get? h1.objs.size=none:=by
  cases hq:s.heap.get? h1.objs.size with
  |none=>rfl
  |some o=>exact absurd (An (hk _ _ hq)) (E4 _)
 refine Aa (Bh (B9 slot_list_sort ⟨_,hoL,rfl⟩ entry_list_sort (list_sort_treeK strKind_oneLt hoL hy2.keysOf (λv₁ v₂ CK e=>keyKind_strs (by rw[<- e];exact hy2)) hvl λst' a1 a2=>⟨_,rfl,?_⟩) (args_list_sort _)));obtain⟨ss',b1,b2,b3⟩:=sorted_out_str hy2 a1 a2;obtain⟨c,hc⟩:=sortedHeap_at hoL;refine Ab ⟨_,rfl,hQ _ d tk _ _ c ss' hfresh hSL (by rw[Ib];exact hc) b1 (b2.trans hy1) b3 λb o e=>?_⟩;have hlt:=An (hk _ _ e);rw[sortedHeap_old (A5 hlt) (by rw[size_push'];exact EU hlt),Heap.get?_push_ne _ _ _ (A5 hlt)];exact hk _ _ e
section
theorem A6.draw (I:A6 X Ad U H s)(d:Drawn):A6 X Ad U H {s with drawn:=d}:=
 ⟨I.ok,I.os,I.bare,I.base,I.loc,I.cell,I.free,I.freeC,I.pin,I.hok,I.len,I.fzd⟩
theorem aO:∀{vs:List Ah}{ys:List Str},Lm vs ys->BF (ys.map V.str) vs
 |_,_,.nil=>.nil
 |_,_,.cons y t h=>.cons ⟨t,rfl⟩ (aO h)
def lN (K:Ac)(Q:VK)(x:V)(H1:Hp):Prop:=
 ∃p xs,x=.ref p/\FS K H1 p (xs.map V.str)/\xs.length+1<A9/\(fm xs).length<64/\∀l ys,H1 l=none->ys.Perm (fm xs)->Lg ys=true->Q (.ref l) (CD H1 l (.lst (ys.map V.str)))
def wT (K:Ac)(ta:TE):TE:=λU H Q=>ta U H (lN K Q)
theorem vT (hc:X.calm=true)(ha:PE X e ta)(hm1:X.mg "sorted" = none)(hm2:X.mg "set" = none)(hg1:Gl X "sorted":=by rfl)(hg2:Gl X "set":=by rfl)
  (he:Ar [e] X.env=(false,eval e X.env)::Ar [] X.env:=by rfl) :
  PE X (.Call (.Name "sorted" p1) [.Call (.Name "set" p2) [e] [] pos2] [] pos) (wT X.K ta):=by
 intro Ad s U H Q I h;refine Co (Qz I hg1 hm1 rfl ?_);refine EJ ?_ rfl rfl;show Aq _ _ (U8 ((false,eval (.Call (.Name "set" p2) [e] [] pos2) X.env)::Cc pos (Ar [] X.env))) _ _ s;refine Ji ?_;refine Co (Qz I hg2 hm2 rfl ?_);refine BO (Do (ZJ ha ZC he pos2 Ad s U H (λvs H1=>match vs with | [x]=>lN X.K Q x H1 | _=>False) I h) λus s1 e=>e.el λvs H1 I1 r1 q1=>?_) he rfl
 match vs,r1,q1 with
 |[x],r1,⟨p,xs,hx,hs,hz,h64,q⟩=>
  subst hx;obtain⟨u,rfl,ru⟩:=HA r1;cases(show u=AF p from ru);obtain⟨Bj,rv,pl,hzz⟩:=I1.list hs
  have hl:xs.length=Bj.toArray.size:=by
   have:=rv.length;simpa using this
  refine iW (I1.ok.hd hc) pl.isList hl (λi v hi hv=>?_) (by ext) λh2 tk2 hS hk2=>?_
  .obtain⟨u,hu,ru⟩:=rv.get (by rw[AL,Ag hi];rfl);rw[DU]at hv;rw[hu]at hv;cases hv;exact ru
  .refine JF ?_;refine uS (I1.ok.hd hc) hS h64 λh3 d tk3 L out c ys hf hSL hL hst hp hsrt hk3=>?_;refine⟨.ref L,_,((I1.draw d).laid (o:=.lst (ys.map V.str)) (λb u eb=>hk3 b u (hk2 b u eb)) (FW hSL) ⟨?_,out,c,aO hst,hL⟩),rfl,q L ys ?_ hp hsrt⟩
   .rw[Ae,hp.length_eq];have:(64:Nat)<=Am:=by decide
    ext
   .exact I1.hok.fresh (FW hSL)
end
noncomputable def OI (a b:Str):Bool:=!ltCps b.cps.toList a.cps.toList
noncomputable def HE (xs:List Str):List Str:=(fm xs).mergeSort OI
theorem UB :OI a b=true↔a.cps.toList<=b.cps.toList:=by
 unfold OI;rw[ltCps_eq];simp
theorem UJ (a b c:Str)(h1:OI a b=true)(h2:OI b c=true):OI a c=true:=UB.mpr (List.le_trans (UB.mp h1) (UB.mp h2))
theorem VJ (a b:Str):(OI a b || OI b a)=true:=by
 rcases List.le_total a.cps.toList b.cps.toList with h|h
 .rw[UB.mpr h];rfl
 .rw[UB.mpr h,Bool.or_true]
theorem ZV (h1:OI a b=true)(h2:OI b a=true):a=b:=by
 have e:=List.le_antisymm (UB.mp h1) (UB.mp h2);cases a;cases b;simpa using e
theorem sV:∀r x,risingS x r=true->(x::r).Pairwise (λa b=>OI a b=true)
 |[],x,_=>by simp
 |y::r,x,h=>by
  unfold risingS at h;rw[BQ]at h;have ih:=sV r y h.2;rw[Pt]at ih ⊢;refine⟨λb hb=>?_,Pt.mpr ih⟩;rcases AU.mp hb with rfl|hb
  .exact h.1
  .exact UJ x y b h.1 (ih.1 b hb)
theorem sX:∀l,Lg l=true->l.Pairwise (λa b=>OI a b=true)
 |[],_=>.nil
 |x::r,h=>sV r x h
theorem iQ (h1:ys.Perm (fm xs))(h2:Lg ys=true):ys=HE xs:=
 GS (λa b _ _ p q=>ZV p q) (sX _ h2) (Di UJ VJ _) (h1.trans (Ez _ _).symm)
theorem iA (xs):(HE xs).length=(fm xs).length:=(Ez _ _).length_eq
section
theorem ats_strs :∀{vs:List V}{ss:List Str},Ds Z vs (ss.map D.str)->vs=ss.map V.str
 |[],[],_=>rfl
 |v::vs,s::ss,.cons h t=>by
  cases(show v=V.str s from h);rw[ats_strs t];rfl
theorem VS :∀(ss:List Str),Ds Z (ss.map V.str) (ss.map D.str)
 |[]=>.nil
 |s::ss=>.cons rfl (VS ss)
unseal BX
def kQ (ta:DG):DG:=λτ M Q=>ta τ M λx M1=>CH (Bo M1 x) λds=>CH (DX ds) λxs=>xs.length+1<A9/\(fm xs).length<64/\∀p,M1 p=none->Q (.ref p) (put M1 p (.lst ((HE xs).map D.str)))
def WP (ta:DG):DG:=λτ M Q=>ta τ M λx M1=>CH (Bo M1 x) λds=>CH (DX ds) λxs=>xs.length+1<A9/\(fm xs).length<64/\Q (.lst ((HE xs).map D.str)) M1
theorem lF (hc:X.calm=true)(hm1:X.mg "sorted" = none)(hm2:X.mg "set" = none)(ha:BX X e ta)(hg1:Gl X "sorted":=by rfl)(hg2:Gl X "set":=by rfl)
  (he:Ar [e] X.env=(false,eval e X.env)::Ar [] X.env:=by rfl):BX X (.Call (.Name "sorted" p1) [.Call (.Name "set" p2) [e] [] pos2] [] pos) (kQ ta):=PE.mono (vT hc ha hm1 hm2 hg1 hg2 he) (by
 intro U H Q;ext1⟨Z,τ,M,Q2,st,hr,h,k⟩;refine ⟨Z,τ,M,_,st,hr,h,λZ1 v d H1 M1 l1 h1 a1 q1=>?_⟩;obtain ⟨ds,e1,q2⟩:=Cr q1;obtain ⟨xs,e2,hz,h64,q3⟩:=Cr q2;obtain ⟨p,vs,rfl,hs,a2⟩:=h1.rdL e1 a1;have e3:=UO e2;subst e3;have e4:=ats_strs a2;subst e4;refine ⟨p,xs,rfl,hs,hz,h64,λl ys hl hp hq=>?_⟩;rw [iQ hp hq];exact (k.le l1).l h1 hl (VS _) q3)
theorem eT (hc:X.calm=true)(hm1:X.mg "sorted" = none)(hm2:X.mg "set" = none)(ha:BX X e ta)(hg1:Gl X "sorted":=by rfl)(hg2:Gl X "set":=by rfl)
  (he:Ar [e] X.env=(false,eval e X.env)::Ar [] X.env:=by rfl):BX X (.Call (.Name "sorted" p1) [.Call (.Name "set" p2) [e] [] pos2] [] pos) (WP ta):=PE.mono (vT hc ha hm1 hm2 hg1 hg2 he) (by
 intro U H Q;ext1⟨Z,τ,M,Q2,st,hr,h,k⟩;refine ⟨Z,τ,M,_,st,hr,h,λZ1 v d H1 M1 l1 h1 a1 q1=>?_⟩;obtain ⟨ds,e1,q2⟩:=Cr q1;obtain ⟨xs,e2,hz,h64,q3⟩:=Cr q2;obtain ⟨p,vs,rfl,hs,a2⟩:=h1.rdL e1 a1;have e3:=UO e2;subst e3;have e4:=ats_strs a2;subst e4;refine ⟨p,xs,rfl,hs,hz,h64,λl ys hl hp hq=>?_⟩;rw [iQ hp hq];exact (k.le l1).f h1 hl (VS _) q3)
unseal EI
def Qi (K:Ac):V->List V->Hp->VK->Prop:=λx vs H Q=>∃l b xs zs,x=.ref l/\vs=[.ref b]/\H l=some (.lst xs)/\FS K H b zs/\xs.length+zs.length<=Am/\Q .non (CD H l (.lst (xs++zs)))
theorem vw:aY X "list.extend" (Qi X.K):=by
 intro Ad s U H x vs v us Q I rx rv;ext1⟨l,b,xs,zs,e1',e2',hH,hB,hz,q⟩;cases rx;obtain⟨u,rfl,ru⟩:=rv.one;cases ru;obtain⟨z,Bj,n,r,hl,e⟩:=I.lstM hH;obtain⟨its2,r2,⟨o2,n2,e2,c2,d2,s2⟩,z2⟩:=I.list hB;have hl2:=r2.length;refine B9 F.slot_list_extend ⟨_,e,rfl⟩ F.entry_list_extend ?_ (F.args_list_extend_2 _ _);unfold Ea.«list.extend»;refine Aa (Ce rfl ?_);dsimp only;unfold E5;refine Aa (Fd ⟨o2,e2,c2⟩ ?_);rw[if_pos (by simp)];refine Aa (listItems_at e2 s2 ?_);refine Aa (listItems_at e rfl ?_);have hsz:Bj.toArray.size+its2.toArray.size<=Am:=by rw[A4,A4];ext
 rw[if_neg (by rw[Qp hsz,F9];exact Aj)];refine Aa (listUpdate_at e rfl ?_ (by rw[A4];ext) (by simp only[FU];ext));refine Ab ⟨_,rfl,.non,_,I.lset hH e (by simp) (r.append r2) ?_,rfl,q⟩;rw[Ao];ext
def Ga:D->List D->Mp->Eb->Prop:=λx xs M Q=>J2 x λp=>GJ xs λy=>match M p with
 |some (.lst ys)=>CH (Bo M y) λzs=>ys.length+zs.length<=Am/\Q .non (put M p (.lst (ys++zs)))
 |_=>False
theorem Tg:EI X "list.extend" Ga:=MY.mono vw (by
 intro x xs H Q;ext1⟨Z,d,ds,M,Q2,hr,a,as,h,k⟩;obtain⟨p,rfl,h1⟩:=IL h;obtain⟨y,rfl,h2⟩:=GW h1;cases(show x=V.ref p from a);obtain⟨v,rfl,av⟩:=JL as;split at h2
 .next ys e=>
  obtain⟨zs,e2,hl,q⟩:=Cr h2;obtain⟨vs,r,a2⟩:=hr.rdM e;obtain⟨b,ws,rfl,hs,a3⟩:=hr.rdL e2 av;refine⟨p,b,vs,ws,rfl,rfl,r,hs,by rw[a2.length,a3.length];exact hl,?_⟩;exact k Z .non .non _ _ (Le.refl _) (hr.chgL e (a2.append a3)) rfl q
 .exact h2.elim)
end
end L2
namespace L3
open PySem PySem.Spec PyProof.Rows L2
noncomputable def mergeK (AQ more:List (Cd×V)):List (Cd×V):=more.foldl (λacc kv=>putK acc kv.1 kv.2) AQ
noncomputable def Gi (AQ more:List (Cd×D)):List (Cd×D):=more.foldl (λacc kv=>Ih acc kv.1 kv.2) AQ
theorem rW:∀{more:List (Cd×V)}{ms:List (Cd×Ah)},KV more ms->∀{AQ:List (Cd×V)}{vs:List (Cd×Ah)},KV AQ vs->KV (mergeK AQ more) (Jy vs ms)
 |_,_,.nil,_,_,r=>r
 |_,_,.cons (a:=p) (b:=q) h t,AQ,vs,r=>by
  have e:stored vs q.1 q.2=stored vs p.1 q.2:=by rw[h.1]
  have:=rW t (r.put p.1 h.2);unfold Jy at this ⊢;rw[CC,e];exact this
theorem tS:∀(more AQ:List (Cd×V)),(mergeK AQ more).length<=AQ.length+more.length
 |[],AQ=>AJ _
 |m::more,AQ=>by
  have h1:=tS more (putK AQ m.1 m.2);have h2:=aD AQ m.1 m.2;unfold mergeK at h1 ⊢;rw[CC,AO];ext
theorem uN :∀{more:List (Cd×V)}{ms:List (Cd×D)},Cu Z more ms->∀{AQ:List (Cd×V)}{vs:List (Cd×D)},Cu Z AQ vs->Cu Z (mergeK AQ more) (Gi vs ms)
 |_,_,.nil,_,_,r=>r
 |_,_,.cons (a:=p) (b:=q) h t,AQ,vs,r=>by
  have:=uN t (r.put (k:=p.1) h.2);unfold mergeK Gi at this ⊢;rw[CC,CC,<- h.1];exact this
section
end
section
unseal EI
unseal BX Gc
end
end L3
namespace PySem
open Sem (wp)
section
variable {prog:Bs}{w:BG}{K:Type}[DecidableEq K]{knd:KeyKind prog w K}{A:Ck}  {s:Ap}
end
end PySem
namespace L2
open PySem PySem.Spec PyProof.Rows L3
section
end
end L2
namespace L3
open PySem PySem.Spec PyProof.Rows L2
noncomputable def Gj (AQ:List (Cd×D)):List D:=AQ.map λkv=>.tup [kD kv.1,kv.2]
section
variable {X:Cx}
unseal BX
unseal Du
def TX (j:Nat)(t:HH):HH:=λE τ M=>CH (τ[j]?).join λd=>J2 d λp=>match M p with
 |some (.lst ds)=>t E (τ.set j (some (.lst ds))) (Lc M p)
 |_=>False
theorem ZM (j)(h:Du X body t):Du X body (TX j t):=Lz.mono h (by
 intro D U H;ext1⟨Z,τ,M,D2,st,hr,h,er⟩;obtain⟨d,e,q0⟩:=Cr h;obtain⟨p,ed,q⟩:=IL q0;subst ed;obtain⟨v,e1,a⟩:=st.get (EF.mp e);cases(show v=.ref p from a);cases e2:M p with
 |none=>rw[e2]at q;exact q.elim
 |some o=>
  cases o with
  |dic ds=>rw[e2]at q;exact q.elim
  |dct ds=>rw[e2]at q;exact q.elim
  |obj C fs=>rw[e2]at q;exact q.elim
  |lst AQ=>
   rw[e2]at q;have q':=q;have st2:=(st.mono (Le.ext)).set (d:=.lst AQ) ⟨p,rfl,.inr ⟨rfl,rfl⟩⟩ j
   have e3:U.set j (some (.ref p))=U:=by
    apply Fj;intro i;rw[P2];by_cases hij:j=i
    .subst hij;obtain⟨hj,ej⟩:=Au.mp e1;simp[hj,ej]
    .simp[hij]
   rw [e3] at st2;exact ⟨_,_,_,D2,st2,hr.frzL e2,q',er.le Le.ext⟩)
section
def NT (wi:Nr)(n:Nat)(caps:List (Str×Nat))(tt:K0)(te:DG):DG:=λτ M Q=>wi τ M λxs S M1=>Kc n xs S caps tt te τ M1 λys M2=>∀p,M2 p=none->Q (.ref p) (put M2 p (.lst ys))
theorem Ug {K:Ac}(ht:∀U H Q,lT K tt U H Q->tt1 U H Q):∀U H Q,lE K (NT wi n caps tt te) U H Q->L0 (lI K wi) n caps tt1 (lE K te) K U H Q:=by
 intro U H Q;ext1⟨Z,τ,M,Q2,st,hr,h,k⟩;exact uE st hr h ht λZ1 H1 M1 vs ds l1 h1 a1 q p hp=>(k.le l1).l h1 hp a1 q
unseal Hs
theorem T9 (B:JO X scope x ns caps)(hc:X.calm=true)(hi:Hs X (.Tuple tes tk px) iter wi)(he:∀cl C fp pn s H,BX (GC X scope cl C (x::(ns++caps.map (·.1))) fp pn s H) elt te)
  (hg:∀cl C fp pn s H,QH (GC X scope cl C (x::(ns++caps.map (·.1))) fp pn s H) tes (Fp (Bl (ns.length+1)))) (hgn:∀cl C fp pn s H,(Bz tes (GC X scope cl C (x::(ns++caps.map (·.1))) fp pn s H).env).length=ns.length+1:=by intros;rfl) (hgf:∀cl C fp pn s H,Jh (λy=>y.1) (Bz tes (GC X scope cl C (x::(ns++caps.map (·.1))) fp pn s H).env)=none:=by intros;rfl)
  (hs:∀x,BC iter X.env x=pure x:=by intro _;rfl):BX X (.ListComp elt [⟨.Tuple tes tk px,iter,[],0⟩] scope pos) (NT wi (ns.length+1) caps Gy te):=PE.mono (qZ (te:=lE X.K te) B hc hi he (λ_ _ _ _ _ _=>Im.nil) hg hgn hgf hs) (Ug LI)
end
end
end L3
namespace PySem
open Sem (wp)
theorem δ:Nv (.type "list") "keys" = pure none:=by rw[IV,Fw];kernel_rfl
section
theorem ut (hx:s.heap.get? a=some {cls:=.type "list",dict:=none,data:=.seq xs k,slots:=sl})(hA:A.handled=none)
  (h:∀h' tk,(∀b u,s.heap.get? b=some u->h'.get? b=some u)->Q none {s with heap:=h',toks:=tk}):Aq (Ax prog w) A (getAttr? (.ref a) "keys") Q E s:=by
 obtain⟨hp,g,d,tk,os⟩:=s;have hT:∀tk',(⟨hp,g,d,tk',os⟩:Ap).TypeIs (.ref a) "list":=λ_=>⟨_,hx,rfl⟩;have f1:=sub_AttributeError;have f3:=F.slot_list_getattribute.lookup;have f4:=F.slot_list_getattribute.bind (.ref a);have f5:=am_list_getattr_none;unfold getAttr? getAttrBy? getAttrBy
 repeat (any_goals (first | assumption | exact hT _ | ((with_reducible show Aq _ _ (IE (So "list.__getattribute__") _ _) _ _ _);refine KD F.slot_list_getattribute (hT _) am_entry_list_getattribute (F.args_list_getattribute_2 _ _) (meets_getattribute_miss_list a xs k sl "keys" _ δ (by nofun) (by nofun)) ⟨hx,hA,λh' tk' e hx'=>?_⟩) | wp_step))
 obtain⟨t',u',he⟩:=hx'.there;show Aq _ _ (Tt _ _ _ _ _ _ _) _ _ _;unfold Tt
 repeat (any_goals (first | assumption | wp_step))
 exact h _ _ hx'.keeps
end
theorem wH:Ll U5 "dict.update.loop" = some Ea.«dict.update.loop»:=V9 (by kernel_rfl)
theorem aP:plainId "dict.update.loop" = true:=by nofun
section
variable {prog:Bs}{w:BG}{K:Type}[DecidableEq K]{knd:KeyKind prog w K}
def Mj (knd:KeyKind prog w K)(h:CU)(v:Ah)(k:K)(x:Ah):Prop:=∃a key o n,v=.ref a/\knd.is k key=true/\h.get? a=some o/\o.cls=.type "tuple"/\o.data=.seq #[key,x] n
theorem yx {AQ:List (K×Ah)}(h:AQ[i]? = some p):Jy [] (AQ.take (i+1))=stored (Jy [] (AQ.take i)) p.1 p.2:=merged_take_succ [] AQ i p h
theorem t3 {d it l:Av}{lo:Nat}{items:Array Ah}{pairs:List (K×Ah)}{R:Tz->Ap->Prop}(hh:A.handled=none)(hlen:items.size=pairs.length)(hsz:pairs.length<=Am)(hdl:lo<=d)(hil:lo<=it)(hne:d≠it)(hl:l<lo)
  (hp:∀(i:Nat) v,items[i]? = some v->∃a,v=.ref a/\a<lo) (res:Ah) :
  ∀k i s tk0,pairs.length-i=k->i<=pairs.length->s.heap.IsListIter it l i->s.heap.IsList l items->s.heap.DictOf knd d (Jy [] (pairs.take i)) ->
   (∀(j:Nat) v p,items[j]? = some v->pairs[j]? = some p->Mj knd s.heap v p.1 p.2) ->
   (∀h' tk,(∀b o,b<lo->s.heap.get? b=some o->h'.get? b=some o)->h'.DictOf knd d (Jy [] pairs)->R (.ok (.ret res)) {s with heap:=h',toks:=tk}) ->
   DP (Ax prog w) A (.builtin "dict.update.loop" ⟨[.ref d,.ref it,.int (i:Int) tk0,res],[]⟩) R s:=by
 have nd:∀b,b<lo->b≠d:=λb h=>A5 (Bk h hdl);have ni:∀b,b<lo->b≠it:=λb h=>A5 (Bk h hil);intro k;induction k with
 |zero=>
  intro i s tk0 hk hi hit hls hd hpr hR;have hin:i=pairs.length:=by ext
  subst hin;refine Dw wH ?_;rw[CJ aP _];show Aq _ A.in1 (ID (.ref it) >>= _) _ _ s;refine Aa (Jc hh hit hls (by rw[<- hlen];simp) λh' he'=>?_);rw[Bw]at hd;obtain⟨o,es,ep,ho,CK⟩:=hd;show Aq _ _ (Zf d [] >>= _) _ _ _;exact Aa (Ab (Ab (hR h' s.toks (λb o hb e=>he' b o (ni b hb) e) ⟨o,es,ep,he' d o hne ho,CK⟩)))
 |succ k ih=>
  intro i s tk0 hk hi hit hls hd hpr hR;have hlt:i<pairs.length:=by ext
  have hlt':i<items.size:=by ext
  refine Dw wH ?_;rw[CJ aP _];show Aq _ A.in1 (ID (.ref it) >>= _) _ _ s;refine Aa (Iy hit hls (AT hlt') λh1 hit1 sb=>?_);obtain⟨a,key,o,n,ev,hkey,ho,hoc,hod⟩:_:=hpr i _ _ (AT hlt') (Ag hlt)
  have hal:a<lo:=by
   obtain⟨a',e',hl'⟩:=hp i _ (AT hlt');rw[ev]at e';cases e';exact hl'
  have ho1:=(sb.2 a (ni a hal)).trans ho
  have hd1:h1.DictOf knd d (Jy [] (pairs.take i)):=by
   obtain⟨o,es,ep,ho,CK⟩:=hd;exact⟨o,es,ep,(sb.2 d hne).trans ho,CK⟩
  have hml:(Jy [] (pairs.take i)).length<=Am:=by
   have e1:=merged_length_le ([]:List (K×Ah)) (pairs.take i);rw[AW,FD]at e1;ext
  rw[ev];dsimp only;refine Aa (Bh ?_);refine Aa (wpAny_tryCatch ?_);unfold Zd;refine Aa (Fd ⟨o,ho1,hoc⟩ ?_);rw[if_pos (by decide)];refine Aa (Nu ho1 hod (Ab ?_));show Aq _ _ (Gu [key,pairs[i].2] (dictSet d key pairs[i].2)) _ _ _;refine Bh (wpAny_dictSet_pairs hkey hd1 λh2 hd2 sb2=>?_);refine Ab ⟨FP aP _,?_⟩;have ec:(i:Int)+1=((i+1:Nat):Int):=by ext
  show DP _ _ (.builtin "dict.update.loop" ⟨[.ref d,.ref it,.int ((i:Int)+1) 0,res],[]⟩) _ _;rw[ec];have keep:∀b o,b<lo->s.heap.get? b=some o->h2.get? b=some o:=λb o hb e=>(sb2.2 b (nd b hb)).trans ((sb.2 b (ni b hb)).trans e);refine ih (i+1) _ 0 (by ext) hlt ?_ ?_ ?_ ?_ λh' tk hk' hd'=>hR h' tk (λb o hb e=>hk' b o hb (keep b o hb e)) hd'
  .obtain⟨oi,hoi,r⟩:=hit1;exact⟨oi,(sb2.2 it (Bg hne)).trans hoi,r⟩
  .obtain⟨ol,hol,r⟩:=hls;exact⟨ol,keep l ol hl hol,r⟩
  .rw[yx (Ag hlt)];exact hd2
  .intro j v p hv hj;obtain⟨a',key',o',n',e1',r1,r2,r3⟩:_:=hpr j v p hv hj;obtain⟨a2,e2,hl2⟩:=hp j _ hv;cases e2;exact⟨a',key',o',n',rfl,r1,keep a' o' hl2 r2,r3⟩
theorem r9 {s:Ap}{l:Av}{items:Array Ah}{n:Nat}{sl:Array (Option Ah)}{pairs:List (K×Ah)}{Q:Ah->Ap->Prop}(hh:A.handled=none)(hx:s.heap.get? l=some {cls:=.type "list",dict:=none,data:=.seq items n,slots:=sl})(hlen:items.size=pairs.length)(hsz:pairs.length<=Am)
  (hpr:∀(j:Nat) v p,items[j]? = some v->pairs[j]? = some p->Mj knd s.heap v p.1 p.2)
  (hQ:∀h' tk,(∀b o,s.heap.get? b=some o->h'.get? b=some o)->h'.DictOf knd s.heap.objs.size (Jy [] pairs)->Q (.ref s.heap.objs.size) {s with heap:=h',toks:=tk}) :
  Aq (Ax prog w) A (IE (.type "dict") [.ref l]) Q E s:=by
 refine callType_codes (Q₁:=λobj s₁=>obj=.ref s.heap.objs.size/\s₁={s with heap:=s.heap.push {cls:=.type "dict",data:=.dict #[]} }) F.kt_called_dict (F.kt_typeCall_dict_1 _) F.entry_dict_init (kt_code_dict_new _ ⟨rfl,rfl⟩) ?_;rintro obj s₁ ⟨rfl,rfl⟩;have hnew:(s.heap.push {cls:=.type "dict",data:=.dict #[]}).DictOf knd s.heap.objs.size []:=Ni s.heap;have hx':(s.heap.push {cls:=.type "dict",data:=.dict #[]}).get? l=some {cls:=.type "list",dict:=none,data:=.seq items n,slots:=sl}:=Af _ hx;have hll:=An hx;refine⟨hnew.typeIs,F.args_dict_init_2 _ _,?_⟩;unfold Ea.«dict.__init__»;refine Aa ?_;unfold Zc;refine Aa (QN hnew.typeIs ?_);show Aq _ _ (pure (s.heap.objs.size,[AF l])) _ _ _;refine Ab ?_;show Aq _ _ (Kf "dict.__init__" s.heap.objs.size (.ref l) [] .none) _ _ _;unfold Kf;refine Aa (Fd (T:="list") ⟨_,hx',rfl⟩ ?_);rw[if_pos (by decide)];refine Aa (ut hx' hh λh1 tk1 k1=>?_);simp only[Option.isNone_none,if_true];refine Aa (FA ?_);have hl1:=k1 _ _ hx';refine Aa (Fe (items:=items) ⟨_,hl1,rfl,n,rfl⟩ ?_);have kk:∀b o,s.heap.get? b=some o->(h1.push {cls:=.type "list_iterator",data:=.fields #[.ref l,.int 0 0]}).get? b=some o:=λb o e=>Af _ (k1 b o (Af _ e))
 have hds:s.heap.objs.size<h1.objs.size:=by
  obtain⟨o,_,_,ho,_⟩:=hnew;exact An (k1 _ _ ho)
 have hls:(h1.push {cls:=.type "list_iterator",data:=.fields #[.ref l,.int 0 0]}).IsList l items:=⟨_,Af _ hl1,rfl,n,rfl⟩;have hit:(h1.push {cls:=.type "list_iterator",data:=.fields #[.ref l,.int 0 0]}).IsListIter h1.objs.size l 0:=⟨_,Ay _ rfl,rfl,rfl⟩;refine Ab ⟨FP aP _,?_⟩;refine t3 (A:=A.in1) (knd:=knd) (lo:=s.heap.objs.size) (pairs:=pairs) hh hlen hsz (AJ _) (FW hds) (A5 hds) hll (λi v hv=>?_) .none pairs.length 0 {s with heap:=h1.push {cls:=.type "list_iterator",data:=.fields #[.ref l,.int 0 0]},toks:=tk1} 0 rfl (C9 _) hit hls ?_ ?_ λh' tk hk hd=>?_
 .have hi:i<pairs.length:=by
   rw[<- hlen];exact(F3.mp hv).1
  obtain⟨a,key,o,n',e1',_,ho,_⟩:_:=hpr i v _ hv (Ag hi);exact⟨a,rfl,An ho⟩
 .obtain⟨o,es,ep,ho,CK⟩:=hnew;exact⟨o,es,ep,Af _ (k1 _ _ ho),CK⟩
 .intro j v p hv hj;obtain⟨a,key,o,n',e1',r1,ho,r2⟩:_:=hpr j v p hv hj;exact⟨a,key,o,n',rfl,r1,kk a o ho,r2⟩
 .exact⟨rfl,hQ h' tk (λb o e=>hk b o (An e) (kk b o e)) hd⟩
end
end PySem
namespace L3
open PySem PySem.Spec PyProof.Rows L2
section
theorem iz (h:DW F l [b,c]):∃x y,l=[x,y]/\F x b/\F y c:=by
 cases h with
 |cons h t=>
  cases t with
  |cons h' t'=>cases t';exact⟨_,_,rfl,h,h'⟩
theorem my (h:DW F [b,c] l):∃x y,l=[x,y]/\F b x/\F c y:=by
 cases h with
 |cons h t=>
  cases t with
  |cons h' t'=>cases t';exact⟨_,_,rfl,h,h'⟩
theorem jm (I:A6 X Ad U H s)(hr:HR X.K H M Z)(h:At Z v (.tup [kD k,d]))(r:RelV v u) :
  ∃w2 u2,At Z w2 d/\RelV w2 u2/\Mj (BU X.prog X.w) s.heap u k u2:=by
 obtain⟨p,ws,rfl,hs,aw⟩:=hr.rdT h;have eu:=r;subst eu;obtain⟨its2,rv,ht,_⟩:=I.tuple hs;obtain⟨w1,w2,rfl,a1,a2⟩:=iz aw;obtain⟨u1,u2,rfl,r1,r2⟩:=my rv;have e1:=Vu a1;subst e1;obtain⟨o,e,c,n,hd⟩:=ht;exact⟨w2,u2,a2,r2,p,u1,o,n,rfl,R5 r1,e,c,hd⟩
theorem j4 (h:DW F l (b::m)):∃x r,l=x::r/\F x b/\DW F r m:=by
 cases h with
 |cons h t=>exact⟨_,_,rfl,h,t⟩
theorem rP (h:DW F (b::m) l):∃x r,l=x::r/\F b x/\DW F m r:=by
 cases h with
 |cons h t=>exact⟨_,_,rfl,h,t⟩
theorem bi (h:DW F l []):l=[]:=by cases h;rfl
theorem qI (h:DW F [] l):l=[]:=by cases h;rfl
theorem xz :Gj ((k,d)::ps)=.tup [kD k,d]::Gj ps:=rfl
theorem qa (I:A6 X Ad U H s)(hr:HR X.K H M Z)(ps:List (Cd×D)):∀vs Bj,Ds Z vs (Gj ps)->BF vs Bj ->
  ∃(ks:List (Cd×V)) (prs:List (Cd×Ah)),KV ks prs/\Cu Z ks ps/\Bj.length=prs.length/\∀(j:Nat) v p,Bj[j]? = some v->prs[j]? = some p->Mj (BU X.prog X.w) s.heap v p.1 p.2:=by
 induction ps with
 |nil=>intro vs Bj ha hv;have e:=bi ha;subst e;have e:=qI hv;subst e;exact⟨[],[],.nil,.nil,rfl,λj v p h=>by simp at h⟩
 |cons kd ps ih=>
  intro vs Bj ha hv;obtain⟨k,d⟩:=kd;rw[xz]at ha;obtain⟨v,vs',rfl,h,t⟩:=j4 ha;obtain⟨u,us',rfl,r,rs⟩:=rP hv;obtain⟨ks,prs,h1,h2,h3,h4⟩:=ih vs' us' t rs;obtain⟨w2,u2,a2,r2,pa⟩:=jm I hr h r;refine⟨(k,w2)::ks,(k,u2)::prs,.cons ⟨rfl,r2⟩ h1,.cons ⟨rfl,a2⟩ h2,by rw[AO,AO,h3],λj v p hv hp=>?_⟩;cases j with
  |zero=>rw[G1]at hv hp;cases hv;cases hp;exact pa
  |succ j=>rw[G3]at hv hp;exact h4 j v p hv hp
theorem uG (hc:X.calm=true)(I:A6 X Ad U H s)(r:BF xs us)(hr:HR X.K H M Z)(a:Ds Z xs [x])(e:Bo M x=some (Gj ps))(hz:ps.length<=Am)
  (q:∀ks p,Cu Z ks (Gi [] ps)->H p=none->Q (.ref p) (CD H p (.dK ks))):Aq (Ax X.prog X.w) X.A (IE (.type "dict") us) (EP X Ad U Q) X.xe s:=by
 obtain⟨v,rfl,a1⟩:=JL a;obtain⟨p,vs,rfl,hs,a2⟩:=hr.rdL e a1;obtain⟨u,rfl,ru⟩:=HA r;have eu:=ru;subst eu;obtain⟨Bj,rv,⟨o,n,e2,c2,d2,s2⟩,_⟩:=I.list hs;obtain⟨ks,prs,h1,h2,h3,h4⟩:=qa I hr ps vs Bj a2 rv;obtain⟨oc,od,oa,os⟩:=o;simp only at c2 d2 s2;subst c2 d2 s2;have hl:ps.length=prs.length:=by rw[<- DV h2];exact h1.length
 refine r9 (I.ok.hd hc) e2 (by rw[A4];exact h3) (by rw[<- hl];exact hz) (λj v p hv hp=>h4 j v p (by rw[DU]at hv;exact hv) hp) λh' tk hk dd=>?_;have kk:=rW h1 .nil
 have hm:(mergeK [] ks).length<=Am:=by
  have:=tS ks [];rw[FD,ES,DV h2]at this;ext
 exact⟨.ref s.heap.objs.size,_,I.laid hk (AJ _) (ZF hm (beq_eq_false_iff_ne.mpr (Bg (A5 I.big))) kk dd),rfl,q _ _ (uN h2 .nil) (I.hok.fresh (AJ _))⟩
unseal BL
theorem iO (hc:X.calm=true):BL X (.type "dict") (λxs M Q=>GJ xs λx=>∃ps,Bo M x=some (Gj ps)/\ps.length<=Am/\Q (.dic (Gi [] ps)) M):=by
 intro Ad s U H xs us Q I r;ext1⟨Z,ds,M,Q2,hr,a,h,k⟩;obtain⟨x,rfl,ps,e,hz,q⟩:=GW h;exact uG hc I r hr a e hz λks p a2 hp=>k.fd hr hp a2 q
theorem j1 (hc:X.calm=true):BL X (.type "dict") (λxs M Q=>GJ xs λx=>∃ps,Bo M x=some (Gj ps)/\ps.length<=Am/\∀p,M p=none->Q (.ref p) (put M p (.dic (Gi [] ps)))):=by
 intro Ad s U H xs us Q I r;ext1⟨Z,ds,M,Q2,hr,a,h,k⟩;obtain⟨x,rfl,ps,e,hz,q⟩:=GW h;exact uG hc I r hr a e hz λks p a2 hp=>k.d hr hp a2 q
end
end L3
namespace L2
open PySem PySem.Spec PyProof.Rows L3
theorem qQ:∀{zs:List Str}{Bj:List Ah},BF (zs.map V.str) Bj->∃l,Bj=strValues l/\l.map (·.1)=zs
 |[],Bj,h=>by
  have e:=qI h;subst e;exact⟨[],rfl,rfl⟩
 |z::zs,Bj,h=>by
  obtain⟨u,r,rfl,hu,t⟩:=rP h;obtain⟨tk,rfl⟩:=(show∃tk,u=C2 z tk from hu);obtain⟨l,rfl,e⟩:=qQ t;exact⟨(z,tk)::l,rfl,by rw[AM,e]⟩
theorem cM (h:n<=1000):n<=Am:=by rw[Hn];ext
def Ii (zs:List Str):Nat:=(zs.map bO).sum
theorem sP {sep:Str}(hs:sep.length=0):∀zs a,(zs.foldl (λacc p=>acc++sep.cps++p.cps) a).size=a.size+Ii zs
 |[],a=>by simp[Ii]
 |z::zs,a=>by
  rw[CC,sP hs zs];have h1:sep.cps.size=0:=hs;rw[FU,FU,h1];unfold Ii;rw[AM,TJ];show a.size+0+z.length+_=_;ext
theorem aB {sep:Str}(hs:sep.length=0)(zs:List Str):(Fy sep zs).length=Ii zs:=by
 unfold Fy;show(O1 _)=_;rw[sP hs];cases zs with
 |nil=>rfl
 |cons z zs=>rfl
section
theorem tG {sep:Str}(hs:sep.length=0):∀zs n,zs.foldl (λacc p=>acc+p.length+sep.length) n=n+Ii zs
 |[],n=>by simp[Ii]
 |z::zs,n=>by
  rw[CC,tG hs zs,hs];unfold Ii;rw[AM,TJ];ext
end
end L2
namespace L3
open PySem PySem.Spec PyProof.Rows L2
section
unseal EI Cq
end
end L3
namespace L3
open PySem PySem.Spec PyProof.Rows L2
unseal Cq
end L3
namespace L3
open PySem PySem.Spec PyProof.Rows L2
unseal Cq
unseal BX
end L3
namespace L3
open PySem PySem.Spec PyProof.Rows L2
theorem Uj (hr:Dt k A):A.units+41<Dk:=Fh (Jg (by decide:41<=64) _) hr.units
def Kw (xs:List D)(k:D->D->D->Prop):Prop:=match xs with
 |[x,y,z]=>k x y z
 |_=>False
def XN (xs:List D)(k:D->D->D->D->Prop):Prop:=match xs with
 |[x,y,z,w]=>k x y z w
 |_=>False
def Zl (xs:List D)(k:D->D->D->D->D->Prop):Prop:=match xs with
 |[x,y,z,w,v]=>k x y z w v
 |_=>False
theorem RP (h:Kw xs k):∃x y z,xs=[x,y,z]/\k x y z:=by
 match xs,h with
 |[x,y,z],h=>exact⟨x,y,z,rfl,h⟩
theorem XO (h:XN xs k):∃x y z w,xs=[x,y,z,w]/\k x y z w:=by
 match xs,h with
 |[x,y,z,w],h=>exact⟨x,y,z,w,rfl,h⟩
theorem Ub (h:Zl xs k):∃x y z w v,xs=[x,y,z,w,v]/\k x y z w v:=by
 match xs,h with
 |[x,y,z,w,v],h=>exact⟨x,y,z,w,v,rfl,h⟩
theorem ar :Kw [x,y,z] k=k x y z:=rfl
theorem yM :XN [x,y,z,w] k=k x y z w:=rfl
theorem yN :Zl [x,y,z,w,v] k=k x y z w v:=rfl
theorem Ym (h0:0<=i)(h1:i<(xs.length:Int)):∃v,GY xs i=some v/\v∈xs:=by
 obtain⟨j,rfl⟩:∃j:Nat,i=(j:Int):=⟨i.toNat,by ext⟩;have hk:j<xs.length:=by ext
 exact⟨xs[j],Oc (Ag hk),JA hk⟩
section
theorem Xu:Ie 0 (some d::τ) M Q=Q d M:=rfl
theorem Xs :Ie 1 (a0::some d::τ) M Q=Q d M:=rfl
theorem dN :HC 1 te E (a0::o::τ) M=te (a0::o::τ) M λx M1=>E.nx (a0::some x::τ) M1:=rfl
theorem Xr :Ie 2 (a0::a1::some d::τ) M Q=Q d M:=rfl
theorem dM :HC 2 te E (a0::a1::o::τ) M=te (a0::a1::o::τ) M λx M1=>E.nx (a0::a1::some x::τ) M1:=rfl
theorem dY :J3 2 d (a0::a1::o::τ) k=k (a0::a1::some d::τ):=rfl
theorem Xq :Ie 3 (a0::a1::a2::some d::τ) M Q=Q d M:=rfl
theorem XA :HC 3 te E (a0::a1::a2::o::τ) M=te (a0::a1::a2::o::τ) M λx M1=>E.nx (a0::a1::a2::some x::τ) M1:=rfl
theorem dX :J3 3 d (a0::a1::a2::o::τ) k=k (a0::a1::a2::some d::τ):=rfl
theorem Xp :Ie 4 (a0::a1::a2::a3::some d::τ) M Q=Q d M:=rfl
theorem Xz :HC 4 te E (a0::a1::a2::a3::o::τ) M=te (a0::a1::a2::a3::o::τ) M λx M1=>E.nx (a0::a1::a2::a3::some x::τ) M1:=rfl
theorem dU :J3 4 d (a0::a1::a2::a3::o::τ) k=k (a0::a1::a2::a3::some d::τ):=rfl
theorem Xo :Ie 5 (a0::a1::a2::a3::a4::some d::τ) M Q=Q d M:=rfl
theorem Xy :HC 5 te E (a0::a1::a2::a3::a4::o::τ) M=te (a0::a1::a2::a3::a4::o::τ) M λx M1=>E.nx (a0::a1::a2::a3::a4::some x::τ) M1:=rfl
theorem dS :J3 5 d (a0::a1::a2::a3::a4::o::τ) k=k (a0::a1::a2::a3::a4::some d::τ):=rfl
theorem dC :Ie 6 (a0::a1::a2::a3::a4::a5::some d::τ) M Q=Q d M:=rfl
theorem dJ :HC 6 te E (a0::a1::a2::a3::a4::a5::o::τ) M=te (a0::a1::a2::a3::a4::a5::o::τ) M λx M1=>E.nx (a0::a1::a2::a3::a4::a5::some x::τ) M1:=rfl
theorem dR :J3 6 d (a0::a1::a2::a3::a4::a5::o::τ) k=k (a0::a1::a2::a3::a4::a5::some d::τ):=rfl
theorem dA :Ie 7 (a0::a1::a2::a3::a4::a5::a6::some d::τ) M Q=Q d M:=rfl
theorem dI :HC 7 te E (a0::a1::a2::a3::a4::a5::a6::o::τ) M=te (a0::a1::a2::a3::a4::a5::a6::o::τ) M λx M1=>E.nx (a0::a1::a2::a3::a4::a5::a6::some x::τ) M1:=rfl
theorem dQ :J3 7 d (a0::a1::a2::a3::a4::a5::a6::o::τ) k=k (a0::a1::a2::a3::a4::a5::a6::some d::τ):=rfl
theorem cZ :Ie 8 (a0::a1::a2::a3::a4::a5::a6::a7::some d::τ) M Q=Q d M:=rfl
theorem dH :HC 8 te E (a0::a1::a2::a3::a4::a5::a6::a7::o::τ) M=te (a0::a1::a2::a3::a4::a5::a6::a7::o::τ) M λx M1=>E.nx (a0::a1::a2::a3::a4::a5::a6::a7::some x::τ) M1:=rfl
theorem cY :Ie 9 (a0::a1::a2::a3::a4::a5::a6::a7::a8::some d::τ) M Q=Q d M:=rfl
theorem dG :HC 9 te E (a0::a1::a2::a3::a4::a5::a6::a7::a8::o::τ) M=te (a0::a1::a2::a3::a4::a5::a6::a7::a8::o::τ) M λx M1=>E.nx (a0::a1::a2::a3::a4::a5::a6::a7::a8::some x::τ) M1:=rfl
theorem dP :J3 9 d (a0::a1::a2::a3::a4::a5::a6::a7::a8::o::τ) k=k (a0::a1::a2::a3::a4::a5::a6::a7::a8::some d::τ):=rfl
theorem zG :Ie 10 (a0::a1::a2::a3::a4::a5::a6::a7::a8::a9::some d::τ) M Q=Q d M:=rfl
theorem yR :HC 10 te E (a0::a1::a2::a3::a4::a5::a6::a7::a8::a9::o::τ) M=te (a0::a1::a2::a3::a4::a5::a6::a7::a8::a9::o::τ) M λx M1=>E.nx (a0::a1::a2::a3::a4::a5::a6::a7::a8::a9::some x::τ) M1:=rfl
theorem zH :Ie 11 (a0::a1::a2::a3::a4::a5::a6::a7::a8::a9::a10::some d::τ) M Q=Q d M:=rfl
theorem yS :HC 11 te E (a0::a1::a2::a3::a4::a5::a6::a7::a8::a9::a10::o::τ) M=te (a0::a1::a2::a3::a4::a5::a6::a7::a8::a9::a10::o::τ) M λx M1=>E.nx (a0::a1::a2::a3::a4::a5::a6::a7::a8::a9::a10::some x::τ) M1:=rfl
theorem zI :Ie 12 (a0::a1::a2::a3::a4::a5::a6::a7::a8::a9::a10::a11::some d::τ) M Q=Q d M:=rfl
theorem yT :HC 12 te E (a0::a1::a2::a3::a4::a5::a6::a7::a8::a9::a10::a11::o::τ) M=te (a0::a1::a2::a3::a4::a5::a6::a7::a8::a9::a10::a11::o::τ) M λx M1=>E.nx (a0::a1::a2::a3::a4::a5::a6::a7::a8::a9::a10::a11::some x::τ) M1:=rfl
theorem lB:uC d τ M Q=Q d M:=rfl
theorem XB :Vo r ta tb τ M Q=ta τ M λx M1=>tb τ M1 λy M2=>r x y M2 Q:=rfl
theorem oT:OB te τ M QT=te τ M λx M1=>Q5 x λc=>QT c M1:=rfl
theorem nh :NU r r' ta tb tc τ M Q=ta τ M λx M1=>tb τ M1 λy M2=>r x y M2 λz M3=>Q5 z λk=>if k=true then tc τ M3 λw M4=>r' y w M4 Q else Q (.bl false) M3:=rfl
theorem Xv :kO r ta τ M Q=ta τ M λx M1=>r x M1 Q:=rfl
theorem zO:W1 t1 t2 τ M QT=t1 τ M λc M1=>if c=true then t2 τ M1 QT else QT false M1:=rfl
theorem dO:kS t1 t2 τ M QT=t1 τ M λc M1=>if c=true then QT true M1 else t2 τ M1 QT:=rfl
theorem am:WU t1 τ M QT=t1 τ M λc M1=>QT (!c) M1:=rfl
theorem gz:SR ta tb τ M Q=ta τ M λx M1=>Q5 x λc=>if c=true then tb τ M1 Q else Q (.bl false) M1:=rfl
theorem yO:WT ta tb τ M Q=ta τ M λx M1=>Q5 x λc=>if c=true then Q (.bl true) M1 else tb τ M1 Q:=rfl
theorem XC:kT t1 ta tb τ M Q=t1 τ M λc M1=>if c=true then ta τ M1 Q else tb τ M1 Q:=rfl
theorem eA :kU ds τ M QA=QA ds M:=rfl
theorem mT:TW τ M QA=QA [] M:=rfl
theorem oS:SO te tA τ M QA=te τ M λx M1=>tA τ M1 λxs M2=>QA (x::xs) M2:=rfl
theorem nA:WL tA τ M Q=tA τ M λxs M1=>xs.length<=Am/\Q (.tup xs) M1:=rfl
theorem ff:SI tA τ M Q=tA τ M λxs M1=>xs.length<=Am/\Q (.lst xs) M1:=rfl
theorem aj:WV tA τ M Q=tA τ M λxs M1=>xs.length<=Am/\∀p,M1 p=none->Q (.ref p) (put M1 p (.lst xs)):=rfl
theorem eC :Zg r tA τ M Q=tA τ M λxs M1=>r xs M1 Q:=rfl
theorem g9 :SQ sp tA τ M Q=tA τ M λxs M1=>sp xs M1 Q:=rfl
theorem qz:OC τ M QO=QO none M:=rfl
theorem fo:SE te τ M QO=te τ M λx M1=>EH x λi=>QO (some i) M1:=rfl
theorem dF :kP r te tl th τ M Q=te τ M λx M1=>tl τ M1 λl M2=>th τ M2 λu M3=>r x l u M3 Q:=rfl
theorem fi:SF E τ M=E.nx τ M:=rfl
theorem mZ:WN s1 s2 E τ M=s1 {E with nx:=s2 E} τ M:=rfl
theorem al:P6 E τ M=False:=rfl
theorem ii:SJ te E τ M=te τ M λ_ M1=>E.nx τ M1:=rfl
theorem mX:WR te E τ M=te τ M E.rt:=rfl
theorem aa:WW tt s1 s2 E τ M=tt τ M λb M1=>if b=true then s1 E τ M1 else s2 E τ M1:=rfl
theorem zQ :TY te g E τ M=te τ M λx M1=>g x τ λτ'=>E.nx τ' M1:=rfl
theorem zY :WY ti g s1 E τ M=ti τ M λxs S M1=>UV xs S g s1 E τ M1:=rfl
theorem dE:kQ te τ M Q=te τ M λx M1=>CH (Bo M1 x) λds=>CH (DX ds) λxs=>xs.length+1<A9/\(fm xs).length<64/\∀p,M1 p=none->Q (.ref p) (put M1 p (.lst ((HE xs).map D.str))):=rfl
theorem zC:WP te τ M Q=te τ M λx M1=>CH (Bo M1 x) λds=>CH (DX ds) λxs=>xs.length+1<A9/\(fm xs).length<64/\Q (.lst ((HE xs).map D.str)) M1:=rfl
theorem on :SA te τ M R=te τ M λx M1=>CH (Bo M1 x) λxs=>R xs (λM=>Bo M x=some xs) M1:=rfl
theorem oo :Sz tA τ M R=tA τ M λxs M1=>GJ xs λx=>EH x λj=>(-(2^62)<=j/\j<2^62)/\R (NW 0 j.toNat) (λ_=>True) M1:=rfl
theorem nj :II wi caps tt te τ M Q=wi τ M λxs S M1=>F4 xs S caps tt te τ M1 λys M2=>Q (.lst ys) M2:=rfl
theorem ib :P8 wi caps tt te τ M Q=wi τ M λxs S M1=>F4 xs S caps tt te τ M1 λys M2=>∀p,M2 p=none->Q (.ref p) (put M2 p (.lst ys)):=rfl
theorem eE :kW T r te tA τ M Q=te τ M λx M1=>Nl M1 x=some T/\tA τ M1 λxs M2=>r x xs M2 Q:=rfl
theorem zR :W0 T r te τ M Q=te τ M λx M1=>Nl M1 x=some T/\r x [] M1 Q:=rfl
theorem ie:SM τ M Q=∀p,M p=none->Q (.ref p) (put M p (.dic [])):=rfl
theorem ig:SK ta tb tc E τ M=tc τ M λv M1=>ta τ M1 λx M2=>tb τ M2 λy M3=>J2 x λp=>Q4 y λk=>KR (M3 p) λAQ=>AQ.length<Am/\E.nx τ (put M3 p (.dic (Ih AQ k v))):=rfl
theorem ic:SN ta tb τ M Q=ta τ M λx M1=>tb τ M1 λy M2=>CH (Eu M2 x) λAQ=>Q4 y λk=>CH (DL AQ k) λv=>Q v M2:=rfl
theorem gf :WI tA τ M R=tA τ M λds M1=>Fq ds λx y=>CH (Bo M1 x) λxs=>CH (Bo M1 y) λys=>R (Lu xs ys) (λM=>Bo M x=some xs/\Bo M y=some ys) M1:=rfl
theorem gb :TU te τ M R=te τ M λx M1=>CH (X7 x) λAQ=>R (AQ.map λp=>kD p.1) (λ_=>True) M1:=rfl
theorem qy :LY wi n caps tt te τ M Q=wi τ M λxs S M1=>Kc n xs S caps tt te τ M1 λys M2=>Q (.lst ys) M2:=rfl
theorem gc :WK te τ M R=te τ M λx M1=>GI x λz=>(z.cps.all λc=>decide (c<128))=true/\R (KO z) (λ_=>True) M1:=rfl
theorem zU :X7 (.dic AQ)=some AQ:=rfl
theorem ga:Gy τ M QT=QT true M:=rfl
theorem zZ:WX te τ M Q=te τ M λd M1=>J2 d λp=>match M1 p with | some (.lst ds)=>Q (.lst ds) (Lc M1 p) | some (.dic ds)=>Q (.dic ds) (Lc M1 p) | some (.dct ds)=>Q (.dct ds) (Lc M1 p) | _=>False:=rfl
theorem ge :WJ te τ M R=te τ M λx M1=>match x with | .tup xs=>R xs (λ_=>True) M1 | _=>False:=rfl
end
section
theorem mW :EH (.int i) k=k i:=rfl
theorem gC :Q5 (.bl b) k=k b:=rfl
theorem Yc :GI (.str z) k=k z:=rfl
theorem Tc :J2 (.ref p) k=k p:=rfl
theorem Cn :CH (some a) k=k a:=rfl
theorem fj :Q4 (.int i) k=k (.inl i):=rfl
theorem gO :Q4 (.str z) k=k (.inr z):=rfl
theorem Uu :KR (some (.dic AQ)) k=k AQ:=rfl
theorem zT :Eu M (.dic AQ)=some AQ:=rfl
theorem oh :KR (put M p (.dic AQ) p) k=k AQ:=by simp[KR,DN]
theorem lL (h:M p=some (.dic AQ)):Eu M (.ref p)=some AQ:=by simp[Eu,h]
theorem ab :T3 n x y M Q=CH (Eu M y) λAQ=>Q4 x λk=>Q (.bl (if n then !(DL AQ k).isSome else(DL AQ k).isSome)) M:=rfl
theorem ag:Xj x y M Q=GI x λz=>EH y λi=>z.length<=Am/\CH (GY z.cps.toList i) λc=>Q (.str ⟨#[c]⟩) M:=rfl
theorem yX :Xh x l u M Q=GI x λz=>z.length<=Am/\Q (.str (Bi z l u)) M:=rfl
theorem gB :GJ [x] k=k x:=rfl
theorem mV :Fq [x,y] k=k x y:=rfl
theorem Xx :sI C g (.int i) (.int j) M Q=(C i j/\Q (g i j) M):=rfl
theorem mY :Qe g (.int i) (.int j) M Q=Q (g i j) M:=rfl
theorem Xw :sU g (.int i) M Q=Q (g i) M:=rfl
theorem nF:Xm false (.int i) (.int j) M Q=(true=true/\Q (.bl (decide (i=j))) M):=rfl
theorem ak:Xm true (.int i) (.int j) M Q=(true=true/\Q (.bl (!decide (i=j))) M):=rfl
theorem zW :Xm false (.str z) (.str z') M Q=(true=true/\Q (.bl (decide (z=z'))) M):=rfl
theorem ae :Xl c [x,.ty c'] M Q=(c'=c/\CH (Nl M x) λt=>CH (N8 t c) λb=>Q (.bl b) M):=rfl
theorem ah:L5 (.tup xs) (.int i) M Q=CH (GY xs i) λv=>Q v M:=rfl
theorem af:Xk x y M Q=CH (Bo M x) λxs=>EH y λi=>CH (GY xs i) λv=>Q v M:=rfl
theorem yW :Xi x l u M Q=CH (Bo M x) λxs=>Q (.lst (cutD xs l u)) M:=rfl
theorem yY :Xg (.tup xs) l u M Q=(¬(HT.sIx xs.length 0 l=0/\HT.sIx xs.length xs.length u=xs.length)/\Q (.tup (cutD xs l u)) M):=rfl
theorem ia:SW x y M Q=CH (Bo M x) λxs=>CH (Bo M y) λys=>xs.length+ys.length<=Am/\Q (.lst (xs++ys)) M:=rfl
theorem im :Qf n (.tup xs) (.tup ys) M Q=CH (Gk (Ek M 40) xs ys) λb=>Q (.bl (if n then !b else b)) M:=rfl
theorem il :Qf n (.lst xs) y M Q=CH (Bo M y) λys=>CH (Gk (Ek M 40) xs ys) λb=>Q (.bl (if n then !b else b)) M:=rfl
theorem nu:DE (.int i)=true:=rfl
theorem nv:DE (.str z)=true:=rfl
theorem ij:Kx (.int i) (.int j)=decide (i=j):=rfl
theorem ik :Kx (.str z) (.str z')=decide (z=z'):=rfl
theorem dZ :kY n x y M Q=CH (IJ M y) λys=>ys.all DE=true/\DE x=true/\Q (.bl (if n then !(ys.any λz=>Kx z x)else ys.any λz=>Kx z x)) M:=rfl
theorem nH:Bo M (.lst xs)=some xs:=rfl
theorem yZ:IJ M (.lst xs)=some xs:=rfl
theorem zB:IJ M (.tup xs)=some xs:=rfl
theorem ai:Bo (put M p (.lst xs)) (.ref p)=some xs:=by simp[Bo,DN]
theorem zA:IJ (put M p (.lst xs)) (.ref p)=some xs:=by simp[IJ,Bo,DN]
theorem OH (h:M p=some (.lst xs)):Bo M (.ref p)=some xs:=by simp[Bo,h]
theorem oj:Nl M (.int i)=some "int":=rfl
theorem om:Nl M (.str z)=some "str":=rfl
theorem uh:Nl M (.tup xs)=some "tuple":=rfl
theorem zF:Nl (put M p (.lst xs)) (.ref p)=some "list":=Vp DN
theorem Zeh:N8 "int" "tuple" = some false:=by nofun
theorem Zeg:N8 "str" "tuple" = some false:=by nofun
theorem Zd5:N8 "tuple" "tuple" = some true:=by nofun
theorem Q9 :GY (x::xs) 0=some x:=Oc rfl
theorem lV :GY (x::y::xs) 1=some y:=Oc rfl
theorem xL :GY (x::y::z::xs) 2=some z:=Oc rfl
theorem xK :GY (x::y::z::w::xs) 3=some w:=Oc rfl
theorem zD :Xf h T (.ref h) (.str z) M Q=(h=h/\CH (T.lookup z) λv=>Q (.int v) M):=rfl
theorem zP:Jn (.ref p) [x] (put M p (.lst xs)) Q=(xs.length<Am/\Q .non (put M p (.lst (xs++[x])))):=by simp[Jn,J2,GJ,DN,R7]
theorem nG :Ga (.ref p) [.lst zs] (put M p (.lst xs)) Q=(xs.length+zs.length<=Am/\Q .non (put M p (.lst (xs++zs)))):=by simp[Ga,J2,GJ,DN,R7,Bo,CH]
theorem nk :NT wi n caps tt te τ M Q=wi τ M λxs S M1=>Kc n xs S caps tt te τ M1 λys M2=>∀p,M2 p=none->Q (.ref p) (put M2 p (.lst ys)):=rfl
theorem nz :CH (Eu M (.dic AQ)) k=k AQ:=rfl
theorem Kj :Ej (n::N) (d::ds)=some d::Ej N ds:=rfl
theorem Kh :Ej (n::N) []=none::Ej N []:=rfl
theorem Ki:Ej [] []=[]:=rfl
theorem zS :Md τ caps v=v::caps.map λc=>(τ[c.2]?).join:=rfl
end
theorem rj (xs){k:Nat}:cutD xs (some (k:Int)) none=xs.drop k:=by
 unfold cutD;rw[HT.sIx_none,HT.sIx_nat];by_cases h:k<=xs.length
 .rw[Nat.min_eq_left h,CB (by rw[FV];exact AJ _)]
 .rw[Nat.min_eq_right (by ext),Jx,Sw,List.drop_eq_nil_of_le (by ext)]
theorem uF (xs){k:Int}(h:0<=k):cutD xs (some k) none=xs.drop k.toNat:=by
 have e:k=((k.toNat:Nat):Int):=by ext
 rw[e,rj,BN]
theorem bb :cutD (x::r) (some 1) (some 1)=[]:=by
 unfold cutD;rw[show(some (1:Int))=some ((1:Nat):Int)from rfl,HT.sIx_nat,HT.sIx_nat,Jx,Sw]
theorem gG (h:k=1+(ks.length:Int)):cutD (x::(ks++more)) (some 1) (some k)=ks:=by
 subst h;unfold cutD
 have e1:HT.sIx (x::(ks++more)).length 0 (some 1)=1:=by
  rw[show(some (1:Int))=some ((1:Nat):Int)from rfl,HT.sIx_nat,AO];ext
 have e2:HT.sIx (x::(ks++more)).length (x::(ks++more)).length (some (1+(ks.length:Int)))=1+ks.length:=by
  rw[show(1+(ks.length:Int))=((1+ks.length:Nat):Int) by ext,HT.sIx_nat,AO,Ao];ext
 rw[e1,e2,List.drop_succ_cons,LQ,Hf,List.take_left]
theorem bc :cutD (x::a::r) (some 1) (some 2)=[a]:=gG (ks:=[a]) rfl
theorem bd :cutD (x::a::b::r) (some 1) (some 3)=[a,b]:=gG (ks:=[a,b]) rfl
theorem be :cutD (x::a::b::c::r) (some 1) (some 4)=[a,b,c]:=gG (ks:=[a,b,c]) rfl
theorem cN :HT.sIx (n+1) 0 (some 1)=1:=by
 rw[show(some (1:Int))=some ((1:Nat):Int)from rfl,HT.sIx_nat];ext
theorem Pb {α:Type}{g:α->D}{xs:List α}{i:Nat}{d:D}(h:(xs.map g)[i]? = some d):∃x,xs[i]? = some x/\d=g x:=by
 rw[AL]at h;cases e:xs[i]? with
 |none=>rw[e]at h;cases h
 |some x=>rw[e]at h;exact⟨x,rfl,(Ba h).symm⟩
noncomputable def IN:List D->Option (List Int)
 |[]=>some []
 |.int n::r=>(IN r).map (n::·)
 |_::_=>none
theorem aF:∀ns,IN (ns.map D.int)=some ns
 |[]=>rfl
 |n::r=>by rw[AM,IN,aF r];rfl
theorem tD:∀{xs:List D}{ns:List Int},IN xs=some ns->xs=ns.map D.int
 |[],ns,h=>by cases h;rfl
 |x::r,ns,h=>by
  cases x with
  |int n=>
   rw[IN]at h;cases e:IN r with
   |none=>rw[e]at h;cases h
   |some ms=>rw[e]at h;cases h;rw[tD e];rfl
  |_=>cases h
theorem sx (h:Bo M x=some xs):IJ M x=some xs:=by
 cases x with
 |tup ys=>cases h
 |_=>exact h
def Kk (M:Mp)(x:D)(k:List Int->Prop):Prop:=CH (Bo M x) λxs=>CH (IN xs) k
theorem Yh (h:Kk M x k):∃ns,Bo M x=some (ns.map D.int)/\IJ M x=some (ns.map D.int)/\k ns:=by
 obtain⟨xs,e,h1⟩:=Cr h;obtain⟨ns,e2,q⟩:=Cr h1;rw[tD e2]at e;exact⟨ns,e,sx e,q⟩
theorem og :Kk M (.lst (ns.map D.int)) k=k ns:=by unfold Kk;rw[nH,Cn,aF,Cn]
theorem ox (M)(n)(a b):Ek M n (.int a) (.int b)=some (decide (a=b)):=by cases n<;>rfl
theorem j2 (M)(n)(a b)(xs ys):Gk (Ek M n) (.int a::xs) (.int b::ys)=(Gk (Ek M n) xs ys).map (decide (a=b) && ·):=by
 rw[Gk,ox];cases Gk (Ek M n) xs ys<;>rfl
theorem j3 :Gk f [] []=some true:=rfl
theorem fL:((2:Nat):Int)=2:=rfl
theorem oy (M)(n)(xs):Gk (Ek M n) xs []=some xs.isEmpty:=by cases xs<;>rfl
theorem none_of (s:Sub M M')(h:M' p=none):M p=none:=by
 cases e:M p with
 |none=>rfl
 |some o=>rw[s p o e]at h;cases h
theorem iM (h:put M p o q=none):M q=none:=by
 unfold put at h;split at h
 .cases h
 .exact h
theorem UG {K:Ac}(no:∀ds M Q,¬sp ds M Q):FnOk P w K mg base CX0 k f fd ps (lSp K sp):=
 ⟨λvs H Q E ⟨Z,ds,M,Q2,_,_,h,_⟩=>absurd h (no ds M Q2),λA outer s H args us vs Q E _ _ _ _ ⟨Z,ds,M,Q2,_,_,h,_⟩=>absurd h (no ds M Q2)⟩
theorem Ta (s:Sub M M')(h:Q d M):Dn Q d M':=⟨M,s,h⟩
theorem HD (h:n<=1000):n<=Am:=FW (B5 h)
theorem MS (h:0<j)(h2:j<1073741824):Sl i j:=⟨h,h2⟩
theorem kX (h:n<=1000):(n<=Am)=True:=eq_true (HD h)
section
variable {P:Bs}{w:BG}{K:Ac}{mg:Str->Option Ah}{base:CU}{x qual:Str}{st:DC}{f:Av}{fd:Dm}{N ps:List Str}{k:Nat}
theorem CM.p1 {B:D->Mp->Eb->Prop}(F:CM K x qual st f fd)(N:List Str)
  (hb:∀ {cdv:Ah} {A:Ck} {outer:List Env} {s:Ap} {H:Hp} {E:XK} (d0:D) (M:Mp) (Q:Eb),Dt k (A.deeper (FE qual (IP st) s.heap.objs.size f cdv))->N.Nodup->B d0 M Q ->
   ∃ t:HH,Du (Kn CX0 P w K mg base N qual (IP st) f cdv A outer s H E).nox (N9 st) t/\t { nx:=λ_ M'=>Dn Q .non M',rt:=Dn Q } (Ej N [d0]) M) (S:EM N ps (IP st):=by exact ⟨rfl,rfl,rfl,by nofun,rfl,by nofun,by nofun⟩) (hl:ps.length=1:=by rfl):FnOk P w K mg base CX0 (k+1) f fd ps (lSp K λds M Q=>GJ ds λd0=>B d0 M Q) :=
 CM.ok2 F S (λds M Q h=>by obtain⟨d0,rfl,_⟩:=GW h;exact hl.symm) λcdv A outer s H E ds M Q hr h=>by
  obtain⟨d0,rfl,h⟩:=GW h;exact hb d0 M Q hr S.nd h
theorem CM.p2 {B:D->D->Mp->Eb->Prop}(F:CM K x qual st f fd)(N:List Str)
  (hb:∀ {cdv:Ah} {A:Ck} {outer:List Env} {s:Ap} {H:Hp} {E:XK} (d0 d1:D) (M:Mp) (Q:Eb),Dt k (A.deeper (FE qual (IP st) s.heap.objs.size f cdv))->N.Nodup->B d0 d1 M Q ->
   ∃ t:HH,Du (Kn CX0 P w K mg base N qual (IP st) f cdv A outer s H E).nox (N9 st) t/\t { nx:=λ_ M'=>Dn Q .non M',rt:=Dn Q } (Ej N [d0,d1]) M) (S:EM N ps (IP st):=by exact ⟨rfl,rfl,rfl,by nofun,rfl,by nofun,by nofun⟩) (hl:ps.length=2:=by rfl):FnOk P w K mg base CX0 (k+1) f fd ps (lSp K λds M Q=>Fq ds λd0 d1=>B d0 d1 M Q) :=
 CM.ok2 F S (λds M Q h=>by obtain⟨d0,d1,rfl,_⟩:=L9 h;exact hl.symm) λcdv A outer s H E ds M Q hr h=>by
  obtain⟨d0,d1,rfl,h⟩:=L9 h;exact hb d0 d1 M Q hr S.nd h
theorem CM.p3 {B:D->D->D->Mp->Eb->Prop}(F:CM K x qual st f fd)(N:List Str)
  (hb:∀ {cdv:Ah} {A:Ck} {outer:List Env} {s:Ap} {H:Hp} {E:XK} (d0 d1 d2:D) (M:Mp) (Q:Eb),Dt k (A.deeper (FE qual (IP st) s.heap.objs.size f cdv))->N.Nodup->B d0 d1 d2 M Q ->
   ∃ t:HH,Du (Kn CX0 P w K mg base N qual (IP st) f cdv A outer s H E).nox (N9 st) t/\t { nx:=λ_ M'=>Dn Q .non M',rt:=Dn Q } (Ej N [d0,d1,d2]) M) (S:EM N ps (IP st):=by exact ⟨rfl,rfl,rfl,by nofun,rfl,by nofun,by nofun⟩) (hl:ps.length=3:=by rfl):FnOk P w K mg base CX0 (k+1) f fd ps (lSp K λds M Q=>Kw ds λd0 d1 d2=>B d0 d1 d2 M Q) :=
 CM.ok2 F S (λds M Q h=>by obtain⟨d0,d1,d2,rfl,_⟩:=RP h;exact hl.symm) λcdv A outer s H E ds M Q hr h=>by
  obtain⟨d0,d1,d2,rfl,h⟩:=RP h;exact hb d0 d1 d2 M Q hr S.nd h
theorem CM.p4 {B:D->D->D->D->Mp->Eb->Prop}(F:CM K x qual st f fd)(N:List Str)
  (hb:∀ {cdv:Ah} {A:Ck} {outer:List Env} {s:Ap} {H:Hp} {E:XK} (d0 d1 d2 d3:D) (M:Mp) (Q:Eb),Dt k (A.deeper (FE qual (IP st) s.heap.objs.size f cdv))->N.Nodup->B d0 d1 d2 d3 M Q ->
   ∃ t:HH,Du (Kn CX0 P w K mg base N qual (IP st) f cdv A outer s H E).nox (N9 st) t/\t { nx:=λ_ M'=>Dn Q .non M',rt:=Dn Q } (Ej N [d0,d1,d2,d3]) M) (S:EM N ps (IP st):=by exact ⟨rfl,rfl,rfl,by nofun,rfl,by nofun,by nofun⟩) (hl:ps.length=4:=by rfl):FnOk P w K mg base CX0 (k+1) f fd ps (lSp K λds M Q=>XN ds λd0 d1 d2 d3=>B d0 d1 d2 d3 M Q) :=
 CM.ok2 F S (λds M Q h=>by obtain⟨d0,d1,d2,d3,rfl,_⟩:=XO h;exact hl.symm) λcdv A outer s H E ds M Q hr h=>by
  obtain⟨d0,d1,d2,d3,rfl,h⟩:=XO h;exact hb d0 d1 d2 d3 M Q hr S.nd h
theorem CM.p5 {B:D->D->D->D->D->Mp->Eb->Prop}(F:CM K x qual st f fd)(N:List Str)
  (hb:∀ {cdv:Ah} {A:Ck} {outer:List Env} {s:Ap} {H:Hp} {E:XK} (d0 d1 d2 d3 d4:D) (M:Mp) (Q:Eb),Dt k (A.deeper (FE qual (IP st) s.heap.objs.size f cdv))->N.Nodup->B d0 d1 d2 d3 d4 M Q ->
   ∃ t:HH,Du (Kn CX0 P w K mg base N qual (IP st) f cdv A outer s H E).nox (N9 st) t/\t { nx:=λ_ M'=>Dn Q .non M',rt:=Dn Q } (Ej N [d0,d1,d2,d3,d4]) M) (S:EM N ps (IP st):=by exact ⟨rfl,rfl,rfl,by nofun,rfl,by nofun,by nofun⟩) (hl:ps.length=5:=by rfl):FnOk P w K mg base CX0 (k+1) f fd ps (lSp K λds M Q=>Zl ds λd0 d1 d2 d3 d4=>B d0 d1 d2 d3 d4 M Q) :=
 CM.ok2 F S (λds M Q h=>by obtain⟨d0,d1,d2,d3,d4,rfl,_⟩:=Ub h;exact hl.symm) λcdv A outer s H E ds M Q hr h=>by
  obtain⟨d0,d1,d2,d3,d4,e1',h⟩:_:=Ub h;exact hb d0 d1 d2 d3 d4 M Q hr S.nd h
end
end L3
namespace SH
open PySem PySem.W PySem.Calls PyProof.Rows
noncomputable def Ob :List α->List α
 |a::_::l=>a::Ob l
 |[a]=>[a]
 |[]=>[]
theorem gU :∀(l:List α) (i:Nat),(Ob l)[i]? = l[2*i]?
 |[],i=>by simp[Ob]
 |[a],0=>by simp[Ob]
 |[a],i+1=>by simp[Ob,Y7]
 |a::b::l,0=>by simp[Ob]
 |a::b::l,i+1=>by simp only[Ob,G3,Y7,Nat.mul_one];exact gU l i
theorem gV :∀(l:List α),(Ob l).length=(l.length+1) / 2
 |[]=>by simp[Ob]
 |[a]=>by simp[Ob]
 |a::b::l=>by simp only[Ob,AO,gV l];ext
noncomputable def RQ:Nat->List Obj->BT
 |0,_=>.nil
 |_+1,[]=>.nil
 |n+1,o::l=>.node o (RQ n (Ob l)) (RQ n (Ob l.tail))
theorem iH:∀(n:Nat) (l:List Obj),l.length<2^n->∀i,(RQ n l).get i=l[i]?
 |0,l,h,i=>by
  have:=List.length_eq_zero_iff.mp (by simpa using h);subst this;simp[RQ,BT.get]
 |n+1,[],_,i=>by simp[RQ,BT.get]
 |n+1,o::l,h,i=>by
  have hl:l.length+1<2^n*2:=by simpa[Nat.pow_succ]using h
  have ha:(Ob l).length<2^n:=by rw[gV];ext
  have hb:(Ob l.tail).length<2^n:=by rw[gV,List.length_tail];ext
  unfold RQ;rw[BT.get_node,iH n _ ha,iH n _ hb,gU,gU];by_cases h0:i=0
  .subst h0;simp
  .rw[if_neg h0];by_cases p:i%2=1
   .rw[if_pos p,show 2*(i / 2)=i-1 by ext,Px];simp[h0]
   .rw[if_neg p,List.getElem?_tail,show 2*(i / 2-1)+1=i-1 by ext,Px];simp[h0]
theorem jx (h:l.length<2^n):absHeap (RQ n l) l.length life=⟨l.toArray,life⟩:=by
 have:((RQ n l).list l.length)=l:=by
  apply Fj;intro i;unfold BT.list;rw[AL];by_cases hi:i<l.length
  .rw[EA hi,Jz,iH n l h,Ag hi];rfl
  .rw[BJ (by rw[B3];ext),BJ (by ext)];rfl
 unfold absHeap;rw[this]
noncomputable def Kv (tb:String->Option Ea)(p:Bs)(w:BG)(n₀:Nat)(ann:Option Ah):Nat->Vi->Thread->Option Vi
 |0,_,_=>none
 |n+1,s,t=>match through t with
  |true=>some s
  |false=>match stepOk n₀ ann t with
   |false=>none
   |true=>match stepT (denote tb) p w s t with
    |some (s',t')=>Kv tb p w n₀ ann n s' t'
    |none=>none
theorem tO :∀{n:Nat}{s s':Vi}{t:Thread},Kv tb p w n₀ ann n s t=some s'->topRun tb p w n₀ ann n s.abs t=some s'.abs
 |0,_,_,_,h=>by cases h
 |n+1,s,s',t,h=>by
  unfold Kv at h;unfold topRun;cases he:through t with
  |true=>rw[he]at h;cases h;rfl
  |false=>
   rw[he]at h;cases hk:stepOk n₀ ann t with
   |false=>rw[hk]at h;cases h
   |true=>
    rw[hk]at h;cases hs:stepT (denote tb) p w s t with
    |none=>rw[hs]at h;cases h
    |some r=>obtain⟨s₂,t₂⟩:=r;rw[hs]at h;rw[stepT_spec hs];exact tO h
noncomputable def Uk (H₀:CU)(os:Vj):Vi:=⟨RQ 14 H₀.objs.toList,H₀.objs.toList.length,H₀.life,#[],NB,Pj,os⟩
theorem qk (H₀:CU)(os:Vj)(h:Nat.blt H₀.objs.toList.length (2^14)=true):(Uk H₀ os).abs=⟨H₀,#[],NB,Pj,os⟩:=by
 unfold Uk SharedT.abs;dsimp only;rw[jx (Op h)]
noncomputable def XV (p q:Bs)(loose:List Str)(Xt:Ap->Bool)(Yf:Ap->α)(H₀:CU)(s:Ap):=
 (staticsOk (ME p.main.body) H₀ s.heap && namesBound p s.heap && gensDone s && laidKept H₀ s.heap,openSeen q loose (ME p.main.body) Xt true s,Yf s)
noncomputable def whole (H₀:CU)(p q:Bs)(loose:List Str)(Xt:Ap->Bool)(Yf:Ap->α)(n₀:Nat)(ann:Option Ah)(M:Nat)(w:BG)(os:Vj):=
 (Kv V7 p w n₀ ann M (Uk H₀ os) (topStub p)).map λs=>XV p q loose Xt Yf H₀ s.abs
theorem left_of
  (e:opening p=plainProg p.main.scope.names) (hN:Nat.ble 600 N=true) (f:∀s,fenceModules? p s=some s) (hb:∀P,Nat.blt (Ef P).objs.toList.length (2^14)=true)
  (size:∀w:BG,((Ef w.params).isNs BY && (#[]:Array bR).size == 0,(Ef w.params).objs.size,(Ef w.params).nsMap BY "__annotations__")=(true,n₀,ann)) (le:Nat.ble M N=true)
  (run:∀w os,whole (Ef w.params) p q loose Xt Yf n₀ ann M w os=some (true,openGood q loose,Ya w)):LeftO p q loose Xt Yf Ya N:=λw=>by
 obtain⟨⟨h,gs,d,k,os⟩,e,e'⟩:=EN.mp (boot_open e hN f w);obtain⟨rfl,rfl,rfl,rfl⟩:h=Ef w.params/\gs=#[]/\d=NB/\k=Pj:=by simpa using e'
 obtain⟨z1,z2,z3⟩:_/\_/\_:=by simpa only[QQ]using size w
 obtain⟨s,hs,l⟩:=EN.mp (run w os);have r:=tO hs;rw[qk _ _ (hb _)]at r;have l1:(_ && _)=true:=congrArg Io l;have l2:=congrArg (λx=>x.2.1) l;have l3:=congrArg (λx=>x.2.2) l;have r:=topRun_mono (N-M) _ _ _ _ r;rw[show M+(N-M)=N by have:=Op le;ext]at r
 have t:topFrom V7 p w N ⟨Ef w.params,#[],NB,Pj,os⟩=some s.abs:=by
  unfold topFrom;dsimp only;rw[z1,z2,z3,r];show(match staticsOk (ME p.main.body) (Ef w.params) s.abs.heap && namesBound p s.abs.heap && gensDone s.abs && laidKept (Ef w.params) s.abs.heap with | true=>_ | false=>_)=_;rw[l1]
 unfold openEnds;rw[e];show(topFrom V7 p w N _).map _=_;rw[t];exact congrArg some (Su l2 l3)
end SH
namespace L3
open PySem PySem.Spec PyProof.Rows L2
section
unseal BL
theorem vU:∀{vs:List Ah}{ys:List Str},BF (ys.map V.str) vs->Lm vs ys
 |[],[],_=>.nil
 |v::vs,y::ys,.cons h t=>by
  obtain⟨u,rfl⟩:=h;exact .cons y u (vU t)
end
end L3
namespace L2
open PySem PySem.Spec PyProof.Rows
theorem Yy (h:-(2^62)<=a)(h':a<2^62):Ja a=true:=by
 unfold Ja;simp only[decide_eq_true_eq,BQ];ext
end L2
namespace L3
open PySem PySem.Spec PyProof.Rows L2
unseal BX HQ Jw Gc Ky GZ Du Cq FL BL Fv FM K2 Hs EI
theorem ats_strs :∀ss:List Str,Ds Z (ss.map V.str) (ss.map D.str)
 |[]=>.nil
 |_::r=>.cons rfl (ats_strs r)
def Ql (o:Option MO)(k:List D->Prop):Prop:=match o with
 |some (.lst xs)=>k xs
 |_=>False
theorem mH (h:Ql o k):∃xs,o=some (.lst xs)/\k xs:=by
 cases o with
 |none=>exact h.elim
 |some u=>cases u with
  |lst xs=>exact⟨xs,rfl,h⟩
  |_=>exact h.elim
end L3
namespace L2
open PySem PySem.Spec PyProof.Rows
section
variable {prog:Bs}{w:BG}{A:Ck}{E:Ah->Ap->Prop}{s:Ap}{r:Av}{a b:Int}{t u v:Tok}{Q:Ah->Ap->Prop}
end
end L2
namespace L3
open PySem PySem.Spec PyProof.Rows L2
unseal BX HQ Jw Gc Ky GZ Du Cq FL BL Fv FM K2 Hs EI
end L3
namespace L3
open PySem PySem.Spec PyProof.Rows L2
section
end
section
unseal EI BX Gc
end
unseal Cq
end L3
namespace L2
open PySem PySem.Spec PyProof.Rows
section
variable  {st:Cb}  {lo:Option Cb}
end
end L2
namespace L3
open PySem PySem.Spec PyProof.Rows L2
unseal BX HQ Jw Gc Ky GZ Du Cq FL BL Fv FM K2 Hs EI
section
variable  {st:Cb}  {lo:Option Cb}
noncomputable def S5:D->Bool
 |.non=>true
 |_=>false
theorem j8 (ax:At Z x dx):decide (x=V.non)=S5 dx:=by
 cases dx with
 |tup xs=>obtain⟨p,rfl,_⟩:=ax;rfl
 |lst xs=>obtain⟨p,rfl,_⟩:=ax;rfl
 |dic xs=>obtain⟨p,rfl,_⟩:=ax;rfl
 |dct xs=>obtain⟨p,rfl,_⟩:=ax;rfl
 |_=>cases ax;rfl
theorem mF:Cq X (Bd .Is) (λx y M Q=>y=.non/\Q (.bl (S5 x)) M):=Gd.mono bp (by
 intro x y H Q;ext1⟨Z,dx,dy,M,Q2,hr,ax,ay,h,k⟩;obtain ⟨rfl,q⟩:=h;cases (show y=V.non from ay);refine ⟨rfl,?_⟩;rw [j8 ax];exact k Z (.bl _) (.bl _) H M (Le.refl _) hr rfl q)
end
end L3
namespace PySem
open Sem (wp)
section
variable {prog:Bs}{w:BG}{A:Ck}{E:Ah->Ap->Prop}{s:Ap}{d it:Av}{es:Array H9}{i ep:Nat}
end
end PySem
namespace L3
open PySem PySem.Spec PyProof.Rows L2
unseal BX HQ Jw Gc Ky GZ Du Cq FL BL Fv FM K2 Hs EI
noncomputable def Gg (ks:List Cd):D:=.tup (ks.map kD)
section
variable {K:Ac}{H:Hp}{M:Mp}{Z:Zt}
end
section
variable {X:Cx}{pos pos':Pos}{o i value:Cb}{td ty tv:DG}
end
structure Mf (K:Ac)(C:Av)(m qual:Str)(st:DC)(ps:List Str)(f:Av)(fd:Dm):Prop where
 F:CM K m qual st f fd
 b:HI K fd ps []
 m:Sj K C m f
def N3 (C:Av)(o:Option MO)(k:List (Str×D)->Prop):Prop:=∃fs,o=some (.obj C fs)/\k fs
theorem Hl :N3 C (some (.obj C fs)) k=k fs:=propext ⟨λ⟨fs',e,h⟩=>by cases e;exact h,λh=>⟨fs,rfl,h⟩⟩
noncomputable def putO (f:Str)(v:D):List (Str×D)->List (Str×D)
 |[]=>[(f,v)]
 |p::r=>if p.1=f then(p.1,v)::r else p::putO f v r
section
variable {K:Ac}   {Z:Zt}{f:Str}{vs:List (Str×V)}{ds:List (Str×D)}
theorem Cu.putO (a:At Z v d)(h:Cu Z vs ds):Cu Z (Hj f v vs) (L3.putO f d ds):=by
 induction h with
 |nil=>exact .cons ⟨rfl,a⟩ .nil
 | @cons p q vs ds r t ih=>
  unfold Hj L3.putO;have e:=r.1;by_cases c:p.1=f
  .rw[if_pos c,if_pos (by rw[<- e];exact c)];exact .cons ⟨e,a⟩ t
  .rw[if_neg c,if_neg (by rw[<- e];exact c)];exact .cons r ih
theorem Cu.look (h:Cu Z vs ds):(ds.lookup f=none/\vs.lookup f=none)\/∃d v,ds.lookup f=some d/\vs.lookup f=some v/\At Z v d:=by
 induction h with
 |nil=>exact .inl ⟨rfl,rfl⟩
 | @cons p q vs ds r t ih=>
  have e:=r.1;rw[BS,BS,e];cases c:f == q.1 with
  |true=>exact .inr ⟨_,_,rfl,rfl,r.2⟩
  |false=>exact ih
theorem HR.newO (h:HR K H M Z)(e1:H x=none)(e2:H dx=none)(ne:dx≠x):HR K (CD (CD H dx (.own x)) x (.ins C dx [])) (put M x (.obj C [])) Z:=by
 obtain⟨h1,h2⟩:=h.lay e2 (.own x);exact HR.newM ⟨h1,h2⟩ (by rw[Ij (Bg ne)];exact e1) ⟨dx,[],MA,.nil⟩
end
section
variable      {m x:Str}
def WZ (C:Av)(f:Str)(ta:DG):DG:=λτ M Q=>ta τ M λx M1=>J2 x λp=>N3 C (M1 p) λfs=>CH (fs.lookup f) λd=>Q d M1
theorem GU (c:Oi X.K C)(n:DZ X.K C f)(he:BX X e ta)(hb:Cz e f X.env (eval e X.env)=eval e X.env:=by rfl):BX X (.Attribute e f pos) (WZ C f ta):=PE.mono (b9 he hb) (by
 intro U H Q;ext1⟨Z,τ,M,Q2,st,hr,h,k⟩;refine lE.bind st hr h λZ1 x dx H1 M1 l1 h1 a1 q1=>?_;obtain⟨p,rfl,fs,hm,q2⟩:=IL q1;obtain⟨d,hd,q⟩:=Cr q2;obtain⟨ix,vs,hv,ka⟩:=h1.rdMO hm;rcases ka.look with⟨e1,_⟩|⟨d',v,e1,e2,a⟩
 .rw[hd]at e1;cases e1
 .rw [hd] at e1;cases e1;exact ⟨p,C,ix,vs,v,a1,hv,c,n,e2,k Z1 v d H1 M1 l1 h1 a q⟩)
def SD (C:Av)(f:Str)(ta tv:DG):HH:=λE τ M=>tv τ M λy M1=>ta τ M1 λx M2=>J2 x λp=>N3 C (M2 p) λfs=>fs.length<1000/\E.nx τ (put M2 p (.obj C (putO f y fs)))
theorem gK (c:Oi X.K C)(n:DZ X.K C f)(ha:BX X o ta)(hv:BX X value tv)(hs:EE value (some (.Attribute o f pos')) pos.line X.env=pure false:=by rfl):GZ X (.Assign [.Attribute o f pos'] value pos) (SD C f ta tv):=PS.mono (fb ha hv hs) (by
 intro D U H;ext1⟨Z,τ,M,D2,st,hr,h,er⟩;refine lE.bind st hr h λZ1 y dy H1 M1 l1 h1 a1 q1=>lE.bind (st.mono l1) h1 q1 λZ2 x dx H2 M2 l2 h2 a2 q2=>?_;obtain ⟨p,rfl,fs,hm,hl,q⟩:=IL q2;obtain ⟨ix,vs,hv,ka⟩:=h2.rdMO hm;refine ⟨p,C,ix,vs,a2,hv,c,n,by rw [DV ka];exact hl,?_⟩;exact er.nx Z2 U τ _ _ (l1.trans l2) (st.mono (l1.trans l2)) (h2.chg (u':=.obj C (putO f dy fs)) hm ⟨ix,_,MA,ka.putO (a1.mono l2)⟩) q)
def OD (C:Av)(m:Str)(sp:Ee)(ta:DG)(t:Kp):DG:=λτ M Q=>ta τ M λx M1=>J2 x λp=>N3 C (M1 p) λfs=>fs.lookup m=none/\t τ M1 λxs M2=>sp (.ref p::xs) M2 Q
theorem XX {K:Ac} :∀U H Q,lE K (OD C m sp ta t) U H Q->P9 C m (lSp K sp) [] E0 (lE K ta) (lA K t) U H Q:=by
 intro U H Q;ext1⟨Z,τ,M,Q2,st,hr,h,k⟩;refine lE.bind st hr h λZ1 x dx H1 M1 l1 h1 a1 q1=>?_;obtain⟨p,rfl,fs,hm,hn,q⟩:=IL q1;obtain⟨ix,vs,hv,ka⟩:=h1.rdMO hm;have a1:=a1;subst a1;refine⟨p,ix,vs,rfl,hv,?_,Z1,τ,M1,_,st.mono l1,h1,q,λZ2 ws ds H2 M2 l2 h2 a2 q2=>?_⟩
 .rcases ka.look with⟨_,e2⟩|⟨d',v,e1,_,_⟩
  .exact e2
  .rw[hn]at e1;cases e1
 .show lSp K sp (V.ref p::(ws++[])) H2 Q E0;rw[C1];exact⟨Z2,.ref p::ds,M2,Q2,h2,.cons rfl a2,q2,k.le (l1.trans l2)⟩
theorem E9 {st:DC}(c:Oi X.K C)(d:Mf X.K C m qual st ps g fd)(G:FnOk X.prog X.w X.K X.mg X.base CX0 k g fd ps (lSp X.K sp))(hr:Dt k X.A)(ho:BX X o ta)(ha:Gc X (e::es) t)
  (hst:Ar (e::es) X.env=(false,eval e X.env)::Ar es X.env:=by rfl) (hpl:(Cc pos (Ar es X.env)).any (·.1)=false:=by rfl)
  (ht:eval (.Call (.Attribute o m apos) (e::es) [] pos) X.env=(do
   let ov <- eval o X.env
   Nb apos.atName
   let (f,first) <- Gu [ov] (JR ov m pl)
   Rn pos f first (Cc pos (Ar (e::es) X.env)) (Fk pos (Dy [] X.env))):=by rfl) :
  BX X (.Call (.Attribute o m apos) (e::es) [] pos) (OD C m sp ta t):=PE.mono (k9 ho c d.m G hr d.b .nil OF ha hst hpl ht) XX
theorem KP {st:DC}(c:Oi X.K C)(d:Mf X.K C m qual st ps g fd)(G:FnOk X.prog X.w X.K X.mg X.base CX0 k g fd ps (lSp X.K sp))(hr:Dt k X.A)(ho:BX X o ta)
  (ht:eval (.Call (.Attribute o m apos) [] [] pos) X.env=(do
   let ov <- eval o X.env
   Nb apos.atName
   let (f,first) <- Gu [ov] (JR ov m pl)
   Rn pos f first (Cc pos (Ar [] X.env)) (Fk pos (Dy [] X.env))):=by rfl) :
  BX X (.Call (.Attribute o m apos) [] [] pos) (OD C m sp ta TW):=PE.mono (qr ho c d.m G hr d.b .nil OF ht) (by
 intro U H Q;ext1⟨Z,τ,M,Q2,st,hr,h,k⟩;refine lE.bind st hr h λZ1 x dx H1 M1 l1 h1 a1 q1=>?_;obtain⟨p,rfl,fs,hm,hn,q⟩:=IL q1;obtain⟨ix,vs,hv,ka⟩:=h1.rdMO hm;have a1:=a1;subst a1;refine⟨p,ix,vs,rfl,hv,?_,⟨Z1,[.ref p],M1,Q2,h1,.cons rfl .nil,q,k.le l1⟩⟩;rcases ka.look with⟨_,e2⟩|⟨d',v,e1,_,_⟩
 .exact e2
 .rw [hn] at e1;cases e1)
def SG (C:Av)(sp:Ee)(t:Kp):DG:=λτ M Q=>t τ M λxs M1=>∀p,M1 p=none->sp (.ref p::xs) (put M1 p (.obj C [])) λv M2=>v=.non/\Q (.ref p) M2
theorem ja {K:Ac}{M1:Mp}(l1:Le Z Z1)(h1:HR K H1 M1 Z1)(a1:Ds Z1 vs ds)(k:Hr K Z Q2 Q)(q1:∀p,M1 p=none->sp (.ref p::ds) (put M1 p (.obj C [])) λv M2=>v=.non/\Q2 (.ref p) M2) :
  ∀x dx,H1 x=none->H1 dx=none->dx≠x->lSp K sp (.ref x::(vs++[])) (CD (CD H1 dx (.own x)) x (.ins C dx [])) (λv H2=>v=.non/\Q (.ref x) H2) E0:=λx dx e1 e2 ne=>by
 rw[C1];refine⟨Z1,.ref x::ds,_,_,h1.newO e1 e2 ne,.cons rfl a1,q1 x (h1.fresh e1),λZ2 v d H2 M2 l2 h2 a2 q2=>?_⟩;obtain⟨rfl,q⟩:=q2;exact⟨a2,k Z2 (.ref x) (.ref x) H2 M2 (l1.trans l2) h2 rfl q⟩
theorem XD {st:DC}(mk:Mk X.K C g)(d:Mf X.K C "__init__" qual st ps g fd)(G:FnOk X.prog X.w X.K X.mg X.base CX0 k g fd ps (lSp X.K sp))(hr:Dt (k+1) X.A)(hm:X.mg x=some (.ref C))(ha:Gc X (e::es) t)(hg:Gl X x:=by rfl)(hdb:(x == ("__debug__":Str))=false:=by decide)
  (he:Ar (e::es) X.env=(false,eval e X.env)::Ar es X.env:=by rfl) (hpl:(Cc pos (Ar es X.env)).any (·.1)=false:=by rfl) :
  BX X (.Call (.Name x p) (e::es) [] pos) (SG C sp t):=PE.mono (k8 mk G hr hg hm d.b .nil OF ha hdb he hpl) (by
 intro U H Q;ext1⟨Z,τ,M,Q2,st,hr,h,k⟩;exact ⟨Z,τ,M,_,st,hr,h,λZ1 vs ds H1 M1 l1 h1 a1 q1=>ja l1 h1 a1 k q1⟩)
theorem zX :WZ C f ta τ M Q=ta τ M λx M1=>J2 x λp=>N3 C (M1 p) λfs=>CH (fs.lookup f) λd=>Q d M1:=rfl
theorem f8 :SD C f ta tv E τ M=tv τ M λy M1=>ta τ M1 λx M2=>J2 x λp=>N3 C (M2 p) λfs=>fs.length<1000/\E.nx τ (put M2 p (.obj C (putO f y fs))):=rfl
theorem fh :OD C m sp ta t τ M Q=ta τ M λx M1=>J2 x λp=>N3 C (M1 p) λfs=>fs.lookup m=none/\t τ M1 λxs M2=>sp (.ref p::xs) M2 Q:=rfl
theorem fg :SG C sp t τ M Q=t τ M λxs M1=>∀p,M1 p=none->sp (.ref p::xs) (put M1 p (.obj C [])) λv M2=>v=.non/\Q (.ref p) M2:=rfl
end
end L3
namespace PySem
open Sem (wp)
section
end
end PySem
namespace L2
open PySem PySem.Spec PyProof.Rows L3
section
end
end L2
namespace L3
open PySem PySem.Spec PyProof.Rows L2
unseal BX HQ Jw Gc Ky GZ Du Cq FL BL Fv FM K2 Hs EI
section
end
end L3
namespace L2
open PySem PySem.Spec PyProof.Rows L3
section
end
end L2
namespace L3
open PySem PySem.Spec PyProof.Rows L2
unseal BX HQ Jw Gc Ky GZ Du Cq FL BL Fv FM K2 Hs EI
section
end
end L3
namespace L2
open PySem PySem.Spec PyProof.Rows L3
section
end
end L2
namespace L3
open PySem PySem.Spec PyProof.Rows L2
unseal BX HQ Jw Gc Ky GZ Du Cq FL BL Fv FM K2 Hs EI
section
end
end L3
namespace L2
open PySem PySem.Spec PyProof.Rows
section
end
noncomputable def bT:List Ah:=[.type "ValueError",.type "Exception",.type "BaseException",.type "object"]
def kH (K:Ac)(C:Av):Prop:=PySem.W.excIn K C bT "ValueError.__new__" = true
section
end
section
end
section
variable {X:Cx}{Ad:List (Av×Obj)}{U:St}{H:Hp}{s:Ap}  {a:Av}  {oe:Obj}
end
section
end
section
variable     {st:DC}
end
end L2
namespace L2
open PySem PySem.Spec PyProof.Rows
open PySem.W in
noncomputable def kI (K:TL)(C:Av):Bool:=
 bL K (.ref C) "__getattribute__" == some (some (.builtin "BaseException.__getattribute__")) && bL K (.ref C) "__getattr__" == some none && bL K (.ref C) "__class__" == some (some (.builtin "object.__class__")) &&
 (mroIn K C (.type "object") == some true && mroIn K C (.type "BaseException") == some true && (clsIn K C).isSome)
section
open PySem.W PySem.Builtin PySem.Builtin.ObjectAttr PySem.Builtin.Getset_descriptor PySem.Calls
variable {prog:Bs}{w:BG}{A:Ck}{E:Ah->Ap->Prop}{s:Ap}{K:TL}{x C:Av}
end
section
end
end L2
namespace L2
open PySem PySem.Spec PyProof.Rows
section
end
end L2
namespace L3
open PySem PySem.Spec PyProof.Rows L2
abbrev kA:=Str->Mp->Prop
section
variable (K:Ac)(mg:Str->Option Ah)
end
section
variable {K:Ac}{H H':Hp}{M M':Mp}{Z Z':Zt}
end
end L3
namespace L3
open PySem PySem.Spec PyProof.Rows L2
unseal BX HQ Jw Gc Ky GZ Du
section
end
section
variable   {K:Ac}
end
section
end
section
end
section
variable   {K:Ac}
end
abbrev kC:=Gq->Mp->Eb->kA->Prop
abbrev kB:=Js->kA->Gq->Mp->Prop
section
end
noncomputable def XZ (x c:Str):Bool:=x == c || c == ("BeatError":Str) || c == ("ValueError":Str)
def YK (mg:Str->Option Ah)(cn:Str)(c:Ah):Prop:=mg cn=some c\/(mg cn=none/\Dc cn=some c/\cn≠"__name__")
def kG (K:Ac)(mg:Str->Option Ah)(x:Str)(C:Av)(CS:List Str):Prop:=kI K C=true/\∀cn∈CS,∃c,YK mg cn c/\C3 K (.ref C) c=some (XZ x cn)
structure Zsv (K:Ac)(mg:Str->Option Ah)(B:Str)(XS CS:List Str):Prop where
 ex:∃cB,YK mg B cB/\∀x∈XS,∃C,mg x=some (.ref C)/\PySem.W.exmOne K (.ref C) cB=some true/\kH K C/\kG K mg x C CS
section
variable   {K:Ac}
end
section
end
section
variable {τ:Gq}{M:Mp}   {D:Js}{E:kA}     {tx:kC}{tb:kB}{th:HH}   {x:Str}{xs:List Str}
end
section
end
end L3
namespace L2
open PySem PySem.Spec PyProof.Rows
section
variable {X:Cx}{e:Cb}
end
end L2
namespace L3
open PySem PySem.Spec PyProof.Rows L2
unseal BX
section
end
end L3
namespace L3
open PySem PySem.Spec PyProof.Rows L2
section
unseal Du
theorem F4.filt {ks:List α}(hz:ks.length<=Am)(hS:S M)(ht:∀k∈ks,∀R:Bool->Mp->Prop,R (pr k) M->tt (Md τ caps (some (g k))) M R)(h:∀k∈ks,∀R,R (f k) M->te (Md τ caps (some (g k))) M R)(q:Q ((ks.filter pr).map f) M):F4 (ks.map g) S caps tt te τ M Q:=by
 refine⟨by rw[Ae];exact hz,λi ys M'=>M'=M/\ys=((ks.take i).filter pr).map f,⟨rfl,rfl⟩,?_,?_,?_⟩
 .rintro i ys M' ⟨rfl,rfl⟩;exact⟨hS,by rw[Ae];exact AY (HK _ _) (by rw[AW];ext)⟩
 .rintro i x ys M' hx ⟨rfl,rfl⟩;rw[AL]at hx;cases e:ks[i]? with
  |none=>rw[e]at hx;cases hx
  |some k=>
   rw[e]at hx;cases hx;refine ht k (AG e) _ ?_;dsimp only;cases c:pr k with
   |true=>rw[if_pos rfl];exact h k (AG e) _ ⟨rfl,by rw[A3,e,Hv,AI];simp[c]⟩
   |false=>rw[if_neg (by decide)];exact⟨rfl,by rw[A3,e,Hv,AI];simp[c]⟩
 .rintro ys M' ⟨rfl,rfl⟩;rw[Ae,Bw];exact q
end
section
end
end L3
namespace L3
open PySem PySem.Spec PyProof.Rows L2
unseal Cq
section
unseal Du
unseal BX
unseal Hs
unseal GZ
end
end L3
namespace L2
open PySem PySem.Spec PyProof.Rows
section
end
section
end
end L2
namespace L3
open PySem PySem.Spec PyProof.Rows L2
section
unseal BX
unseal Hs
unseal GZ
end
section
unseal BL
end
end L3
namespace L2
open PySem PySem.Spec PyProof.Rows
section
def W9 (j:Nat)(t:TI->TE):TE:=λU H Q=>∃a ks,U[j]? = some (some (.ref a))/\Rd H a (.dK ks)/\∀ob,t (λ_ H R=>R (YI ks) H) U (CD H a (.frz ob (.dK ks))) Q
theorem au (B:Ei X scope x caps):Ei (X.fr f) scope x caps:={B with}
theorem qo (B:Ei X scope x caps)(hc:X.calm=true)(hl:∀f,PE (X.fr f) (.Name y py) (RD j))
  (he:∀f cl C fp pn s H,PE (GC (X.fr f) scope cl C (x::caps.map (·.1)) fp pn s H) elt te) (hif:∀f cl C fp pn s H,Im (GC (X.fr f) scope cl C (x::caps.map (·.1)) fp pn s H) ifs tt)
  (hs:∀x,BC (.Name y py) X.env x=pure x):PE X (.ListComp elt [⟨.Name x px,.Name y py,ifs,0⟩] scope pos) (W9 j λwi=>JZ wi caps tt te):=by
 intro Ad s U H Q I ⟨a,ks,e,rd,h⟩;obtain⟨ob,I1⟩:=I.freeze rd;have z:=ZK (X:=X.fr (a,ob,.dK ks)) (pos:=pos) (px:=px) (wi:=λU H R=>RD j U H λv H1=>v=.ref a/\R (YI ks) H1) (au B) hc (d9 (hl _) (AA)) (he _) (hif _) hs Ad s U _ Q I1 ⟨_,e,rfl,h ob⟩;refine BI z (λu s' q=>?_) λ_ _ q=>q;obtain⟨v,H1,J,r,q⟩:=q;exact⟨v,H1,J.unfr,r,q⟩
end
end L2
namespace L3
open PySem PySem.Spec PyProof.Rows L2
unseal BX HQ Jw Gc Ky GZ Du Cq FL BL Fv FM K2 Hs EI
section
theorem ri {K:Ac}(st:Gp Z U τ)(h1:HR K H M Z)(jk:YH K J xs S Z)(h:F4 xs S caps tt te τ M QL)
  (ht:∀U H Q,lT K tt U H Q->tt1 U H Q)
  (k:∀Z1 H1 M1 vs ds,Le Z Z1->HR K H1 M1 Z1->Ds Z1 vs ds->QL ds M1->∀p,H1 p=none->Q (.ref p) (CD H1 p (.lst vs))):JZ (λ_ H R=>R J H) caps tt1 (lE K te) U H Q:=by
 obtain⟨hz,W,w0,stay,turn,done⟩:=h;refine⟨xs.length,λi vs H=>i<=xs.length/\∃Z2 M2 ds,Le Z Z2/\HR K H M2 Z2/\Ds Z2 vs ds/\W i ds M2,⟨C9 _,Z,M,[],Le.refl _,h1,.nil,w0⟩,?_⟩;intro i vs H2;ext1⟨hi,Z2,M2,ds,l2,h2,a2,w2⟩;obtain⟨s2,hl⟩:=stay i ds M2 w2;obtain⟨go,stop⟩:=jk i H2 M2 Z2 l2 h2 s2;have la:=a2.length;by_cases hlt:i<xs.length
 .obtain⟨g1,g2⟩:=go _ (Ag hlt);refine .inr ⟨g1,hlt,by ext,λx H' y=>?_⟩;obtain⟨Z5,l5,h5,a⟩:=g2 x H' y;have tk:=turn i _ ds M2 (Ag hlt) w2;have l2:=l2.trans l5;have a2:=a2.mono l5;refine ht _ _ _ (lT.bind ((st.mono l2).cap caps a) h5 tk λZ3 b H3 M3 l3 h3 q3=>?_);cases b with
  |false=>rw[if_neg Aj]at q3 ⊢;exact⟨hlt,Z3,M3,ds,l2.trans l3,h3,a2.mono l3,q3⟩
  |true=>rw[if_pos rfl]at q3 ⊢;refine lE.bind (((st.mono l2).cap caps a).mono l3) h3 q3 λZ4 z dz H4 M4 l4 h4 a4 q4=>?_;exact⟨hlt,Z4,M4,ds++[dz],l2.trans (l3.trans l4),h4,(a2.mono (l3.trans l4)).append (.cons a4 .nil),q4⟩
 .have e:i=xs.length:=by ext
  subst e;exact .inl ⟨stop (AJ _),by ext,k Z2 H2 M2 vs ds l2 h2 a2 (done ds M2 w2)⟩
theorem Uh {K:Ac}(ht:∀U H Q,lT K tt U H Q->tt1 U H Q):∀U H Q,lE K (II (TU (Ie j)) caps tt te) U H Q->W9 j (λwi=>JZ wi caps tt1 (lE K te)) U H Q:=by
 intro U H Q;ext1⟨Z,τ,M,Q2,st,hr,h,k⟩;obtain⟨d,e,q⟩:=Cr h;obtain⟨AQ,e2,q⟩:=Cr q;obtain⟨v,e1,a⟩:=st.get (EF.mp e);cases d with
 |dic ds=>
  cases e2;obtain⟨p,rfl,z⟩:=a;rcases hr.z p _ z with⟨ks,rd,ka⟩|k
  .refine⟨p,ks,e1,rd,λob=>?_⟩;exact ri st (hr.frzH z rd) (pq ka) q ht λZ1 H1 M1 vs ds l1 h1 a1 q p hp=>(k.le l1).f h1 hp a1 q
  .exact k.elim
 |_=>cases e2
theorem RJ (B:Ei X scope x caps)(hc:X.calm=true)(hN:X.N[j]? = some y)(hv:YB X.env.scope y)(hd:(y == ("__debug__":Str))=false)(hcd:(y == ("__classdict__":Str))=false)(he:∀f cl C fp pn s H,BX (GC (X.fr f) scope cl C (x::caps.map (·.1)) fp pn s H) elt te)
  (hs:∀x,BC (.Name y py) X.env x=pure x:=by intro _;rfl):BX X (.ListComp elt [⟨.Name x px,.Name y py,[],0⟩] scope pos) (II (TU (Ie j)) caps Gy te):=PE.mono (qo (te:=lE X.K te) B hc (λf=>oP (X:=X.fr f) hN hv hd hcd) he (λ_ _ _ _ _ _ _=>Im.nil) hs) (Uh LI)
end
end L3
namespace PySem
open Sem (wp)
section
end
end PySem
namespace L2
open PySem PySem.Spec PyProof.Rows L3
end L2
namespace L3
open PySem PySem.Spec PyProof.Rows L2
unseal BX HQ Jw Gc Ky GZ Du Cq FL BL Fv FM K2 Hs EI
section
end
end L3
namespace L2
open PySem PySem.Spec PyProof.Rows L3
end L2
namespace L3
open PySem PySem.Spec PyProof.Rows L2
unseal BX HQ Jw Gc Ky GZ Du Cq FL BL Fv FM K2 Hs EI
section
end
end L3
namespace L3
open PySem PySem.Spec PyProof.Rows L2
section
open MeetsSeq MeetsSeq2 MeetsSeq3 SeqRoads2
theorem W2 (hl:s.heap.IsTuple l xs)(hb:s.heap.IsTuple b ys)(hz:xs.size=ys.size)(hu:A.units<Dk)
  (he:∀j (h1:j<xs.size) (h2:j<ys.size),VZ P w A.in1 s xs[j] ys[j] true) (h:Q (.bool true) s):Aq (Ax P w) A (Bd .Eq (.ref l) (.ref b)) Q E s:=by
 obtain⟨⟨cls,dd,data,sl⟩,ho,hc,n,hd⟩:_:=id hl;obtain⟨⟨cls2,dd2,data2,sl2⟩,ho2,hc2,n2,hd2⟩:_:=id hb;simp only at hc hd hc2 hd2;subst hc hd hc2 hd2;refine MZ (op:=.Eq) ⟨_,ho,rfl⟩ ⟨_,ho2,rfl⟩ Ha ?_ hu;refine Kz (JD Ha.plain PySem.F.entry_tuple_eq (Ha.check _ _ _ _ _ _ _ _ ⟨_,ho,rfl⟩ (PySem.F.args_tuple_eq_2 _ _) ?_));have f2:=K9;obtain⟨hp,g,dr,tk,os⟩:=s;wp_walk using Dv ho,Dv ho2,V5 _ (λCK b s'=>b.1=none/\s'=⟨hp,g,dr,tk,os⟩/\∃i,CK=(xs.toList.zip ys.toList).drop i) _
 case turn=>
  rintro⟨y,x⟩ CK b s' ⟨_,rfl,i,hr⟩
  have hlt:i<(xs.toList.zip ys.toList).length:=by
   rcases Fg i (xs.toList.zip ys.toList).length with h' | h'
   .exact h'
   .rw[Nh h']at hr;cases hr
  have h1:i<xs.size:=by simp at hlt;ext
  rw[Dz hlt]at hr;injection hr with hyx hrest
  have hy:y=xs[i]:=by have:=congrArg Io hyx;simpa using this
  have hx:x=ys[i]:=by have:=congrArg LB hyx;simpa using this
  subst hy hx;refine Aa (he i h1 (by ext) _ _ ?_);wp_walk;exact⟨rfl,rfl,i+1,hrest⟩
 case fin=>
  rintro⟨b1,b2⟩ s' ⟨hb',rfl,i,hr⟩;simp only at hb';subst hb';wp_walk;exact⟨(λz=>nomatch z),by simpa[HN,hz]using h⟩
 case h=>exact⟨rfl,rfl,0,rfl⟩
end
unseal Cq
section
variable {P:Bs}{w:BG}
open MeetsSeq MeetsSeq2 MeetsSeq3 SeqRoads2
theorem bX {l b:Av}{xs ys:Array Ah}{A:Ck}{E:Ah->Ap->Prop}{s:Ap}{Q:Ah->Ap->Prop}(hl:s.heap.IsTuple l xs)(hb:s.heap.IsTuple b ys)(hz:xs.size=ys.size)(hu:A.units<Dk)
  (he:∀j (h1:j<xs.size) (h2:j<ys.size),VZ P w A.in1 s xs[j] ys[j] true) (h:Q (.bool false) s):Aq (Ax P w) A (Bd .NotEq (.ref l) (.ref b)) Q E s:=by
 obtain⟨⟨cls,dd,data,sl⟩,ho,hc,n,hd⟩:_:=id hl;obtain⟨⟨cls2,dd2,data2,sl2⟩,ho2,hc2,n2,hd2⟩:_:=id hb;simp only at hc hd hc2 hd2;subst hc hd hc2 hd2;refine MZ (op:=.NotEq) ⟨_,ho,rfl⟩ ⟨_,ho2,rfl⟩ G9 ?_ hu;refine Kz (JD G9.plain PySem.F.entry_tuple_ne (G9.check _ _ _ _ _ _ _ _ ⟨_,ho,rfl⟩ (PySem.F.args_tuple_ne_2 _ _) ?_));have f2:=K9;obtain⟨hp,g,dr,tk,os⟩:=s;wp_walk using Dv ho,Dv ho2,V5 _ (λCK b s'=>b.1=none/\s'=⟨hp,g,dr,tk,os⟩/\∃i,CK=(xs.toList.zip ys.toList).drop i) _
 case turn=>
  rintro⟨y,x⟩ CK b s' ⟨_,rfl,i,hr⟩
  have hlt:i<(xs.toList.zip ys.toList).length:=by
   rcases Fg i (xs.toList.zip ys.toList).length with h' | h'
   .exact h'
   .rw[Nh h']at hr;cases hr
  have h1:i<xs.size:=by simp at hlt;ext
  rw[Dz hlt]at hr;injection hr with hyx hrest
  have hy:y=xs[i]:=by have:=congrArg Io hyx;simpa using this
  have hx:x=ys[i]:=by have:=congrArg LB hyx;simpa using this
  subst hy hx;refine Aa (he i h1 (by ext) _ _ ?_);wp_walk;exact⟨rfl,rfl,i+1,hrest⟩
 case fin=>
  rintro⟨b1,b2⟩ s' ⟨hb',rfl,i,hr⟩;simp only at hb';subst hb';wp_walk;exact⟨(λz=>nomatch z),by simpa[HN,bne,hz]using h⟩
 case h=>exact⟨rfl,rfl,0,rfl⟩
end
unseal BX HQ Hs
def alk (M:Mp):Nat->D->D->Prop
 |0,d,e=>Ek M 40 d e=some true\/∃AQ,Eu M d=some AQ/\Eu M e=some AQ/\∀p∈AQ,∃i,p.2=D.int i
 |n+1,d,e=>alk M n d e\/∃xs ys,d=.tup xs/\e=.tup ys/\xs.length=ys.length/\∀(i:Nat) x y,xs[i]? = some x->ys[i]? = some y->alk M n x y
section
variable {X:Cx}{Ad:List (Av×Obj)}{U:St}{H:Hp}{s:Ap}{M:Mp}{Z:Zt}
theorem iV {A:Ck}(I:A6 X Ad U H s)(hr:HR X.K H M Z)(ih:∀{x y:D}{v1 v2:V}{u1 u2:Ah},alk M n x y->At Z v1 x->At Z v2 y->RelV v1 u1->RelV v2 u2->VZ X.prog X.w A.in1 s u1 u2 true)
  (hl:xs.length=ys.length) (h:∀(i:Nat) x y,xs[i]? = some x->ys[i]? = some y->alk M n x y) {u1 u2:Ah} (a1:At Z v1 (.tup xs)) (a2:At Z v2 (.tup ys)) (r1:RelV v1 u1) (r2:RelV v2 u2) :
  ∃l b Bj its2,u1=.ref l/\u2=.ref b/\s.heap.IsTuple l Bj/\s.heap.IsTuple b its2/\Bj.size=its2.size/\∀j (h1:j<Bj.size) (h2:j<its2.size),VZ X.prog X.w A.in1 s Bj[j] its2[j] true:=by
 obtain⟨p,vs,rfl,hs,b1⟩:=hr.rdT a1;obtain⟨p',ws,rfl,hs',b2⟩:=hr.rdT a2;cases(show u1=AF p from r1);cases(show u2=AF p' from r2);obtain⟨Bj,q1,t1,_⟩:=I.tuple hs;obtain⟨its2,q2,t2,_⟩:=I.tuple hs';have:=q1.length;have:=q2.length;have:=b1.length;have:=b2.length;refine⟨p,p',Bj.toArray,its2.toArray,rfl,rfl,t1,t2,by simp;ext,λj h1 h2=>?_⟩;obtain⟨v1,d1,_,f1,q1,z1⟩:=Uy q1 b1 j h1;obtain⟨v2,d2,_,f2,q2,z2⟩:=Uy q2 b2 j h2;exact ih (h j d1 d2 f1 f2) q1 q2 z1 z2
theorem nM (I:A6 X Ad U H s)(hr:HR X.K H M Z):∀{n:Nat}{A:Ck},A.units+43+n<Dk->∀{x y:D}{v1 v2:V}{u1 u2:Ah},alk M n x y->At Z v1 x->At Z v2 y->RelV v1 u1->RelV v2 u2->VZ X.prog X.w A s u1 u2 true:=by
 intro n;induction n with
 |zero=>
  intro A hu x y v1 v2 u1 u2 h a1 a2 r1 r2;rcases h with c|⟨AQ,f1,f2,fl⟩
  .exact λE Q hq=>gF I hr 40 a1 a2 r1 r2 (by ext) c _ _ E Q hq
  .exact X6 I hr (by ext) f1 f2 fl a1 a2 r1 r2
 |succ n ih=>
  intro A hu x y v1 v2 u1 u2 h a1 a2 r1 r2;rcases h with h|⟨xs,ys,rfl,rfl,hl,h⟩
  .exact ih (by ext) h a1 a2 r1 r2
  symm;obtain⟨l,b,Bj,its2,e1',e2',t1,t2,hz,he⟩:=iV I hr (ih (by show A.units+1+43+n<Dk;ext)) hl h a1 a2 r1 r2;cutsat;subst e1' e2';intro E Q hq;by_cases hp:l=b
  .subst hp;exact Gw _ X.prog X.w E Q hq
  unfold eqBool;refine Bh ?_;refine YM (λhab=>absurd (by have:=eq_of_beq hab;injection this) hp) (λ_=>?_);exact Aa (W2 t1 t2 hz (by ext) he (CW hq))
end
theorem X3 (hr:Dt k A):A.units+50<Dk:=Fh (Jg (by decide:50<=64) _) hr.units
def T4 (neg:Bool):Mi:=λx y M Q=>(∃xs ys,x=.tup xs/\y=.tup ys/\xs.length=ys.length/\∀(i:Nat) x y,xs[i]? = some x->ys[i]? = some y->alk M 2 x y)/\Q (.bl !neg) M
theorem zV :T4 neg x y M Q=((∃xs ys,x=.tup xs/\y=.tup ys/\xs.length=ys.length/\∀(i:Nat) x y,xs[i]? = some x->ys[i]? = some y->alk M 2 x y)/\Q (.bl !neg) M):=rfl
theorem xU {X:Cx}(hu:X.A.units+50<Dk):Cq X (Bd .Eq) (T4 false):=by
 intro Ad s U H x y v u Q I rx ry;ext1⟨Z,dx,dy,M,Q2,hr,ax,ay,⟨⟨xs,ys,e1',e2',hl,h⟩,q⟩,k⟩;symm;obtain⟨l,b,Bj,its2,e1',e2',t1,t2,hz,he⟩:=iV I hr (nM I hr (by show X.A.units+1+43+2<Dk;ext)) hl h ax ay rx ry;cutsat;subst e1' e2';exact W2 t1 t2 hz (by ext) he ⟨.bl true,H,I,rfl,k.b hr q⟩
theorem xW {X:Cx}(hu:X.A.units+50<Dk):Cq X (Bd .NotEq) (T4 true):=by
 intro Ad s U H x y v u Q I rx ry;ext1⟨Z,dx,dy,M,Q2,hr,ax,ay,⟨⟨xs,ys,e1',e2',hl,h⟩,q⟩,k⟩;symm;obtain⟨l,b,Bj,its2,e1',e2',t1,t2,hz,he⟩:=iV I hr (nM I hr (by show X.A.units+1+43+2<Dk;ext)) hl h ax ay rx ry;cutsat;subst e1' e2';exact bX t1 t2 hz (by ext) he ⟨.bl false,H,I,rfl,k.b hr q⟩
unseal BL
theorem ql (hc:X.calm=true):BL X (.type "dict") (λxs M Q=>GJ xs λx=>∃ps,Bo M x=some (Gj ps)/\ps.length<=Am/\(Q (.dic (Gi [] ps)) M\/∀p,M p=none->Q (.ref p) (put M p (.dic (Gi [] ps))))):=by
 intro Ad s U H xs us Q I r;ext1⟨Z,ds,M,Q2,hr,a,h,k⟩;obtain⟨x,rfl,ps,h1,h2,h3⟩:=GW h;rcases h3 with h3|h3
 .exact iO hc Ad s U H xs us Q I r ⟨Z,[x],M,Q2,hr,a,⟨ps,h1,h2,h3⟩,k⟩
 .exact j1 hc Ad s U H xs us Q I r ⟨Z,[x],M,Q2,hr,a,⟨ps,h1,h2,h3⟩,k⟩
end L3
namespace L2
open PySem PySem.Spec PyProof.Rows
noncomputable def UX (lo:Int)(n:Nat):It:=⟨λi _=>i<n,λi H x H'=>H'=H/\x=.int (lo+(i:Nat)*(-1:Int)),λi _=>n<=i⟩
theorem yn {K:Ac}(it:Av)(lo:Int)(n:Nat):MW P w K F tg (UX lo n) [it] it (λi h=>Mt h it (lo+(i:Nat)*(-1:Int)) ((n:Int)-(i:Nat)) (-1)) where
 mem:=by simp
 obj:=λi h st b hb=>by
  have e:b=it:=by simpa using hb
  subst e
  exact ⟨_,st,λv z=>by
   have z':=z;cases z'⟩
 keep:=λi h h' st k=>k it (by simp) _ st
 item:=by
  intro X hP hw hK hF hc i Ad s U H E I hf st hg;subst hP hw hK;obtain⟨f0,f1,f2,f3,f4,f5⟩:=hf it (by simp);have W:=Ve (prog:=X.prog) (w:=X.w) (I.ok.hd hc) it lo (-1) n;refine W.item i s _ _ hg st λv h' tk hv st' kk=>?_;obtain⟨t,rfl⟩:=hv;have I1:A6 X Ad U H {s with heap:=h',toks:=tk}:=I.turned (λb o hb e=>kk b o (by simpa using hb) e) f0 f1 f3 f4 f5;exact⟨_,rfl,Vt (s:={s with heap:=h',toks:=tk}) (n:="range_iterator") st' rfl rfl (by decide) ⟨.int (lo+(i:Nat)*(-1:Int)),H,I1,⟨t,rfl⟩,⟨rfl,rfl⟩,st',λb hb=>(hf b hb).1⟩⟩
 done:=by
  intro X hP hw hK hF hc i Ad s U H E I hf st hg;subst hP hw hK;obtain⟨f0,f1,f2,f3,f4,f5⟩:=hf it (by simp);exact PL (I.ok.hd hc) st (by have:n<=i:=hg;ext) λh' eb=>⟨rfl,I.turned (t':=s.toks) (λb o hb e=>eb b o hb e) f0 f1 f3 f4 f5⟩
 self:=λ_ _ _ _ _ st h=>PM st h
noncomputable def PB (lo hi:Int):Nat:=(if hi<lo then lo-hi else 0).toNat
theorem gg (lo hi:Int):((PB lo hi:Nat):Int)<=(if hi<lo then lo-hi else 0):=by
 unfold PB;split<;>ext
theorem rE {lo hi:Int}:((PB lo hi:Nat):Int)=Eh lo hi (-1):=by
 unfold PB Eh;rw[if_neg (by decide:¬(-1:Int) > 0),show -(-1:Int)=1 from rfl,WB];by_cases h:hi<lo
 .rw[if_pos h,if_pos h];ext
 .rw[if_neg h,if_neg h];rfl
def X0 (ta:TA):TI:=λU H R=>ta U H λvs H1=>∃i j,vs=[.int i,.int j,.int (-1)]/\(-(2^61)<=i/\i<2^61/\-(2^61)<=j/\j<2^61)/\R (UX i (PB i j)) H1
theorem ue (hg:Gl X "range")(hm:X.mg "range" = none)(ha:PA X [a,b,d] ta)(hs:Ar [a,b,d] X.env=[(false,eval a X.env),(false,eval b X.env),(false,eval d X.env)]:=by rfl)(hs2:Ar [b,d] X.env=[(false,eval b X.env),(false,eval d X.env)]:=by rfl) :
  PI X tg (.Call (.Name "range" p) [a,b,d] [] pos) (X0 ta):=by
 intro Ad s U H R I h;refine Call_ (Qz I hg hm boot_range (BO (Do (ha pos Ad s U H _ I h) λus s1 e=>e.el λvs H1 I1 r1 q1=>?_) (by rw[hs,hs2]) (by rw[hs2];rfl)));refine Al λG' kk'=>?_;obtain⟨i,j,e,⟨q1,q2,q3,q4⟩,q⟩:=q1;refine kk' ?_;clear kk';subst e;cases r1 with
 |cons r rr=>
  cases rr with
  |cons r' rr=>
   cases rr with
   |cons r'' rr=>
    cases rr;obtain⟨t,rfl⟩:=r;obtain⟨t',rfl⟩:=r';obtain⟨t'',rfl⟩:=r'';refine call_range_3 (by ext) ?_ (.inl ?_)
    .have hsm:K8 i j (-1)=true:=by
      unfold K8;rw[<- rE,if_neg (by decide)];simp only[BQ,KC];have:=gg i j;exact⟨⟨⟨⟨Yy (by ext) (by ext),Yy (by ext) (by ext)⟩,Yy (by ext) (by ext)⟩,Yy (by ext) (by ext)⟩,.inr (Yy (by ext) (by ext))⟩
     refine Tn (Sx ..) hsm ?_;have I2:A6 X Ad U H1 {s1 with heap:=s1.heap.push {cls:=.type "range",data:=.fields #[.int i t,.int j t',.int (-1) t'']} }:=I1.kept λb o e=>Af _ e
     refine ⟨(s1.heap.push { cls:=.type "range",data:=.fields #[.int i t,.int j t',.int (-1) t''] }).objs.size,[(s1.heap.push { cls:=.type "range",data:=.fields #[.int i t,.int j t',.int (-1) t''] }).objs.size],_,_,H1,rfl,
      I2.kept λb o e=>Af _ e,yn _ i (PB i j),?_,λb hb=>?_,q⟩
     .have e1:i+((0:Nat):Int)*(-1:Int)=i:=by simp
      have e2:((PB i j:Nat):Int)-((0:Nat):Int)=Eh i j (-1):=by rw[rE];ext
      show Mt _ _ (i+((0:Nat):Int)*(-1:Int)) (((PB i j:Nat):Int)-((0:Nat):Int)) (-1);rw[e1,e2];exact Ay _ rfl
     .have e:b=(s1.heap.push {cls:=.type "range",data:=.fields #[.int i t,.int j t',.int (-1) t'']}).objs.size:=by simpa using hb
      subst e;exact I2.fpOk (AJ _) (I2.hok.fresh (AJ _))
    .exact PyProof.noPylong_of_log2 (by decide)
end L2
namespace L3
open PySem PySem.Spec PyProof.Rows L2
unseal BX HQ Jw Gc Ky GZ Du Cq FL BL Fv FM K2 Hs EI
noncomputable def ML (lo:Int)(n:Nat):List D:=(Bl n).map λk=>.int (lo+(k:Nat)*(-1:Int))
theorem se {lo:Int}(h:(ML lo n)[i]? = some d):i<n/\d=.int (lo+(i:Nat)*(-1:Int)):=by
 unfold ML at h;rw[AL]at h;by_cases hi:i<n
 .rw[EA hi]at h;exact⟨hi,(Ba h).symm⟩
 .rw[BJ (by simp;ext)]at h;cases h
theorem sf (lo)(n):(ML lo n).length=n:=by unfold ML;rw[Ae,B3]
theorem vj {K:Ac}(lo:Int)(n:Nat):YH K (UX lo n) (ML lo n) (λ_=>True) Z:=λi H M Z' l hr s=>by
 refine⟨λd hd=>?_,λhi=>by rw[sf]at hi;exact hi⟩;obtain⟨hi,rfl⟩:=se hd;refine⟨hi,λx H' y=>?_⟩;obtain⟨rfl,rfl⟩:=y;exact⟨Z',Le.refl _,hr,rfl⟩
def Sy (t:Kp):Nr:=λτ M R=>t τ M λxs M1=>Kw xs λx y z=>EH x λi=>EH y λj=>z=.int (-1)/\(-(2^61)<=i/\i<2^61/\-(2^61)<=j/\j<2^61)/\R (ML i (PB i j)) (λ_=>True) M1
theorem ug (hm:X.mg "range" = none)(ha:Gc X [a,b,d] ta)(hg:Gl X "range":=by rfl)(hs:Ar [a,b,d] X.env=[(false,eval a X.env),(false,eval b X.env),(false,eval d X.env)]:=by rfl)(hs2:Ar [b,d] X.env=[(false,eval b X.env),(false,eval d X.env)]:=by rfl) :
  Hs X tg (.Call (.Name "range" p) [a,b,d] [] pos) (Sy ta):=PI.mono (ue hg hm ha hs hs2) (by
 intro U H R;ext1⟨Z,τ,M,R2,st,hr,h,k⟩;refine ⟨Z,τ,M,_,st,hr,h,λZ1 vs ds H1 M1 l1 h1 a1 q1=>?_⟩;obtain ⟨x,y,z,rfl,q⟩:=RP q1;obtain ⟨i,rfl,q2⟩:=CG q;obtain ⟨j,rfl,rfl,b,q4⟩:=CG q2;obtain⟨v,w,u,e1',a2,a3,a4⟩:_:=fN a1;cases (show v=V.int i from a2);cases (show w=V.int j from a3);cases (show u=V.int (-1) from a4);exact ⟨i,j,rfl,b,k Z1 _ _ _ H1 M1 l1 h1 (vj _ _) q4⟩)
theorem oq :Sy tA τ M R=tA τ M λxs M1=>Kw xs λx y z=>EH x λi=>EH y λj=>z=.int (-1)/\(-(2^61)<=i/\i<2^61/\-(2^61)<=j/\j<2^61)/\R (ML i (PB i j)) (λ_=>True) M1:=rfl
end L3
namespace PySem
namespace SetTable
noncomputable def eY (m i:Nat):Nat:=(i*5+1)%m
noncomputable def Ma (m:Nat):Nat->Nat->Nat
 |0,i=>i
 |k+1,i=>Ma m k (eY m i)
theorem ZU :∀a b i,Ma m (a+b) i=Ma m b (Ma m a i)
 |0,b,i=>by rw[ES];rfl
 |a+1,b,i=>by rw[PZ];exact ZU a b (eY m i)
def Mk (m:Nat):Prop:=m=8\/m=32\/m=128\/m=512
def Mw (m:Nat):Prop:=Mk m\/m=16
noncomputable def eU (m:Nat):Nat->Nat->List Nat
 |0,_=>[]
 |k+1,i=>i::eU m k (eY m i)
theorem iI :∀{k i j:Nat},j∈eU m k i->∃r,r<k/\Ma m r i=j
 |k+1,i,j,h=>by
  rcases AU.mp h with rfl|h
  .exact⟨0,NH _,rfl⟩
  .obtain⟨r,h1,h2⟩:=iI h;exact⟨r+1,Hb h1,h2⟩
theorem jj (h:Mw m):((Bl m).all λj=>(eU m m 0).contains j)=true/\Ma m m 0=0:=by
 rcases h with(rfl|rfl|rfl|rfl)|rfl<;>nofun
theorem i3 (h:Mw m)(hi:i<m)(hj:j<m):∃r,r<m/\Ma m r i=j:=by
 obtain⟨h1,h2⟩:=jj h;rw[C5]at h1;obtain⟨a,a1,a2⟩:=iI (NL.mp (h1 i (Ct.mpr hi)));obtain⟨b,b1,b2⟩:=iI (NL.mp (h1 j (Ct.mpr hj)));rcases Nat.le_total a b with c|c
 .refine⟨b-a,by ext,?_⟩;rw[<- a2,<- ZU,show a+(b-a)=b by ext,b2]
 .refine⟨(m-a+b)%m,PV _ (by ext),?_⟩;by_cases e:a=b
  .subst e;rw[show m-a+a=m by ext,Nat.mod_self,<- a2,b2];rfl
  .rw[Nat.mod_eq_of_lt (by ext),ZU];have:Ma m (m-a) i=0:=by rw[<- a2,<- ZU,show a+(m-a)=m by ext,h2]
   rw[this,b2]
noncomputable def FK (mask:Nat):Nat->Nat×Nat->Nat×Nat
 |0,p=>p
 |k+1,p=>FK mask k (leap mask p.1 p.2)
theorem tI {mask:Nat}:∀a b p,FK mask (a+b) p=FK mask b (FK mask a p)
 |0,b,p=>by rw[ES];rfl
 |a+1,b,p=>by rw[PZ];exact tI a b _
theorem tQ {mask:Nat}:∀k p,(FK mask k p).2=p.2 / 32^k
 |0,p=>by rw[Nat.pow_zero,Y8];rfl
 |k+1,p=>by
  show(FK mask k (leap mask p.1 p.2)).2=_;rw[tQ k,Nat.pow_succ',<- Nat.div_div_eq_div_mul];rfl
theorem tJ (hm:0<m):∀k i,(FK (m-1) k (i,0))=(Ma m k i,0)
 |0,i=>rfl
 |k+1,i=>by
  show FK (m-1) k ((i*5+1+0 / 32)%(m-1+1),0 / 32)=_;rw[show m-1+1=m by ext,Nat.zero_div,tJ hm k];rfl
theorem rY {mask:Nat}:∀k p,p.1<=mask->(FK mask k p).1<=mask
 |0,p,h=>h
 |k+1,p,h=>rY k _ (Nat.le_of_lt_succ (PV _ (NH _)))
theorem uu {m:Nat}(h:Mw m){i pert j:Nat}(hp:pert<2^64)(hi:i<m)(hj:j<m):∃k,k<m+13/\(FK (m-1) k (i,pert)).1=j:=by
 have e:(FK (m-1) 13 (i,pert)).2=0:=by
  rw[tQ];exact Nat.div_eq_of_lt (Bk hp (by decide))
 have l:=rY (mask:=m-1) 13 (i,pert) (by show i<=_;ext);obtain⟨r,r1,r2⟩:=i3 h (i:=(FK (m-1) 13 (i,pert)).1) (by ext) hj;refine⟨13+r,by ext,?_⟩;rw[tI,show FK (m-1) 13 (i,pert)=((FK (m-1) 13 (i,pert)).1,0)from Su rfl e,tJ (by ext),r2]
theorem rD :∀{l:List (Option α)}{j:Nat},l[j]? = some none->((l.set j (some k)).filterMap id).length=(l.filterMap id).length+1
 |x::l,0,h=>by
  cases h;rfl
 |x::l,j+1,h=>by
  rw[Cy,CT,CT];have ih:=rD (k:=k) (l:=l) (j:=j) h;cases x with
  |none=>exact ih
  |some y=>exact congrArg (·+1) ih
theorem rC :∀{l:List (Option α)}{j:Nat},l[j]? = some none->((l.set j (some k)).filterMap id).Perm (k::l.filterMap id)
 |x::l,0,h=>by
  cases h;exact D4 _
 |x::l,j+1,h=>by
  rw[Cy,CT,CT];have ih:=rC (k:=k) (l:=l) (j:=j) h;cases x with
  |none=>exact ih
  |some y=>exact(ih.cons y).trans (O0 k y _)
theorem sW :∀{l:List (Option α)},(l.filterMap id).length<l.length->∃j:Nat,l[j]? = some none
 |[],h=>absurd h (Sv _)
 |none::l,_=>⟨0,rfl⟩
 |some x::l,h=>by
  obtain⟨j,hj⟩:=sW (Dj h);exact⟨j+1,hj⟩
theorem sY {mask:Nat}(h0:(owner.getD j0 (some 0)).isNone=true):∀fuel r i pert,r<fuel->(FK mask r (i,pert)).1=j0->∃j,layClean.free mask owner fuel i pert=some j/\(owner.getD j (some 0)).isNone=true
 |0,r,_,_,h,_=>absurd h (Sv _)
 |fuel+1,r,i,pert,h,e=>by
  unfold layClean.free;split
  .next k hk=>exact⟨i+k,rfl,by have:=List.find?_some hk;exact this⟩
  .next hn=>
   cases r with
   |zero=>exfalso;have:=e;subst this;have:=Jt.mp hn 0 (Ct.mpr (by unfold runEnd;split<;>ext));exact this h0
   |succ r=>exact sY h0 fuel r _ _ (Dj h) e
structure Si (mask:Nat)(owner:Array (Option Nat))(k:Nat):Prop where
 s:owner.size=mask+1
 n:(owner.toList.filterMap id).length=k
 v:∀v,some v∈owner.toList->v<k
 p:(owner.toList.filterMap id).Perm (Bl k)
theorem getD_none {owner:Array (Option Nat)}(h:(owner.getD j (some 0)).isNone=true):owner.toList[j]? = some none:=by
 rw[C0];rw[FH]at h;cases q:owner[j]? with
 |none=>rw[q]at h;cases h
 |some x=>
  rw[q]at h;cases x with
  |none=>rfl
  |some y=>cases h
theorem rX {mask:Nat}(hm:Mw (mask+1)):∀(hs:List Int) (owner:Array (Option Nat)) (k:Nat),Si mask owner k->k+hs.length<=mask->∃owner',(hs.foldl (λacc h=>acc >>= λx:Array (Option Nat)×Nat=>layClean.free mask x.1 (turns mask) (bits h%(mask+1)) (bits h) >>= λj=>pure (x.1.setIfInBounds j (some x.2),x.2+1)) (some (owner,k)))=some (owner',k+hs.length)/\Si mask owner' (k+hs.length)
 |[],owner,k,ok,_=>⟨owner,rfl,ok⟩
 |h::hs,owner,k,ok,hl=>by
  rw[AO]at hl;obtain⟨j0,hj0⟩:=sW (by rw[ok.n,A8,ok.s];ext);have jl:=(Au.mp hj0).1;rw[A8,ok.s]at jl;have hb:bits h<2^64:=by unfold bits;ext
  obtain⟨r,r1,r2⟩:=uu hm hb (PV _ (NH _)) jl
  have g0:(owner.getD j0 (some 0)).isNone=true:=by
   rw[C0]at hj0;rw[FH,hj0];rfl
  obtain⟨j,e1,e2⟩:=sY (mask:=mask) g0 (turns mask) r _ _ (by unfold turns;ext) r2;have ej:=getD_none e2
  have ok':Si mask (owner.setIfInBounds j (some k)) (k+1):=by
   refine⟨by rw[Array.size_setIfInBounds];exact ok.s,?_,λv hv=>?_,?_⟩
   .rw[F2,rD ej,ok.n]
   .rw[F2]at hv;rcases List.mem_or_eq_of_mem_set hv with hv|hv
    .exact EU (ok.v v hv)
    .cases hv;exact Hc _
   .rw[F2,Rt];exact(rC ej).trans ((ok.p.cons k).trans (List.perm_append_singleton _ _).symm)
  obtain⟨ow,f1,f2⟩:=rX hm hs _ (k+1) ok' (by ext);refine⟨ow,?_,by rw[AO,show k+(hs.length+1)=k+1+hs.length by ext];exact f2⟩;rw[CC,AO,show k+(hs.length+1)=k+1+hs.length by ext,<- f1];congr 1
  show(layClean.free mask owner (turns mask) (bits h%(mask+1)) (bits h) >>= λj=>pure (owner.setIfInBounds j (some k),k+1))=_;rw[e1];rfl
theorem laid_ok2 {mask finger moves:Nat}{led plain:Bool}(hm:Mw (mask+1))(hl:hs.size<=mask):∃(t:Dl) (order:Array Nat),laid mask finger moves led plain hs=some (t,order)/\t.mask=mask/\t.place.size=hs.size/\t.dummies=#[]/\t.led=led/\t.plain=plain/\order.toList.Perm (Bl hs.size):=by
 have o0:Si mask (Array.replicate (mask+1) none) 0:=by
  refine⟨Array.size_replicate,?_,λv hv=>?_,?_⟩
  .rw[Hi];simp
  .rw[Hi]at hv;cases(EC hv)
  .rw[Hi];simp
 obtain⟨ow,f1,f2⟩:=rX hm hs.toList _ 0 o0 (by rw[ES,A8];exact hl);rw[ES,A8]at f1 f2
 have lc:layClean mask hs=some ow:=by
  unfold layClean;rw[<- O2];refine(congrArg (G0 Io) f1).trans rfl
 unfold laid;rw[lc]
 have e1:((Bl (mask+1)).filterMap λj=>(ow.getD j none).map λx=>(j,x)).map (·.2)=ow.toList.filterMap id:=by
  rw[Pu]
  have:ow.toList=(Bl (mask+1)).map λj=>ow.getD j none:=by
   apply Fj;intro j;rw[C0,AL];rcases Fg j (mask+1)with h|h
   .rw[EA h,AT (by rw[f2.s];exact h)];show _=some (ow.getD j none);rw[FH,AT (by rw[f2.s];exact h)];rfl
   .rw[BJ (by rw[B3];exact h),DK (by rw[f2.s];exact h)];rfl
  rw[this,Ju];congr 1
  funext j;show G0 _ (G0 _ (ow.getD j none))=ow.getD j none;cases ow.getD j none<;>rfl
 have e2:((Bl (mask+1)).filterMap λj=>(ow.getD j none).map λx=>(j,x)).length=hs.size:=by
  have:=congrArg Eg e1;rw[Ae,f2.n]at this;exact this
 refine⟨_,_,rfl,rfl,?_,rfl,rfl,rfl,?_⟩
 .show((((Bl (mask+1)).filterMap λj=>(ow.getD j none).map λx=>(j,x)).map (·.1)).toArray).size=_;rw[A4,Ae,e2]
 .show(((Bl (mask+1)).filterMap λj=>(ow.getD j none).map λx=>(j,x)).map (·.2)).Perm _;rw[e1];exact f2.p
end SetTable
end PySem
namespace L2
open PySem PySem.Spec PyProof.Rows L3
theorem ZfH:Ll U5 "set.__and__" = some Ea.«frozenset.__and__»:=JC (id':="frozenset.__and__") (by kernel_rfl) rfl (by nofun) (by kernel_rfl)
theorem ZfG:Ll U5 "set.__xor__" = some Ea.«frozenset.__xor__»:=JC (id':="frozenset.__xor__") (by kernel_rfl) rfl (by nofun) (by kernel_rfl)
theorem uI (xs:Array α)(i:Nat)(h:i<xs.size):(Dr xs i).size=xs.size-1:=by
 unfold Dr;rw[FU,IA,IA];ext
theorem uH (xs:Array α)(i:Nat):(Dr xs i).toList=xs.toList.eraseIdx i:=by
 unfold Dr;rw[FO,NR,NR,List.eraseIdx_eq_take_drop_succ];simp;exact CB (by simp)
theorem xy (xs:Array α)(p:Nat)(x:α):(IZ xs p x).size=xs.size+1:=by
 unfold IZ;rw[FU,Array.size_push,IA,IA];ext
section
variable {prog:Bs}{w:BG}{A:Ck}{E:Ah->Ap->Prop}{s:Ap}{a:Av}
theorem rS (ho:s.heap.get? a=some o)(hd:o.data=Ip es ep t)(hes:IT w es.toList)(hsz:es.size<A9)(hfit:t.fits es.size=true)
  (h:Q (es.toList.findIdx? λe=>(Bv prog w).is x e.2) s):Aq (Ax prog w) A (PQ a (.str x tk) (Fi w x)) Q E s:=by
 unfold PQ;generalize hN:(99999:Nat)=N;rw[show(100000:Nat)=99999+1 from rfl,hN];unfold setFindIn;refine Aa (A7 ho hd hfit ?_);dsimp only;rw[if_pos (byScan_of (knd:=Bv prog w) (x:=.str x tk) rfl hsz hes.elems)];refine Aa (FA ?_);refine Aa (V2 (knd:=Bv prog w) (k:=x) (by simp[Bv,D0]) ho hd hfit hes.elems ?_);cases hr:es.toList.findIdx? λe=>(Bv prog w).is x e.2 with
 |none=>rw[hr]at h;exact Ab h
 |some j=>rw[hr]at h;refine Ab ?_;rw[ES];exact h
theorem yp (hS:CL w s.heap a ks led)(h:∀r,r.isSome=decide (x∈ks)->Q r s):Aq (Ax prog w) A (PQ a (.str x tk) (Fi w x)) Q E s:=by
 obtain⟨o,es,ep,tb,ho,hex,hd,hes,hp,hsz,hfit,hled,hpl⟩:_:=hS;refine rS ho hd hes hsz hfit (h _ ?_);by_cases hx:x∈ks
 .obtain⟨j,hj⟩:=jC hes (hp.mem_iff.mpr hx);rw[hj,decide_eq_true hx];rfl
 .rw[iX hes (λh=>hx (hp.mem_iff.mp h)),decide_eq_false hx];rfl
theorem yo (hS:CL w s.heap a ks led)
  (hQ:∀h',By a s.heap h'->CL w h' a (ks.erase x) led->Q (decide (x∈ks)) {s with heap:=h' }):Aq (Ax prog w) A (LN a (.str x tk) (Fi w x)) Q E s:=by
 obtain⟨o,es,ep,tb,ho,hex,hd,hes,hp,hsz,hfit,hled,hpl⟩:_:=id hS;unfold LN;refine Aa (rS ho hd hes hsz hfit ?_);by_cases hx:x∈ks
 .obtain⟨j,hj⟩:=jC hes (hp.mem_iff.mpr hx);rw[hj];dsimp only;refine Aa (A7 ho hd hfit ?_);dsimp only;obtain⟨hl,hm,-⟩:=List.findIdx?_eq_some_iff_getElem.mp hj;have hl':j<es.size:=by simpa using hl
  have hxj:strOf (es.toList[j]).2=x:=by
   obtain⟨y,t,e⟩:=hes _ (JA hl);rw[e]at hm ⊢;have:y=x:=by simpa[Bv,D0]using hm
   exact this
  have hpe:(x::GA (Dr es j).toList).Perm ks:=by
   have z:=((L8 es.toList j hl).map λe:Int×Ah=>strOf e.2).trans hp;rw[AM,hxj]at z;rw[uH];exact z
  have hok:IT w (Dr es j).toList:=λe he=>by
   rw[uH]at he;exact hes e (List.mem_of_mem_eraseIdx he)
  have hf:tb.place.size=es.size/\tb.fill<=tb.mask:=by
   unfold Eo at hfit;simpa using hfit
  have hpj:tb.place[j]? = some (tb.place[j]'(by ext)):=AT _
  have hdr:tb.drop j={tb with place:=Dr tb.place j,dummies:=IZ tb.dummies (CZ tb.dummies (tb.place[j]'(by ext))) (tb.place[j]'(by ext))}:=by
   unfold SetTable.drop;rw[hpj]
  have hsz2:=uI es j hl';obtain⟨o1,ho1,hex1,hd1⟩:=stored ho hex hd;have hline:A9<=Am:=by decide
  refine Aa (Dx ho hd ?_ (by ext));refine Aa (wpAny_point (Ab ?_));have z:=hQ _ (Bf _ _ _) ⟨o1,_,_,_,ho1,hex1,hd1,hok,(List.cons_perm_iff_perm_erase.mp hpe).2,by ext,?_,?_,λ_=>?_⟩
  .rw[decide_eq_true hx]at z;exact z
  .rw[hdr];unfold Eo HY;dsimp only;rw[uI _ _ (by ext),xy,hsz2];have:=hf.2;unfold HY at this;simp only[BQ,beq_iff_eq,decide_eq_true_eq];ext
  .rw[hdr];exact hled
  .rw[hdr];exact hpl (by ext)
 .rw[iX hes (λh=>hx (hp.mem_iff.mp h))];refine Ab ?_;have z:=hQ s.heap (Cj _ _) (by rw[NK hx];exact hS);rw[decide_eq_false hx]at z;exact z
theorem CL.typeIs (hS:CL w s.heap a ks led):s.TypeIs (.ref a) "set":=by
 obtain⟨o,es,ep,t,ho,hex,-⟩:_:=hS;exact⟨o,ho,hex.1⟩
theorem CL.keep (hS:CL w h a ks led)(hk:∀o,h.get? a=some o->h'.get? a=some o):CL w h' a ks led:=by
 obtain⟨o,es,ep,t,ho,CK⟩:=hS;exact⟨o,es,ep,t,hk _ ho,CK⟩
theorem Qu {M:Model}{α:Type}{f:α->PUnit->Sem (ForInStep PUnit)}{I:List α->Ap->Prop}(D:List α)(hf:∀d x l s (Q':ForInStep PUnit->Ap->Prop),D=d++x::l->I d s->(∀s',I (d++[x]) s'->Q' (.yield ⟨⟩) s')->Aq M A (f x ⟨⟩) Q' E s) :
  ∀l d s Q,D=d++l->I d s->(∀s',I D s'->Q ⟨⟩ s')->Aq M A (forIn l F1 f) Q E s
 |[],d,s,Q,e,h,hQ=>by
  rw[Ph];rw[C1]at e;subst e;exact Ab (hQ s h)
 |x::l,d,s,Q,e,h,hQ=>by
  rw[GR];refine Aa (hf d x l s _ e h λs' h'=>?_);exact Qu D hf l (d++[x]) s' Q (by rw[e,Bm];rfl) h' hQ
theorem T6 {es:List (Int×Ah)}(hes:IT w es){Q:Option Bool×Unit->Ap->Prop}(h:Q (none,()) s){f:Int×Ah->Option Bool×Unit->Sem (ForInStep (Option Bool×Unit))}(hf:∀k x t r,f (k,.str x t) r=pure (.yield (none,()))):Aq (Ax prog w) A (forIn es (none,()) f) Q E s:=by
 induction es with
 |nil=>rw[Ph];exact Ab h
 |cons e es ih=>obtain⟨x,t,rfl⟩:=hes e (AA ..);rw[GR,hf];exact Aa (Ab (ih λe he=>hes e (Aw _ he)))
theorem ZfN {Q:Bool->Ap->Prop}(sets)(hq:∀b∈sets,∃ks led,CL w s.heap b ks led)(h:Q true s):Aq (Ax prog w) A (setsQuiet sets) Q E s:=by
 unfold setsQuiet;refine Aa ?_
 have key:∀sets:List Av,(∀b∈sets,∃ks led,CL w s.heap b ks led)->∀(Q:Option Bool×Unit->Ap->Prop) (f:Av->Option Bool×Unit->Sem (ForInStep (Option Bool×Unit))),(∀b r Q',(∃ks led,CL w s.heap b ks led)->Q' (.yield (none,())) s->Aq (Ax prog w) A (f b r) Q' E s)->Q (none,()) s->Aq (Ax prog w) A (forIn sets (none,()) f) Q E s:=by
  intro sets;induction sets with
  |nil=>intro _ Q f _ h;rw[Ph];exact Ab h
  |cons b sets ih=>intro hq Q f hf h;rw[GR];exact Aa (hf b _ _ (hq b (AA ..)) (ih (λc hc=>hq c (Aw _ hc)) Q f hf h))
 refine key sets hq _ _ (λb r Q' ⟨ks,led,hS⟩ h'=>?_) (Ab h);obtain⟨o,es,ep,t,ho,hex,hd,hes,hp,hsz,hfit,hled,hpl⟩:_:=hS;refine Aa (wpAny_setEntries_of ho hd hfit ?_);refine Aa ?_;rw[<- Lk];exact T6 hes (Ab h') λ_ _ _ _=>rfl
theorem jO (h:Q (w.params.followText "set-order") s):Aq (Ax prog w) A IB Q E s:=by
 unfold IB;exact Aa (Dg (Ab h))
theorem uT (hS:CL w s.heap a ks (!(w.params.followText "set-order")))(hf:CL w s.heap f kf (!(w.params.followText "set-order")))
  (hq:∀b∈others,∃ks led,CL w s.heap b ks led)
  (hQ:∀(es:Array (Int×Ah)) (h':CU),IT w es.toList->(GA es.toList).Perm ks->By f s.heap h'->CL w h' f kf (!(w.params.followText "set-order"))->Q es {s with heap:=h' }) :
  Aq (Ax prog w) A (OO a others (some f)) Q E s:=by
 obtain⟨o,es,ep,t,ho,hex,hd,hes,hp,hsz,hfit,hled,hpl⟩:_:=id hS;unfold OO;refine Aa (A7 ho hd hfit ?_);dsimp only;refine Aa (jO ?_);have plain_ok:=hQ es s.heap hes hp (Cj _ _) hf;split
 .next c=>
  unfold setWalk;refine Aa (A7 ho hd hfit ?_);dsimp only;refine Aa (jO ?_);split
  .refine Aa (Dg (Ab ?_));have pp:=wC (w.params.setOrder a ep) es;exact hQ _ s.heap (λe he=>hes e (pp.mem_iff.mp he)) ((pp.map _).trans hp) (Cj _ _) hf
  .next ft=>
   have ft:w.params.followText "set-order" = false:=by simpa using ft
   rw[ft]at c hled;have hl:=hled
   have h1:es.size<=1:=by
    rcases Fg 1 es.size with h|h
    .have hq:=hpl (by ext);rw[hq]at c;simp at c;exact c
    .exact h
   split
   .next hc=>
    have h':(!t.plain && decide (es.size > 1))=true:=hc;simp at h';ext
   .refine Aa ?_;show Aq _ A (if (!t.led && decide (es.size > 1))=true then unsupported "set:maker-not-led" else pure ()) _ E s;rw[if_neg (by rw[hl];simp)];exact Ab (Ab plain_ok)
 .refine Aa (ZfN (a::others) (λb hb=>?_) ?_)
  .rcases AU.mp hb with rfl|hb
   .exact⟨_,_,hS⟩
   .exact hq b hb
  .rw[if_neg (by simp)];refine Aa (FA ?_);obtain⟨o2,es2,ep2,t2,ho2,hex2,hd2,hes2,hp2,hsz2,hfit2,hled2,hpl2⟩:_:=id hf;refine Aa (A7 ho2 hd2 hfit2 ?_);dsimp only;split
   .have hline:A9<=Am:=by decide
    obtain⟨o1,ho1,hex1,hd1⟩:=stored ho2 hex2 hd2;refine Aa (Dx ho2 hd2 (Ab (hQ es _ hes hp (Bf _ _ _) ⟨o1,_,_,_,ho1,hex1,hd1,hes2,hp2,hsz2,?_,?_,λh=>?_⟩)) (by ext))
    .exact hfit2
    .show(t2.led && t.led)=_;rw[hled2,hled,Jk]
    .show(t2.plain && t.plain)=false;rw[hpl2 h,Iq]
   .exact Ab plain_ok
theorem UL (hT:s.TypeIs (.ref b) "set")(h:Q true s):Aq (Ax prog w) A (Ia (.ref b)) Q E s:=by
 unfold Ia orM;exact Aa (HS hT Lf (Ab h))
theorem vX (hT:s.TypeIs (.ref b) "set")(h:Q (.type "set") s):Aq (Ax prog w) A (IG b) Q E s:=by
 unfold IG;exact Aa (HS hT Lf (Ab h))
noncomputable def Fa (w:BG):Obj:={cls:=.type "set",dict:=none,data:=.set #[] 0 (.fresh 0 0 (!(w.params.followText "set-order")))}
theorem vP (h:Q (.ref s.heap.objs.size) {s with heap:=s.heap.push (Fa w)}):Aq (Ax prog w) A (newSet (.type "set")) Q E s:=by
 unfold newSet;refine Aa (jO ?_);dsimp only;simp only[newObj];exact Aa (wpAny_alloc (Ab h))
theorem ZP:∀(l ks:List Str),ks.Nodup->(l.foldl (λks x=>if x∈ks then ks else ks++[x]) ks).Nodup/\∀x,x∈l.foldl (λks x=>if x∈ks then ks else ks++[x]) ks↔x∈ks\/x∈l
 |[],ks,h=>⟨h,λx=>⟨.inl,λz=>z.elim id λz=>absurd z (AX)⟩⟩
 |y::l,ks,h=>by
  rw[CC];split
  .next c=>
   obtain⟨i1,i2⟩:=ZP l ks h;refine⟨i1,λx=>(i2 x).trans ?_⟩;rw[Bx];exact⟨λz=>z.elim .inl λz=>.inr (.inr z),λz=>z.elim .inl λz=>z.elim (λe=>.inl (e ▸ c)) .inr⟩
  .next c=>
   obtain⟨i1,i2⟩:=ZP l (ks++[y]) (Bt.mpr ⟨h,by simp,λa ha b hb=>by rw[AN.mp hb];exact λe=>c (e ▸ ha)⟩);refine⟨i1,λx=>(i2 x).trans ?_⟩;rw[D7,Hu,Bx,or_assoc]
theorem Uw (l:List Str)(x:Str):x∈fm l↔x∈l:=by
 have:=(ZP l [] JQ).2 x;unfold fm;rw[this];exact⟨λz=>z.elim (λz=>absurd z AX) id,.inr⟩
theorem X9 (l:List Str):(fm l).Nodup:=(ZP l [] JQ).1
theorem vV {id:String}(ho:s.heap.get? a=some o)(hd:o.data=.set es ep t)(hf:t.fits es.size=true)(h:Q () s):Aq (Ax prog w) A (BK id a ep) Q E s:=by
 unfold BK;refine Aa (VU ho hd hf ?_);rw[if_neg (by simp)];exact Ab h
theorem ux {id:String}(har:a≠r)(hgr:g≠r)(ho:s.heap.get? a=some o)(hd:o.data=.set es0 ep t)(hfit:t.fits es0.size=true)(hes:IT w es)(hl:es.length+1<A9)(hg:CL w s.heap g kg (!(w.params.followText "set-order")))(hr:CL w s.heap r [] (!(w.params.followText "set-order")))
  (hQ:∀h',By r s.heap h'->CL w h' r (fm ((GA es).filter (·∈kg))) (!(w.params.followText "set-order"))->Q ⟨⟩ {s with heap:=h' }) :
  Aq (Ax prog w) A (forIn es F1 λx __s=>match x with
   |(h,x)=>do
    Gu [x] do
     let __do_lift <- PQ g x h
     if __do_lift.isSome=true then do
      let _ <- IC r x h
      pure ()
     else pure ()
    BK id a ep
    pure (C8 F1)) Q E s:=by
 refine Qu (I:=λd s'=>∃h',By r s.heap h'/\CL w h' r (fm ((GA d).filter (·∈kg))) (!(w.params.followText "set-order"))/\s'={s with heap:=h' }) es ?_ es [] s Q rfl ⟨s.heap,Cj _ _,hr,rfl⟩ ?_
 .rintro d ⟨k,v⟩ l s1 Q' hx ⟨h1,sb,hS,rfl⟩ hQ';obtain⟨x,tk,e⟩:=hes _ (by rw[hx];exact AR _ (AA ..));cases e;have hdl:d.length<es.length:=by rw[hx,Ao,AO];ext
  have ek:GA (d++[(Fi w x,C2 x tk)])=GA d++[x]:=by unfold GA;rw[AI];rfl
  have ua:∀{h2:CU} {Q'':Unit->Ap->Prop},By r s.heap h2->Q'' () {s with heap:=h2}->Aq (Ax prog w) A (BK id a ep) Q'' E {s with heap:=h2}:=λ{h2} _ sb2 q=>vV ((sb2.2 a har).trans ho) hd hfit q;refine Aa (Bh (Aa (yp (hg.keep λo e=>(sb.2 g hgr).trans e) λb hb=>?_)));split
  .next c=>
   have hxg:=of_decide_eq_true (hb.symm.trans c);refine Aa (jM hS ?_ λ_ h2 sb2 hS2=>Ab ?_)
   .have z1:=Ux ((GA d).filter (·∈kg));have z2:=HK (λx=>decide (x∈kg)) (GA d);have z3:(GA d).length=d.length:=by unfold GA;rw[Ae]
    ext
   .refine Aa (ua (sb.trans sb2) (Ab (hQ' _ ⟨h2,sb.trans sb2,?_,rfl⟩)));rw[ek,Hv,List.filter_cons_of_pos (by simpa using hxg),Rv,pQ];exact hS2
  .next c=>
   have hxg:¬x∈kg:=λh=>c (hb.trans (decide_eq_true h));refine Ab (Aa (ua sb (Ab (hQ' _ ⟨h1,sb,?_,rfl⟩))));rw[ek,Hv,List.filter_cons_of_neg (by simpa using hxg),Rv,C1];exact hS
 .rintro s1 ⟨h1,sb,hS,rfl⟩;exact hQ h1 sb hS
theorem qf {b:Av}{ks ls:List Str}{Q:Ah->Ap->Prop}(hab:b≠a)(ha:CL w s.heap a ks (!(w.params.followText "set-order")))(hb:CL w s.heap b ls (!(w.params.followText "set-order")))(hz:ks.length+1<A9)(hy:ls.length+1<A9)
  (hQ:∀h' ms,(∀c o,s.heap.get? c=some o->h'.get? c=some o)->CL w h' s.heap.objs.size ms (!(w.params.followText "set-order"))->ms.Nodup->(∀x,x∈ms↔x∈ks/\x∈ls)->ms.length<=ks.length+ls.length->Q (.ref s.heap.objs.size) {s with heap:=h' }) :
  Aq (Ax prog w) A (BD .BitAnd (.ref a) (.ref b)) Q E s:=by
 refine Sm ha.typeIs hb.typeIs F.fills_set_and F.slot_set_and (B9 F.slot_set_and ha.typeIs ZfH ?_ (F.args_set_and_2 _ _));refine Aa (Ce rfl ?_);dsimp only;rw[if_neg (by decide)];dsimp only;unfold andM;refine Aa (Aa (UL ha.typeIs ?_));refine UL hb.typeIs ?_;rw[if_neg (by decide)];refine Aa (Ce rfl ?_);refine Aa ?_;unfold RA;rw[if_neg (by simpa using hab)];refine Aa (vX ha.typeIs (Aa (vP ?_)));refine Aa (Ce rfl ?_);have hk0:∀c o,s.heap.get? c=some o->(s.heap.push (Fa w)).get? c=some o:=λc o e=>Af _ e;have ha1:=ha.keep λo e=>hk0 a o e;have hb1:=hb.keep λo e=>hk0 b o e;have hr1:CL w (s.heap.push (Fa w)) s.heap.objs.size [] (!(w.params.followText "set-order")):=jL (Ay _ rfl) rfl;have lta:a<s.heap.objs.size:=by obtain⟨o,es,ep,t,ho,-⟩:=ha;exact An ho
 have ltb:b<s.heap.objs.size:=by obtain⟨o,es,ep,t,ho,-⟩:=hb;exact An ho
 refine Aa (Bh ?_);refine Aa (UL hb1.typeIs ?_);rw[if_pos rfl];refine Aa (Ce rfl ?_)
 have go:∀{c d:Av} {kc kd:List Str},c<s.heap.objs.size->d<s.heap.objs.size->kc.length+1<A9->CL w (s.heap.push (Fa w)) c kc (!(w.params.followText "set-order"))->CL w (s.heap.push (Fa w)) d kd (!(w.params.followText "set-order"))->(∀x,x∈kc/\x∈kd↔x∈ks/\x∈ls)->kc.length<=ks.length+ls.length->∀Q2:Unit->Ap->Prop,(∀h' ms,(∀c o,s.heap.get? c=some o->h'.get? c=some o)->CL w h' s.heap.objs.size ms (!(w.params.followText "set-order"))->ms.Nodup->(∀x,x∈ms↔x∈ks/\x∈ls)->ms.length<=ks.length+ls.length->Q2 () {s with heap:=h' }) ->
   Aq (Ax prog w) A.in1 (do
    let was <- bH c
    let __do_lift <- OO c [d,s.heap.objs.size] (some s.heap.objs.size)
    forIn __do_lift F1 λx __s=>match x with
     |(h,x)=>do
      Gu [x] do
       let __do_lift <- PQ d x h
       if __do_lift.isSome=true then do
        let _ <- IC s.heap.objs.size x h
        pure ()
       else pure ()
      BK (toString "frozenset."++toString "__and__") c was
      pure (C8 F1)
    pure ()) Q2 E { s with heap:=s.heap.push (Fa w) }:=by
  intro c d kc kd ltc ltd hcl hc hd hm hle Q2 q2;obtain⟨o,es,ep,t,ho,hex,hdd,hes,hp,hsz,hfit,hled,hpl⟩:_:=id hc;refine Aa (VU ho hdd hfit ?_);refine Aa (uT hc hr1 (λb hb=>?_) λes' h' hes' hp' sb hr2=>?_)
  .simp only[Bx,AX,or_false]at hb;rcases hb with rfl|rfl
   .exact⟨_,_,hd⟩
   .exact⟨_,_,hr1⟩
  .have sb:=sb;rw[<- Lk]
   have hel:es'.toList.length=kc.length:=by
    have:=hp'.length_eq;unfold GA at this;rwa[Ae]at this
   refine Aa (ux (A5 ltc) (A5 ltd) ((sb.2 c (A5 ltc)).trans ho) hdd hfit hes' (by ext) (hd.keep λo e=>(sb.2 d (A5 ltd)).trans e) hr2 λh2 sb2 hS2=>Ab ?_);refine q2 h2 _ (λe o he=>?_) hS2 (X9 _) (λx=>?_) ?_
   .have ne:=A5 (An he);exact(sb2.2 e ne).trans ((sb.2 e ne).trans (hk0 e o he))
   .rw[Uw,FC,hp'.mem_iff];simp only[decide_eq_true_eq];exact hm x
   .have z1:=Ux ((GA es'.toList).filter (·∈kd));have z2:=HK (λx=>decide (x∈kd)) (GA es'.toList);have z3:=hp'.length_eq;ext
 obtain⟨o1,es1,ep1,t1,ho1,hex1,hd1,hes1,hp1,hsz1,hfit1,-⟩:_:=id ha1;obtain⟨o2,es2,ep2,t2,ho2,hex2,hd2,hes2,hp2,hsz2,hfit2,-⟩:_:=id hb1;refine Aa (jZ ho2 hd2 hfit2 ?_);refine Aa (jZ ho1 hd1 hfit1 ?_);by_cases c:es2.size > es1.size
 .rw[if_pos c];refine go lta ltb hz ha1 hb1 (λx=>Iff.rfl) (by ext) _ λh' ms k1 k2 k3 k4 k5=>?_;exact Ab (Ab ⟨_,rfl,λe=>(by cases e),hQ h' ms k1 k2 k3 k4 k5⟩)
 .rw[if_neg c];refine go ltb lta hy hb1 ha1 (λx=>and_comm) (by ext) _ λh' ms k1 k2 k3 k4 k5=>?_;exact Ab (Ab ⟨_,rfl,λe=>(by cases e),hQ h' ms k1 k2 k3 k4 k5⟩)
theorem sT {F:Option (Dl×Array Nat)->Sem (Array (Int×Ah)×Dl)}{es:Array (Int×Ah)}{mask finger moves:Nat}{led plain:Bool}{Q:Array (Int×Ah)×Dl->Ap->Prop}(hF:∀t order,(order.filterMap (es[·]?)).size=es.size->F (some (t,order))=pure (order.filterMap (es[·]?),t))(hm:Dl.Mw (mask+1))(hl:es.size<=mask)
  (h:∀(es':Array (Int×Ah)) (t:Dl),es'.toList.Perm es.toList->es'.size=es.size->t.mask=mask->t.place.size=es.size->t.dummies=#[]->t.led=led->t.plain=plain->Q (es',t) s) :
  Aq (Ax prog w) A (F (K3 mask finger moves led plain (es.map (·.1)))) Q E s:=by
 obtain⟨t,order,h1,h2,h3,h4,h5,h6,h7⟩:=Dl.laid_ok2 (hs:=es.map (·.1)) hm (by rw[RB];exact hl);rw[RB]at h3 h7
 have pp:(order.filterMap (es[·]?)).toList.Perm es.toList:=by
  rw[Array.toList_filterMap];have z:=h7.filterMap (λj=>es.toList[j]?);rw[show es.size=es.toList.length by simp,sS]at z;refine(of_eq ?_).trans z;congr 1
  funext j;rw[C0]
 have sz:(order.filterMap (es[·]?)).size=es.size:=by
  have:=pp.length_eq;rwa[A8,A8]at this
 rw[h1,hF t order sz];exact Ab (h _ t pp sz h2 h3 h4 h5 h6)
theorem qe {n:Nat}(h1:21<=n*5)(h2:n<=12):Dl.Mw (Ew (n*2)-1+1)/\n<=Ew (n*2)-1/\Ew (n*2)<=32:=by
 have:n=5\/n=6\/n=7\/n=8\/n=9\/n=10\/n=11\/n=12:=by ext
 rcases this with rfl|rfl|rfl|rfl|rfl|rfl|rfl|rfl<;>exact⟨by first|exact .inr (by decide)|exact .inl (.inr (.inl (by decide))),by decide,by decide⟩
theorem vt {r:Av}{ls:List Str}{Qu:Sem Unit}{Q:Unit->Ap->Prop}(hne:r≠a)(hb:CL w s.heap a ls (!(w.params.followText "set-order")))(hr:s.heap.get? r=some (Fa w))(h12:ls.length<=12)
    (hQ:∀h',By r s.heap h'->CL w h' r ls (!(w.params.followText "set-order"))->Q () {s with heap:=h' }):Aq (Ax prog w) A (setMerge r a Qu) Q E s:=by
  obtain⟨o,es,ep,t,ho,hex,hd,hes,hp,hsz,hfit,hled,hpl⟩:_:=id hb
  have hlen:es.size=ls.length:=by
    have:=hp.length_eq;unfold GA at this;rw[Ae]at this;simpa using this
  have hf:t.place.size=es.size/\t.fill<=t.mask:=by
    unfold Eo at hfit;simpa using hfit
  unfold setMerge;rw[if_neg (by simpa using hne)];refine Aa (A7 ho hd hfit ?_);dsimp only;split
  · next c=>
    have e0:es=#[]:=by simpa using c
    have l0:=AC (by rw[<- hlen,e0];rfl);refine Ab (hQ s.heap (Cj _ _) ?_);rw[l0];exact jL hr rfl
  · next c=>
    have ne0:es.size≠0:=λz=>c (by simpa using z);have pl:=hpl ne0;have hline:A9<=Am:=by decide
    refine Aa (BI (Q:=λ_ s'=>∃(h1:CU) (o1:Obj) (ep1:Nat) (ts:Dl),s'={s with heap:=h1}/\By r s.heap h1/\h1.get? r=some o1/\o1.ExactSet/\o1.data=Ip #[] ep1 ts/\ts.place.size=0/\ts.dummies=#[]/\ts.led=(!(w.params.followText "set-order"))/\Dl.Mw (ts.mask+1)/\es.size<=ts.mask) ?_ ?_ λ_ _ h=>h)
    · unfold setRoomFor
      refine Aa (A7 hr rfl rfl ?_);dsimp only;by_cases c5:21<=es.size*5
      · rw [show (Po 0 0 (!(w.params.followText "set-order"))).roomFor es.size=some (es.size*2) from by
          unfold Oj;rw [if_pos (by show (0+es.size)*5 >= 7*3;ext)];show some ((0+es.size)*2)=_;rw [ES]]
        dsimp only;obtain⟨g1,g2,g3⟩:=qe c5 (by ext);unfold setRelay;refine Aa (A7 hr rfl rfl ?_);dsimp only
        rw [if_neg (by have:(32:Nat)<=Am:=by decide
                       ext)]
        refine Aa (sT (es:=#[]) (λt order h=>?_) g1 (C9 _) λes' t' pp sz m1 m2 m3 m4 m5=>?_)
        · show(if _ then _ else _)=_
          rw[h,if_neg (by simp)]
        · dsimp only
          have ee:=Kg sz;subst ee;obtain⟨o2,ho2,hex2,hd2⟩:=stored (es1:=#[]) (t2:=t') hr ⟨rfl,rfl,rfl⟩ rfl;exact Dx hr rfl ⟨_,o2,_,t',rfl,Bf _ _ _,ho2,hex2,hd2,m2,m3,m4,by rw[m1];exact g1,by rw[m1];exact g2⟩ (C9 _)
      · rw [show (Po 0 0 (!(w.params.followText "set-order"))).roomFor es.size=none from by
          unfold Oj;rw [if_neg (by show ¬ (0+es.size)*5 >= 7*3;ext)]]
        exact Ab ⟨s.heap,_,0,_,rfl,Cj _ _,hr,⟨rfl,rfl,rfl⟩,rfl,rfl,rfl,rfl,.inl (.inl rfl),by show es.size<=7;ext⟩
    · rintro - - ⟨h1,o1,ep1,ts,rfl,sb,ho1,hex1,hd1,hp0,hd0,hl1,hmw,hml⟩
      have fill0:ts.fill=0:=by unfold HY;rw[hp0,hd0];rfl
      refine Aa (A7 (s:={s with heap:=h1}) ho1 hd1 (by unfold Eo;rw[fill0,hp0];simp) ?_);dsimp only
      have hroad:ts.road t=.slotForSlot\/ts.road t=.clean:=by
        unfold SetTable.road;rw[fill0];split
        · next z=>simp at z
        · split
          · exact .inl rfl
          · exact .inr rfl
      rcases hroad with e|e
      · rw[e]
        dsimp only;obtain⟨o2,ho2,hex2,hd2⟩:=stored (es1:=es) (t2:={t with finger:=ts.finger,led:=ts.led && t.led,moves:=ts.moves,plain:=ts.plain && t.plain}) ho1 hex1 hd1;refine Dx (s:={s with heap:=h1}) ho1 hd1 (hQ _ (sb.trans (Bf _ _ _)) ⟨o2,_,_,_,ho2,hex2,hd2,hes,hp,hsz,hfit,?_,λ_=>?_⟩) (by ext)
        · show(ts.led && t.led)=_
          rw[hl1,hled,Jk]
        · show(ts.plain && t.plain)=false
          rw[pl,F9]
      · rw[e]
        dsimp only;refine Aa (sT (s:={s with heap:=h1}) (λt order h=>?_) hmw hml λes' t' pp sz m1 m2 m3 m4 m5=>?_)
        · show(if _ then _ else _)=_
          rw[h,if_neg (by simp)]
        · dsimp only
          obtain⟨o2,ho2,hex2,hd2⟩:=stored (es1:=es') (t2:=t') ho1 hex1 hd1;refine Dx (s:={s with heap:=h1}) ho1 hd1 (hQ _ (sb.trans (Bf _ _ _)) ⟨o2,_,_,_,ho2,hex2,hd2,λe he=>hes e (pp.mem_iff.mp he),(pp.map _).trans hp,by ext,?_,?_,λ_=>?_⟩) (by ext)
          · unfold Eo HY
            rw[m2,m3,sz,m1];simp;exact hml
          · rw[m4,hl1,hled,Jk]
          · rw[m5,pl,F9]
theorem t6 {id:String}(har:a≠r)(ho:s.heap.get? a=some o)(hd:o.data=.set es0 ep t)(hfit:t.fits es0.size=true)(hes:IT w es)(hnd:(GA es).Nodup)(hkg:kg.Nodup)(hl:kg.length+es.length+1<A9)(hr:CL w s.heap r kg (!(w.params.followText "set-order")))
  (hQ:∀h' ms,By r s.heap h'->CL w h' r ms (!(w.params.followText "set-order"))->ms.Nodup->(∀x,x∈ms↔(x∈kg/\x∉GA es)\/(x∈GA es/\x∉kg))->ms.length<=kg.length+es.length->Q ⟨⟩ {s with heap:=h' }) :
  Aq (Ax prog w) A (forIn es F1 λx __s=>match x with
   |(h,x)=>do
    Gu [x] do
     let __do_lift <- LN r x h
     if (!__do_lift)=true then do
      let _ <- IC r x h
      pure ()
     else pure ()
    BK id a ep
    pure (C8 F1)) Q E s:=by
 refine Qu (I:=λd s'=>∃h' ms,By r s.heap h'/\CL w h' r ms (!(w.params.followText "set-order"))/\ms.Nodup/\(∀x,x∈ms↔(x∈kg/\x∉GA d)\/(x∈GA d/\x∉kg))/\ms.length<=kg.length+d.length/\s'={s with heap:=h' }) es ?_ es [] s Q rfl ⟨s.heap,kg,Cj _ _,hr,hkg,λx=>by simp[GA],AJ _,rfl⟩ ?_
 .rintro d ⟨k,v⟩ l s1 Q' hx ⟨h1,ms,sb,hS,nd,hm,hml,rfl⟩ hQ';obtain⟨x,tk,e⟩:=hes _ (by rw[hx];exact AR _ (AA ..));cases e;have hdl:d.length<es.length:=by rw[hx,Ao,AO];ext
  have ek:GA (d++[(Fi w x,C2 x tk)])=GA d++[x]:=by unfold GA;rw[AI];rfl
  have hxd:x∉GA d:=by
   rw[hx]at hnd;unfold GA at hnd;rw[AI,AM]at hnd;exact λz=>(Bt.mp hnd).2.2 x z x (AA ..) rfl
  have ua:∀{h2:CU} {Q'':Unit->Ap->Prop},By r s.heap h2->Q'' () {s with heap:=h2}->Aq (Ax prog w) A (BK id a ep) Q'' E {s with heap:=h2}:=λ{h2} _ sb2 q=>vV (s:={s with heap:=h2}) ((sb2.2 a har).trans ho) hd hfit q;refine Aa (Bh (Aa (yo (s:={s with heap:=h1}) hS λh2 sb2 hS2=>?_)));by_cases hxm:x∈ms
  .rw[decide_eq_true hxm,if_neg (by decide)];refine Ab (Aa (ua (sb.trans sb2) (Ab (hQ' _ ⟨h2,_,sb.trans sb2,hS2,nd.erase x,λy=>?_,?_,rfl⟩))))
   .rw[nd.mem_erase_iff,hm,ek,D7,Hu];have hk:=((hm x).mp hxm).elim (λz=>z.1) λz=>absurd z.1 hxd;by_cases e:y=x
    .subst e;simp[hk,hxd]
    .simp[e]
   .have:=List.length_erase_le (a:=x) (l:=ms);rw[Ao];ext
  .rw[decide_eq_false hxm,if_pos (by decide)];rw[NK hxm]at hS2;have hk:x∉kg:=λz=>hxm ((hm x).mpr (.inl ⟨z,hxd⟩));refine Aa (jM (s:={s with heap:=h2}) hS2 (by ext) λ_ h3 sb3 hS3=>Ab ?_);rw[if_neg hxm]at hS3;refine Aa (ua ((sb.trans sb2).trans sb3) (Ab (hQ' _ ⟨h3,_,(sb.trans sb2).trans sb3,hS3,?_,λy=>?_,?_,rfl⟩)))
   .exact Bt.mpr ⟨nd,by simp,λa ha b hb=>by rw[AN.mp hb];exact λe=>hxm (e ▸ ha)⟩
   .rw[D7,Hu,hm,ek,D7,Hu];by_cases e:y=x
    .subst e;simp[hk,hxd]
    .simp[e]
   .rw[Ao,Ao];simp only[E8];ext
 .intro s1;ext1⟨h1,ms,sb,hS,nd,hm,hml,e1'⟩;exact hQ h1 ms sb hS nd hm hml
theorem tq {b:Av}{ks ls:List Str}{Q:Ah->Ap->Prop}(hkn:ks.Nodup)(hln:ls.Nodup)(ha:CL w s.heap a ks (!(w.params.followText "set-order")))(hb:CL w s.heap b ls (!(w.params.followText "set-order")))(h12:ls.length<=12)(hz:ls.length+ks.length+1<A9)
  (hQ:∀h' ms,(∀c o,s.heap.get? c=some o->h'.get? c=some o)->CL w h' s.heap.objs.size ms (!(w.params.followText "set-order"))->ms.Nodup->(∀x,x∈ms↔(x∈ls/\x∉ks)\/(x∈ks/\x∉ls))->ms.length<=ls.length+ks.length->Q (.ref s.heap.objs.size) {s with heap:=h' }) :
  Aq (Ax prog w) A (BD .BitXor (.ref a) (.ref b)) Q E s:=by
 refine Sm ha.typeIs hb.typeIs F.fills_set_xor F.slot_set_xor (B9 F.slot_set_xor ha.typeIs ZfG ?_ (F.args_set_xor_2 _ _));refine Aa (Ce rfl ?_);dsimp only;rw[if_neg (by decide)];dsimp only;unfold andM;refine Aa (Aa (UL ha.typeIs ?_));refine UL hb.typeIs ?_;rw[if_neg (by decide)];refine Aa (Ce rfl ?_);refine Aa ?_;refine Aa (vX ha.typeIs ?_);refine Aa ?_;unfold Rx;refine Aa (vP ?_);have hk0:∀c o,s.heap.get? c=some o->(s.heap.push (Fa w)).get? c=some o:=λc o e=>Af _ e;have lta:a<s.heap.objs.size:=by obtain⟨o,es,ep,t,ho,-⟩:=ha;exact An ho
 have ltb:b<s.heap.objs.size:=by obtain⟨o,es,ep,t,ho,-⟩:=hb;exact An ho
 have hb1:=hb.keep λo e=>hk0 b o e;refine Aa (Ce rfl ?_);refine Aa (Bh ?_);unfold Hy;refine Aa (UL hb1.typeIs ?_);rw[if_pos rfl];refine Aa (Ce rfl ?_);unfold Rz;obtain⟨o2,es2,ep2,t2,ho2,hex2,hd2,hes2,hp2,hsz2,hfit2,-⟩:_:=id hb1;refine Aa (VU ho2 hd2 hfit2 ?_);refine vt (ET ltb) hb1 (Ay _ rfl) h12 λh1 sb1 hr1=>?_;have sb1:=sb1;refine Ab ?_;have hk1:∀c o,s.heap.get? c=some o->h1.get? c=some o:=λc o e=>(sb1.2 c (A5 (An e))).trans (hk0 c o e);have ha1:=ha.keep λo e=>hk1 a o e;refine Aa (Ce rfl ?_);refine Aa (Bh ?_);unfold Rw;rw[if_neg (by simpa using A5 lta)];dsimp only;refine Aa (Fd ha1.typeIs ?_);rw[if_neg (by decide)];refine Aa (UL ha1.typeIs ?_);rw[if_pos rfl];refine Aa (Ab ?_);refine Aa (Ce rfl ?_);refine Al λG' kk'=>?_;obtain⟨o,es,ep,t,ho,hex,hd,hes,hp,hsz,hfit,-⟩:=id ha1;refine kk' ?_;clear kk';refine Aa (VU ho hd hfit ?_);refine Bh ?_;refine Aa (uT ha1 hr1 (λb hb=>?_) λes' h2 hes' hp' sb2 hr2=>?_)
 .rw[AN.mp hb];exact⟨_,_,hr1⟩
 .have sb2:=sb2;rw[<- Lk]
  have hel:es'.toList.length=ks.length:=by
   have:=hp'.length_eq;unfold GA at this;rwa[Ae]at this
  refine Aa (t6 (A5 lta) ((sb2.2 a (A5 lta)).trans ho) hd hfit hes' (hp'.nodup_iff.mpr hkn) hln (by ext) hr2 λh3 ms sb3 hS3 nd hm hml=>Ab (Ab (Ab ⟨_,rfl,λe=>(by cases e),hQ h3 ms (λe o he=>?_) hS3 nd (λx=>?_) (by ext)⟩)))
  .have ne:=A5 (An he);exact(sb3.2 e ne).trans ((sb2.2 e ne).trans (hk1 e o he))
  .rw[hm,hp'.mem_iff]
end
theorem oW (h1:zs.Perm ms)(h2:Lg zs=true)(h3:ms.Nodup)(h4:∀x,x∈ms↔x∈l):zs=HE l:=
 iQ (h1.trans ((F6 h3 (X9 l)).mpr λx=>(h4 x).trans (Uw l x).symm)) h2
noncomputable def La (xs ys:List Str):List Str:=HE (xs.filter (·∈ys))
noncomputable def Lv (xs ys:List Str):List Str:=HE (ys.filter (·∉xs)++xs.filter (·∉ys))
noncomputable def RL (op:NG)(xs ys:List Str):List Str:=if op=.BitAnd then La xs ys else Lv xs ys
section
theorem xD (hop:op=.BitAnd\/op=.BitXor)(hab:b≠a)(ha:CL w s.heap a (fm xs) (!(w.params.followText "set-order")))(hb:CL w s.heap b (fm ys) (!(w.params.followText "set-order")))(hz:(fm xs).length<=12)(hy:(fm ys).length<=12)
  (hQ:∀h' ms,(∀c o,s.heap.get? c=some o->h'.get? c=some o)->CL w h' s.heap.objs.size ms (!(w.params.followText "set-order"))->(∀zs,zs.Perm ms->Lg zs=true->zs=RL op xs ys)->ms.length<64->Q (.ref s.heap.objs.size) {s with heap:=h' }) :
  Aq (Ax prog w) A (BD op (.ref a) (.ref b)) Q E s:=by
 have sb:(30:Nat)<A9:=by decide
 rcases hop with rfl|rfl
 .refine qf hab ha hb (by ext) (by ext) λh' ms hk hS nd hm hl=>hQ h' ms hk hS (λzs h1 h2=>?_) (by ext);unfold RL La;rw[if_pos rfl];exact oW h1 h2 nd λx=>by rw[hm,Uw,Uw,FC,decide_eq_true_eq]
 .refine tq (X9 _) (X9 _) ha hb hy (by ext) λh' ms hk hS nd hm hl=>hQ h' ms hk hS (λzs h1 h2=>?_) (by ext);unfold RL Lv;rw[if_neg (by decide)];exact oW h1 h2 nd λx=>by rw[hm,Uw,Uw,D7,FC,FC,decide_eq_true_eq,decide_eq_true_eq]
def lP (K:Ac)(op:NG)(tb:VK->Hp->Prop)(Q:VK)(x:V)(H1:Hp):Prop:=
 ∃p xs,x=.ref p/\FS K H1 p (xs.map V.str)/\xs.length+1<A9/\(fm xs).length<=12/\tb (λy H2=>∃q ys,y=.ref q/\FS K H2 q (ys.map V.str)/\ys.length+1<A9/\(fm ys).length<=12/\∀l,H2 l=none->Q (.ref l) (CD H2 l (.lst ((RL op xs ys).map V.str)))) H1
def wU (K:Ac)(op:NG)(ta tb:TE):TE:=λU H Q=>ta U H (lP K op (λQ1 H1=>tb U H1 Q1) Q)
theorem A6.more (I:A6 X Ad U H s)(hS:s.heap.objs.size<=S)(hk:∀b u,s.heap.get? b=some u->h'.get? b=some u)(ho:h'.get? S=some o)(hn:∀v,o.data≠.cell v):A6 X ((S,o)::Ad) U H {s with heap:=h',toks:=tk}:=by
 have I2:A6 X Ad U H {s with heap:=h',toks:=tk}:=I.kept hk;refine I2.pins_of λp hp=>?_;rcases AU.mp hp with rfl|hp
 .exact⟨ho,I.hok.fresh hS,λe=>absurd (I.lt) (by rw[<- e];exact bQ.mpr hS),I.nofs hS,hn⟩
 .exact I2.pin p (AR _ hp)
theorem A6.less (I:A6 X (p::Ad) U H s):A6 X Ad U H s/\s.heap.get? p.1=some p.2:=
 ⟨I.pins_of λq hq=>I.pin q (AR _ (Aw _ hq)),(I.pin p (AR _ (AA ..))).1⟩
theorem zd (hop:op=.BitAnd\/op=.BitXor)(hc:X.calm=true)(ha:PE X e1 ta)(hb:PE X e2 tb)(hm1:X.mg "sorted" = none)(hm2:X.mg "set" = none)(hg1:Gl X "sorted":=by rfl)(hg2:Gl X "set":=by rfl)
  (he1:Ar [e1] X.env=(false,eval e1 X.env)::Ar [] X.env:=by rfl) (he2:Ar [e2] X.env=(false,eval e2 X.env)::Ar [] X.env:=by rfl) :
  PE X (.Call (.Name "sorted" p1) [.BinOp (.Call (.Name "set" p2) [e1] [] pos2) op (.Call (.Name "set" p3) [e2] [] pos3) p4] [] pos) (wU X.K op ta tb):=by
 intro Ad s U H Q I h;refine Co (Qz I hg1 hm1 (u:=.builtin "sorted") rfl ?_);refine EJ ?_ rfl rfl;show Aq _ _ (U8 ((false,eval (.BinOp (.Call (.Name "set" p2) [e1] [] pos2) op (.Call (.Name "set" p3) [e2] [] pos3) p4) X.env)::Cc pos (Ar [] X.env))) _ _ s;refine Ji ?_;refine wpAny_BinOp ?_;refine Co (Qz I hg2 hm2 (u:=.type "set") rfl ?_);refine BO (Do (ZJ ha ZC he1 pos2 Ad s U H (λvs H1=>match vs with | [x]=>lP X.K op (λQ1 H1=>tb U H1 Q1) Q x H1 | _=>False) I h) λus s1 e=>e.el λvs H1 I1 r1 q1=>?_) he1 rfl
 match vs,r1,q1 with
 |[x],r1,⟨p,xs,hx,hs,hz,h12,q⟩=>
  subst hx;obtain⟨u,rfl,ru⟩:=HA r1;cases(show u=AF p from ru);obtain⟨Bj,rv,pl,hzz⟩:=I1.list hs
  have hl:xs.length=Bj.toArray.size:=by
   have:=rv.length;simpa using this
  refine iW (I1.ok.hd hc) pl.isList hl (λi v hi hv=>?_) (by ext) λh2 tk2 hS hk2=>?_
  .obtain⟨u,hu,ru⟩:=rv.get (i:=i) (x:=V.str xs[i]) (by rw[AL,Ag hi];rfl);rw[DU]at hv;rw[hu]at hv;cases hv;exact ru
  .obtain⟨o1,es1,ep1,t1,ho1,hex1,hd1,hrest⟩:_:=id hS;have I2:=I1.more (tk:=tk2) (AJ _) hk2 ho1 (λv e=>by rw[hd1]at e;cases e);refine Co (Qz I2 hg2 hm2 (u:=.type "set") rfl ?_);refine BO (Do (ZJ hb ZC he2 pos3 _ _ U H1 (λvs H2=>match vs with | [y]=>∃q ys,y=.ref q/\FS X.K H2 q (ys.map V.str)/\ys.length+1<A9/\(fm ys).length<=12/\∀l,H2 l=none->Q (.ref l) (CD H2 l (.lst ((RL op xs ys).map V.str))) | _=>False) I2 q) λus s3 e=>e.el λvs H3 I3 r3 q3=>?_) he2 rfl
   match vs,r3,q3 with
   |[y],r3,⟨p',ys,hy,hs',hz',h12',q'⟩=>
    subst hy;obtain⟨u,rfl,ru⟩:=HA r3;cases(show u=AF p' from ru);obtain⟨its',rv',pl',hzz'⟩:=I3.list hs'
    have hl':ys.length=its'.toArray.size:=by
     have:=rv'.length;simpa using this
    obtain⟨I3',hp1⟩:=I3.less;have ltS:=An hp1;refine iW (I3.ok.hd hc) pl'.isList hl' (λi v hi hv=>?_) (by ext) λh4 tk4 hS4 hk4=>?_
    .obtain⟨u,hu,ru⟩:=rv'.get (i:=i) (x:=V.str ys[i]) (by rw[AL,Ag hi];rfl);rw[DU]at hv;rw[hu]at hv;cases hv;exact ru
    .refine xD (s:={s3 with heap:=h4,toks:=tk4}) hop (ET ltS) ⟨o1,es1,ep1,t1,hk4 _ _ hp1,hex1,hd1,hrest⟩ hS4 h12 h12' λh5 ms hk5 hS5 hu5 h64=>?_;refine JF ?_
     have lt4:s3.heap.objs.size<h4.objs.size:=by
      obtain⟨o,es,ep,t,ho,-⟩:=hS4;exact An ho
     refine uS (s:={s3 with heap:=h5,toks:=tk4}) (I3.ok.hd hc) hS5 h64 λh6 d tk6 L out c zs hf hSL hL hst hp hsrt hk6=>?_;have hSL:h4.objs.size<L:=hSL;refine⟨.ref L,_,((I3'.draw d).laid (h':=h6) (t':=tk6) (a:=L) (o:=.lst (zs.map V.str)) (λb u eb=>hk6 b u (hk5 b u (hk4 b u eb))) (by show s3.heap.objs.size<=L;ext) ⟨?_,out,c,aO hst,hL⟩),rfl,?_⟩
     .rw[Ae,hp.length_eq];have:(64:Nat)<=Am:=by decide
      ext
     .rw[hu5 zs hp hsrt];exact q' L (I3.hok.fresh (by ext))
unseal BX
def WQ (op:NG)(ta tb:DG):DG:=λτ M Q=>ta τ M λx M1=>CH (Bo M1 x) λds=>CH (DX ds) λxs=>xs.length+1<A9/\(fm xs).length<=12/\tb τ M1 λy M2=>CH (Bo M2 y) λes=>CH (DX es) λys=>ys.length+1<A9/\(fm ys).length<=12/\Q (.lst ((RL op xs ys).map D.str)) M2
theorem XG (hop:op=.BitAnd\/op=.BitXor)(hc:X.calm=true)(hm1:X.mg "sorted" = none)(hm2:X.mg "set" = none)(ha:BX X e1 ta)(hb:BX X e2 tb)(hg1:Gl X "sorted":=by rfl)(hg2:Gl X "set":=by rfl)
  (he1:Ar [e1] X.env=(false,eval e1 X.env)::Ar [] X.env:=by rfl) (he2:Ar [e2] X.env=(false,eval e2 X.env)::Ar [] X.env:=by rfl) :
  BX X (.Call (.Name "sorted" p1) [.BinOp (.Call (.Name "set" p2) [e1] [] pos2) op (.Call (.Name "set" p3) [e2] [] pos3) p4] [] pos) (WQ op ta tb):=PE.mono (zd hop hc ha hb hm1 hm2 hg1 hg2 he1 he2) (by
 intro U H Q;ext1⟨Z,τ,M,Q2,st,hr,h,k⟩;refine ⟨Z,τ,M,_,st,hr,h,λZ1 v d H1 M1 l1 h1 a1 q1=>?_⟩;obtain ⟨ds,e1,q2⟩:=Cr q1;obtain ⟨xs,e2,hz,h64,q3⟩:=Cr q2;obtain ⟨p,vs,rfl,hs,a2⟩:=h1.rdL e1 a1;have e3:=UO e2;subst e3;have e4:=ats_strs a2;subst e4;refine ⟨p,xs,rfl,hs,hz,h64,lE.bind (st.mono l1) h1 q3 λZ2 y dy H2 M2 l2 h2 a3 q4=>?_⟩;obtain ⟨es,f1,q5⟩:=Cr q4;obtain ⟨ys,f2,hz',h64',q6⟩:=Cr q5;obtain ⟨p',vs',rfl,hs',a4⟩:=h2.rdL f1 a3;have f3:=UO f2;subst f3;have f4:=ats_strs a4;subst f4;exact ⟨p',ys,rfl,hs',hz',h64',λl hl=>(k.le (l1.trans l2)).f h2 hl (VS _) q6⟩)
theorem yU :WQ op ta tb τ M Q=(ta τ M λx M1=>CH (Bo M1 x) λds=>CH (DX ds) λxs=>xs.length+1<A9/\(fm xs).length<=12/\tb τ M1 λy M2=>CH (Bo M2 y) λes=>CH (DX es) λys=>ys.length+1<A9/\(fm ys).length<=12/\Q (.lst ((RL op xs ys).map D.str)) M2):=rfl
unseal Gc GZ
def WS (i j:Nat)(t:Kp):HH:=λD τ M=>t τ M λxs M1=>Fq xs λa b=>D.nx ((τ.set i (some a)).set j (some b)) M1
theorem gy {i j:Nat}{x y:Str}{a b:Cb}{ta:Kp}{px py pt pos:Pos}{kt k2 pt2}(hc:X.calm=true)(hN:X.N.Nodup)(hi:X.N[i]? = some x)(hj:X.N[j]? = some y)(hij:i≠j)
  (hx:X.env.scope.names.lookup x=some .local) (hy:X.env.scope.names.lookup y=some .local) (ha:Gc X [a,b] ta)
  (hw:Ks [.Tuple [.Name x px,.Name y py] kt pt] (.Tuple [a,b] k2 pt2) X.env=pure (some [x,y]):=by rfl)
  (hs:Kr [.Tuple [.Name x px,.Name y py] kt pt] (.Tuple [a,b] k2 pt2) pos.line X.env=pure false:=by rfl) :
  GZ X (.Assign [.Tuple [.Name x px,.Name y py] kt pt] (.Tuple [a,b] k2 pt2) pos) (WS i j ta):=PS.mono (fe hc hN hi hj hij hx hy ha hw hs) (by
 intro D U H;ext1⟨Z,τ,M,D2,st,hr,h,er⟩;refine ⟨Z,τ,M,_,st,hr,h,λZ1 vs ds H1 M1 l1 h1 a1 q1=>?_⟩;obtain ⟨a,b,rfl,q⟩:=L9 q1;obtain ⟨v,w,rfl,av,aw⟩:=L3.ats2 a1;exact ⟨v,w,rfl,lS.nx (er.le l1) (((st.mono l1).set av i).set aw j) h1 q⟩)
theorem yP {D:Js} :WS i j t D τ M=(t τ M λxs M1=>Fq xs λa b=>D.nx ((τ.set i (some a)).set j (some b)) M1):=rfl
end
end L2
namespace L3
open PySem PySem.Spec PyProof.Rows L2
section
theorem wn (hkey:(BU prog w).is k key=true)(hm:s.heap.DictOf (BU prog w) d AQ)(hn:k∉AQ.map (·.1))(hsz:AQ.length<=Am)
  (hQ:∀h',h'.DictOf (BU prog w) d (AQ++[(k,x)])->By d s.heap h'->Q x {s with heap:=h',toks:=s.toks+1}):Aq (Ax prog w) A (bM d key x) Q E s:=by
 obtain⟨o,es,ep,ho,hc,hd,hk,hp,nd⟩:_:=hm
 have hes:es.size<=Am:=by
  have e1:=hp.length;have e2:es.toList.length=es.size:=by simp
  ext
 have no:(es.findIdx? λe=>(BU prog w).is k e.key)=none:=by
  have e1:=hp.findIdx k;have e2:(es.findIdx? λe=>(BU prog w).is k e.key)=es.toList.findIdx? λe=>(BU prog w).is k e.key:=by obtain⟨l⟩:=es;simp
  rw[e2,e1,Go];intro kv hkv;exact decide_eq_false λe=>hn (AB.mpr ⟨kv,hkv,e⟩)
 unfold bM;refine Bh ?_;refine Aa ((BU prog w).pyHash hkey ?_);refine Aa (wpAny_dictFind_of hkey ho hd hk ?_);rw[no];dsimp only;refine Aa (FA (Aa (wpAny_updateDictKeys ho hd (Ab ?_))));refine hQ _ ⟨_,_,ep+1,D6 _ ho (Obj.isFreed_of_dict (OT hd _)),hc.mapDictKeys _,OT hd _,hk.push hkey _,?_,?_⟩ (Bf ..)
 .have z:=hp.append hkey ((BU prog w).hash k) x;obtain⟨l⟩:=es;simpa using z
 .rw[AI];exact Bt.mpr ⟨nd,by simp,λa ha b hb e=>hn (by rw[show a=k from e.trans (AN.mp hb)]at ha;exact ha)⟩
end
section
theorem oz (I:A6 X Ad U H s)(e:H a=some (.dK AQ))(hl:AQ.length<Am)(ry:RelV (kV k) u)(rd:RelV d r)
  (h1:∀v w' s',FI AQ k=some v->A6 X Ad U H s'->RelV v w'->Q w' s') (h2:FI AQ k=none->∀s',A6 X Ad U (CD H a (.dK (putK AQ k d))) s'->Q r s') :
  Aq (Ax X.prog X.w) A (IE (.builtin "dict.setdefault") [.ref a,u,r]) Q E s:=by
 obtain⟨z,hd,vs,rel,dd⟩:=fX I.hok e;have rv:=rel.val k;cases hv:FI AQ k with
 |some v=>
  rw[hv]at rv;cases hw:JP vs k with
  |none=>rw[hw]at rv;exact rv.elim
  |some w'=>
   rw[hw]at rv;refine call_meetsIn Fl dd.typeIs JU (JE _ _ _) (meets_dict_setdefault (BU X.prog X.w) a (R5 ry) hd r) ⟨_,dd.mapOf,?_,λv' hv'=>?_,λhn=>?_⟩
   .obtain⟨o',es',ep',ho',_,hd',_,hp',_⟩:_:=dd;intro o es ep ho hd2;rw[ho']at ho;cases ho;rw[hd']at hd2;cases hd2;have e1:=hp'.length;have e2:es'.toList.length=es'.size:=by simp
    have e3:=rel.length;ext
   .rw[hw]at hv';cases hv';exact h1 v w' _ hv (I.tok _) rv
   .rw[hw]at hn;cases hn
 |none=>
  have hn:k∉vs.map (·.1):=λhk=>by
   rw[<- rel.keys]at hk;obtain⟨kv,hkv,ek⟩:=AB.mp hk;unfold FI at hv;rw[Ms,Jt]at hv;exact hv kv hkv (decide_eq_true ek)
  refine B9 Fl dd.typeIs JU ?_ (JE _ _ _);unfold Ea.«dict.setdefault»;refine Aa ?_;unfold Ze;refine Aa (QN dd.typeIs ?_);show Aq _ _ (pure (a,u,some r)) _ _ s;refine Ab ?_;dsimp only;rw[if_neg (by rw[hd];exact Aj)];refine Aa (wn (R5 ry) dd hn (by rw[<- rel.length];exact z) λh' dd' hs=>Ab ⟨r,rfl,h2 hv _ ?_⟩);have he:∃q,h'.get? a=some q:=let ⟨q,_,_,hq,_⟩:=dd';⟨q,hq⟩
  have hp:putK AQ k d=AQ++[(k,d)]:=by
   unfold putK;rw[if_neg];intro c;obtain⟨kv,hkv,ek⟩:=Fc.mp c;exact hn (by rw[<- rel.keys];exact AB.mpr ⟨kv,hkv,of_decide_eq_true ek⟩)
  rw[hp]
  have hst:TB vs k r=vs++[(k,r)]:=by
   unfold TB;rw[if_neg];intro c;obtain⟨kv,hkv,ek⟩:=Fc.mp c;exact hn (AB.mpr ⟨kv,hkv,of_decide_eq_true ek⟩)
  have rp:=rel.put k rd;rw[hp,hst]at rp;exact ZO I (by rw[e];exact Ch) hs he (ZF (by rw[Ao];exact hl) hd rp dd')
end
section
unseal EI
def RF:V->List V->Hp->VK->Prop:=λx vs H Q=>∃a AQ k v,x=.ref a/\vs=[kV k,v]/\H a=some (.dK AQ)/\AQ.length<Am/\(∀v',FI AQ k=some v'->Q v' H)/\(FI AQ k=none->Q v (CD H a (.dK (putK AQ k v))))
theorem u6:MY X "dict.setdefault" RF:=by
 intro Ad s U H x vs v us Q I rx rv;ext1⟨a,AQ,k,d,e1',e2',e,hl,q1,q2⟩;cases rx;obtain⟨u,r,rfl,ru,rr⟩:=MJ rv;exact oz I e hl ru rr (λv w' s' hv I' r'=>⟨v,H,I',r',q1 v hv⟩) λhn s' I'=>⟨d,_,I',rr,q2 hn⟩
def L4:D->List D->Mp->Eb->Prop:=λx xs M Q=>J2 x λp=>Fq xs λy v=>Q4 y λk=>KR (M p) λAQ=>AQ.length<Am/\(∀d,DL AQ k=some d->Q d M)/\(DL AQ k=none->Q v (put M p (.dic (Ih AQ k v))))
def WO (to:DG)(t:Kp):DG:=λτ M Q=>to τ M λx M1=>J2 x λp=>KR (M1 p) λ_=>t τ M1 λxs M2=>L4 (.ref p) xs M2 Q
theorem yV :WO to t τ M Q=(to τ M λx M1=>J2 x λp=>KR (M1 p) λ_=>t τ M1 λxs M2=>L4 (.ref p) xs M2 Q):=rfl
unseal BX Gc
theorem eS (ho:BX X o to)(ha:Gc X [e1,e2] t)
  (hbase:Cz o "setdefault" X.env (eval o X.env)=eval o X.env:=by rfl)
  (hfew:((Cc cpos (Ar [e1,e2] X.env)).all (λx=>!x.1) && (Fk cpos (Dy [] X.env)).all (λx=>x.1.isSome)
   && decide ([e1,e2].length+([]:List EW).length+(if ([]:List EW).isEmpty then 0 else 1)<30))=true:=by rfl)
  (hline:(apos.endLine == cpos.line)=true:=by rfl) (hs:Ar [e1,e2] X.env=(false,eval e1 X.env)::Ar [e2] X.env:=by rfl) (hplain:(Cc cpos (Ar [e2] X.env)).any (·.1)=false:=by rfl) :
  BX X (.Call (.Attribute o "setdefault" apos) [e1,e2] [] cpos) (WO to t):=PE.mono (mI PySem.F.plainAttrs_dict Fl PySem.F.type_dict_setdefault u6 ho ha hbase hfew hline hs hplain) (by
 intro U H Q;ext1⟨Z,τ,M,Q2,st,hr,h,k⟩;refine lE.bind st hr h λZ1 x dx H1 M1 l1 h1 a1 q1=>?_;obtain⟨p,rfl,q2⟩:=IL q1;obtain⟨kvs0,e0,q3⟩:=fV q2;cases(show x=V.ref p from a1);obtain⟨ks0,rd0,_⟩:=h1.rdMD e0;refine⟨.inr (.inr (.inl ⟨rfl,.inl ⟨ks0,rd0⟩⟩)),Z1,τ,M1,_,st.mono l1,h1,q3,λZ2 vs ds H2 M2 l2 h2 a2 q4=>?_⟩;obtain⟨p',e,q5⟩:=IL q4;cases e;obtain⟨y,v,rfl,q6⟩:=L9 q5;obtain⟨ky,rfl,q7⟩:=Qn q6;obtain⟨AQ,e,hl,q8,q9⟩:=fV q7;obtain⟨ks,rd,a4⟩:=h2.rdMD e;obtain⟨y',v',rfl,ay,av⟩:=ats2 a2;cases Vu ay;refine⟨p,ks,ky,v',rfl,rfl,rd,by rw[a4.length];exact hl,λv2 hv2=>?_,λhn=>?_⟩
 .rcases a4.val with⟨_,e2⟩|⟨d,v3,e1,e2,av3⟩
  .rw[hv2]at e2;cases e2
  .rw[hv2]at e2;cases e2;exact k Z2 _ _ _ _ (l1.trans l2) h2 av3 (q8 d e1)
 .rcases a4.val with⟨e1,_⟩|⟨d,v3,e1,e2,_⟩
  .exact k Z2 _ _ _ _ (l1.trans l2) (h2.chgD e (a4.put av)) av (q9 e1)
  .rw [hn] at e2;cases e2)
theorem rM :∀{zs:List D}{vs:List V},Ds Z vs (zs++[d])->∃us v,vs=us++[v]/\Ds Z us zs/\At Z v d
 |[],_,.cons a .nil=>⟨[],_,rfl,.nil,a⟩
 |_::zs,_,.cons a t=>by
  obtain⟨us,v,rfl,h1,h2⟩:=rM t;exact⟨_::us,v,rfl,.cons a h1,h2⟩
def Qd:D->List D->Mp->Eb->Prop:=λx xs M Q=>J2 x λp=>xs=[]/\Ql (M p) λys=>∃zs d,ys=zs++[d]/\Q d (put M p (.lst zs))
theorem fq :Qd (.ref p) [] M Q=Ql (M p) λys=>∃zs d,ys=zs++[d]/\Q d (put M p (.lst zs)):=by
 unfold Qd;simp only[J2,true_and]
theorem di:EI X "list.pop" Qd:=MY.mono bf (by
 intro x xs H Q;ext1⟨Z,d,ds,M,Q2,hr,a,as,h,k⟩;obtain⟨p,rfl,rfl,h2⟩:=IL h;obtain⟨ys,e,zs,d,rfl,q⟩:=mH h2;cases(show x=V.ref p from a);have hx:xs=[]:=by cases as;rfl
 subst hx;obtain ⟨vs,r,a2⟩:=hr.rdM e;obtain ⟨us,v,rfl,a4,a5⟩:=rM a2;refine ⟨p,us++[v],v,rfl,rfl,r,by simp,?_⟩;rw [List.dropLast_concat];exact k Z _ _ _ _ (Le.refl _) (hr.chgL e a4) a5 q)
end
section
def P7 (tk1 tv1 tk2 tv2 tk3 tv3 tk4 tv4:DG):DG:=λτ M Q=>∀p,M p=none->tk1 τ (put M p (.dic [])) λx1 M1=>GI x1 λz1=>tv1 τ M1 λy1 M2=>tk2 τ M2 λx2 M3=>GI x2 λz2=>tv2 τ M3 λy2 M4=>tk3 τ M4 λx3 M5=>GI x3 λz3=>tv3 τ M5 λy3 M6=>tk4 τ M6 λx4 M7=>GI x4 λz4=>tv4 τ M7 λy4 M8=>M8 p=some (.dic [])/\[z1,z2,z3,z4].Nodup/\Q (.ref p) (put M8 p (.dic [(.inr z1,y1),(.inr z2,y2),(.inr z3,y3),(.inr z4,y4)]))
theorem nr :P7 tk1 tv1 tk2 tv2 tk3 tv3 tk4 tv4 τ M Q=∀p,M p=none->tk1 τ (put M p (.dic [])) λx1 M1=>GI x1 λz1=>tv1 τ M1 λy1 M2=>tk2 τ M2 λx2 M3=>GI x2 λz2=>tv2 τ M3 λy2 M4=>tk3 τ M4 λx3 M5=>GI x3 λz3=>tv3 τ M5 λy3 M6=>tk4 τ M6 λx4 M7=>GI x4 λz4=>tv4 τ M7 λy4 M8=>M8 p=some (.dic [])/\[z1,z2,z3,z4].Nodup/\Q (.ref p) (put M8 p (.dic [(.inr z1,y1),(.inr z2,y2),(.inr z3,y3),(.inr z4,y4)])):=rfl
theorem Ue (h:[z1,z2,z3,z4].Nodup):L2.mergeK [] [((.inr z1:Cd),y1),(.inr z2,y2),(.inr z3,y3),(.inr z4,y4)]=[(.inr z1,y1),(.inr z2,y2),(.inr z3,y3),(.inr z4,y4)]:=by
 simp only[DH,Bx,AX,or_false,not_or]at h;obtain⟨⟨a,b,c⟩,⟨d,e⟩,f,-⟩:_:=h;simp[L2.mergeK,L2.putK,a,b,c,d,e,f]
unseal BX
theorem T8 (hk1:BX X ke1 tk1)(hv1:BX X ve1 tv1)(hk2:BX X ke2 tk2)(hv2:BX X ve2 tv2)(hk3:BX X ke3 tk3)(hv3:BX X ve3 tv3)(hk4:BX X ke4 tk4)(hv4:BX X ve4 tv4):BX X (.Dict [some ke1,some ke2,some ke3,some ke4] [ve1,ve2,ve3,ve4] pos) (P7 tk1 tv1 tk2 tv2 tk3 tv3 tk4 tv4):=PE.mono (k7 (ZX hk1 hv1 (ZX hk2 hv2 (ZX hk3 hv3 (ZX hk4 hv4 mz)))) rfl rfl (by intro h;cases h) (by show 4<=15;decide)) (by
 rintro U H Q ⟨Z,τ,M,Q2,st,hr,h,k⟩ p hp;refine lE.bind st (hr.newD hp .nil) (h p (hr.fresh hp)) λZ1 v1 d1 H1 M1 l1 h1 a1 q=>?_;obtain ⟨z1,rfl,q⟩:=Et q;refine lE.bind (st.mono l1) h1 q λZ2 v2 d2 H2 M2 g2 h2 a2 q=>?_;have l2:=l1.trans g2;refine lE.bind (st.mono l2) h2 q λZ3 v3 d3 H3 M3 g3 h3 a3 q=>?_;have l3:=l2.trans g3;have a2:=a2.mono g3;obtain ⟨z2,rfl,q⟩:=Et q;refine lE.bind (st.mono l3) h3 q λZ4 v4 d4 H4 M4 g4 h4 a4 q=>?_;have l4:=l3.trans g4;have a2:=a2.mono g4;refine lE.bind (st.mono l4) h4 q λZ5 v5 d5 H5 M5 g5 h5 a5 q=>?_;have l5:=l4.trans g5;have a2:=a2.mono g5;have a4:=a4.mono g5;obtain ⟨z3,rfl,q⟩:=Et q;refine lE.bind (st.mono l5) h5 q λZ6 v6 d6 H6 M6 g6 h6 a6 q=>?_;have l6:=l5.trans g6;have a2:=a2.mono g6;have a4:=a4.mono g6;refine lE.bind (st.mono l6) h6 q λZ7 v7 d7 H7 M7 g7 h7 a7 q=>?_;have l7:=l6.trans g7;have a2:=a2.mono g7;have a4:=a4.mono g7;have a6:=a6.mono g7;obtain ⟨z4,rfl,q⟩:=Et q;refine lE.bind (st.mono l7) h7 q λZ8 v8 d8 H8 M8 g8 h8 a8 q=>?_;have l8:=l7.trans g8;have a2:=a2.mono g8;have a4:=a4.mono g8;have a6:=a6.mono g8;obtain ⟨e,hne,q⟩:=q;obtain ⟨vs,e2,ka⟩:=h8.rdMD e;cases ka;cases (show v1=V.str z1 from a1);cases (show v3=V.str z2 from a3);cases (show v5=V.str z3 from a5);cases (show v7=V.str z4 from a7);refine ⟨e2,[(.inr z1,v2),(.inr z2,v4),(.inr z3,v6),(.inr z4,v8)],rfl,by show 4<=15;decide,?_⟩;rw [Ue hne];exact k Z8 (.ref p) (.ref p) _ _ l8 (h8.chgD e (.cons ⟨rfl,a2⟩ (.cons ⟨rfl,a4⟩ (.cons ⟨rfl,a6⟩ (.cons ⟨rfl,a8⟩ .nil))))) rfl q)
end
section
variable {X:Cx}{Ad:List (Av×Obj)}{U:St}{H:Hp}{s:Ap}
theorem s0 (ht:IsTup s.heap p #[.int i t1,.int j t2])
  (h1:i=k->Q (.int 0 s.toks) {s with toks:=s.toks+1}) (h2:i≠k->j=k/\Q (.int 1 s.toks) {s with toks:=s.toks+1}) :
  Aq (Ax X.prog X.w) X.A (IE (.builtin "tuple.index") [.ref p,.int k t]) Q X.xe s:=by
 refine B9 Lp ht.typeIs PySem.F.entry_tuple_index ?_ (PySem.F.args_tuple_index_2 _ _);unfold Ea.«tuple.index»;refine Aa ?_;show Aq _ _ (pure (AF p,[DB k t])) _ _ s;refine Ab ?_;dsimp only;refine Aa (tupleItemsOf_ ht ?_);refine Aa (Ab (Aa (Ab (Aa ?_))));rw[Sr];simp only[Sq,A4,AO,FD,ES,MH,NJ,NI,Vk,Nat.reduceDiv,Nat.add_one_sub_one,Y8];rw[show Ou 0 2=[0,1]from rfl];rw[GR];refine Aa ?_;show Aq _ _ (eqBool (.int i t1) (.int k t) >>= _) _ _ s;refine Aa (LL ?_);by_cases e:i=k
 .rw[beq_iff_eq.mpr e];show Aq _ _ (bI _ >>= _) _ _ s;refine Aa ?_;unfold bI;refine Aa (wpAny_mkInt (Ab (Ab ?_)));refine Ab (Ab ⟨_,rfl,h1 e⟩)
 .obtain⟨e2,q⟩:=h2 e;rw[show(i == k)=false from beq_eq_false_iff_ne.mpr e];show Aq _ _ (pure (C8 (none,()))) _ _ s;refine Ab ?_;show Aq _ _ (forIn [1] _ _) _ _ s;rw[GR];refine Aa ?_;show Aq _ _ (eqBool (.int j t2) (.int k t) >>= _) _ _ s;refine Aa (LL ?_);rw[beq_iff_eq.mpr e2];show Aq _ _ (bI _ >>= _) _ _ s;refine Aa ?_;unfold bI;refine Aa (wpAny_mkInt (Ab (Ab ?_)));refine Ab (Ab ⟨_,rfl,q⟩)
def RG:V->List V->Hp->VK->Prop:=λx vs H Q=>∃p i j k,x=.ref p/\vs=[.int k]/\H p=some (.tup [.int i,.int j])/\(i=k->Q (.int 0) H)/\(i≠k->j=k/\Q (.int 1) H)
theorem uz:MY X "tuple.index" RG:=by
 intro Ad s U H x vs v us Q I rx rv;ext1⟨p,i,j,k,e1',e2',e,q1,q2⟩;cases(show v=AF p from rx);obtain⟨u,rfl,ru⟩:=HA rv;obtain⟨t,rfl⟩:=ru;obtain⟨_,Bj,r,tn⟩:=(show CQ X.prog X.w H s.heap p (.tup [.int i,.int j])from I.hok p _ e);obtain⟨u1,u2,e1',⟨t1,e2'⟩,⟨t2,e3'⟩⟩:_:=MJ r;exact s0 tn.tup (λh=>⟨.int 0,H,I.tok _,⟨_,rfl⟩,q1 h⟩) λh=>⟨(q2 h).1,.int 1,H,I.tok _,⟨_,rfl⟩,(q2 h).2⟩
def wR (r:V->List V->Hp->VK->Prop)(to:TE)(t:TA):TE:=λU H Q=>to U H λx H1=>(∃p xs,x=.ref p/\H1 p=some (.tup xs))/\t U H1 λvs H2=>r x vs H2 Q
theorem b8 {id:String}(slot:bP "tuple" name id)(hty:Tp (.builtin id)=pure (.type "method_descriptor"))(hm:MY X id r)(ho:PE X o to)(ha:PA X (e::es) t)
  (hbase:Cz o name X.env (eval o X.env)=eval o X.env:=by rfl)
  (hfew:((Cc cpos (Ar (e::es) X.env)).all (λx=>!x.1) && (Fk cpos (Dy [] X.env)).all (λx=>x.1.isSome)
   && decide ((e::es).length+([]:List EW).length+(if ([]:List EW).isEmpty then 0 else 1)<30))=true:=by rfl)
  (hline:(apos.endLine == cpos.line)=true:=by rfl) (hs:Ar (e::es) X.env=(false,eval e X.env)::Ar es X.env:=by rfl) (hplain:(Cc cpos (Ar es X.env)).any (·.1)=false:=by rfl) :
  PE X (.Call (.Attribute o name apos) (e::es) [] cpos) (wR r to t):=by
 intro Ad s U H Q I h;refine PN hbase hfew hline rfl (Do (ho Ad s U H _ I h) λv s1 e=>e.el λx H1 I1 r1 ⟨ty,q1⟩=>?_);obtain⟨p,xs,rfl,ex⟩:=ty;cases(show v=AF p from r1);obtain⟨_,Bj,_,ob,g1,g2,n,g3,g4⟩:=(show CQ X.prog X.w H1 s1.heap p (.tup xs)from I1.hok p _ ex);refine⟨"tuple",id,PySem.F.plainAttrs_tuple,slot,hty,⟨ob,g1,g2⟩,λa ha=>⟨ob,by cases ha;exact g1,g4⟩,?_⟩;have hA:=ha cpos Ad s1 U H1 _ I1 q1;rw[hs]at hA ⊢;refine Hg (by show(false || (Cc cpos (Ar es X.env)).any (·.1))=false;rw[hplain]<;>rfl) (NO ?_);exact Do hA λus s2 e=>e.el λvs H2 I2 r2 q2=>hm Ad s2 U H2 _ vs _ us Q I2 r1 r2 q2
def WM (to:DG)(t:Kp):DG:=λτ M Q=>to τ M λx M1=>∃i j,x=.tup [.int i,.int j]/\t τ M1 λxs M2=>GJ xs λy=>EH y λk=>∃v,(v=0/\i=k\/v=1/\i≠k/\j=k)/\Q (.int v) M2
theorem zE :WM to t τ M Q=(to τ M λx M1=>∃i j,x=.tup [.int i,.int j]/\t τ M1 λxs M2=>GJ xs λy=>EH y λk=>∃v,(v=0/\i=k\/v=1/\i≠k/\j=k)/\Q (.int v) M2):=rfl
unseal BX Gc
theorem eR {o e:Cb}{to:DG}{t:Kp}{apos cpos:Pos}(ho:BX X o to)(ha:Gc X [e] t)
  (hbase:Cz o "index" X.env (eval o X.env)=eval o X.env:=by rfl)
  (hfew:((Cc cpos (Ar [e] X.env)).all (λx=>!x.1) && (Fk cpos (Dy [] X.env)).all (λx=>x.1.isSome)
   && decide ([e].length+([]:List EW).length+(if ([]:List EW).isEmpty then 0 else 1)<30))=true:=by rfl)
  (hline:(apos.endLine == cpos.line)=true:=by rfl) (hs:Ar [e] X.env=(false,eval e X.env)::Ar [] X.env:=by rfl) (hplain:(Cc cpos (Ar [] X.env)).any (·.1)=false:=by rfl) :
  BX X (.Call (.Attribute o "index" apos) [e] [] cpos) (WM to t):=PE.mono (b8 Lp PySem.F.type_tuple_index uz ho ha hbase hfew hline hs hplain) (by
 intro U H Q;ext1⟨Z,τ,M,Q2,st,hr,h,k⟩;refine lE.bind st hr h λZ1 x dx H1 M1 l1 h1 a1 q1=>?_;obtain⟨i,j,rfl,q⟩:=q1;obtain⟨p,vs,rfl,e1,_⟩:=h1.rdK rfl a1;refine⟨⟨p,vs,rfl,e1⟩,Z1,τ,M1,_,st.mono l1,h1,q,λZ2 ws ds H2 M2 l2 h2 a2 q2=>?_⟩;obtain⟨y,rfl,q3⟩:=GW q2;obtain⟨n,rfl,v,c,q4⟩:=CG q3;obtain⟨w,rfl,aw⟩:=JL a2;cases(show w=V.int n from aw);obtain⟨p2,vs2,ep,e2,av⟩:=h2.rdK rfl (a1.mono l2);cases ep;obtain⟨v1,v2,rfl,b1,b2⟩:=ats2 av;cases(show v1=V.int i from b1);cases(show v2=V.int j from b2);have q5:=k Z2 (.int v) (.int v) _ _ (l1.trans l2) h2 rfl q4;rcases c with⟨rfl,c⟩|⟨rfl,c,d⟩
 .exact⟨p,i,j,n,rfl,rfl,e2,λ_=>q5,λd=>absurd c d⟩
 .exact ⟨p,i,j,n,rfl,rfl,e2,λd=>absurd d c,λ_=>⟨d,q5⟩⟩)
end
end L3
namespace L2
open PySem PySem.Spec PyProof.Rows L3
theorem rV {sep:Str}(hs:sep.length=0):∀(zs:List Str) (a:Array Nat) (c:Nat),c∈(zs.foldl (λacc p=>acc++sep.cps++p.cps) a).toList->c∈a.toList\/∃z∈zs,c∈z.cps.toList
 |[],a,c,h=>.inl h
 |z::zs,a,c,h=>by
  have h1:=AC (by rw[A8];exact hs);rw[CC]at h;rcases rV hs zs _ c h with h|⟨y,hy,hc⟩
  .rw[FO,FO,h1,C1]at h;rcases AH.mp h with h|h
   .exact .inl h
   .exact .inr ⟨z,AA,h⟩
  .exact .inr ⟨y,Aw _ hy,hc⟩
theorem sZ (hs:sep.length=0)(zs):∀c∈(Fy sep zs).cps.toList,∃z∈zs,c∈z.cps.toList:=λc h=>by
 unfold Fy at h;cases zs with
 |nil=>cases h
 |cons z zs=>
  rcases rV hs zs _ c h with h|⟨y,hy,hc⟩
  .exact⟨z,AA,h⟩
  .exact⟨y,Aw _ hy,hc⟩
section
def T5 (K:Ac):V->List V->Hp->VK->Prop:=λx vs H Q=>∃sep p zs,x=.str sep/\vs=[.ref p]/\FS K H p (zs.map V.str)/\sep.length=0/\Ii zs<=1000/\∀r,r.length=Ii zs->(∀c∈r.cps.toList,∃z∈zs,c∈z.cps.toList)->Q (.str r) H
theorem p8:MY X "str.join" (T5 X.K):=by
 intro Ad s U H x vs v us Q I rx rv;ext1⟨sep,p,zs,e1',e2',hB,h0,hz,q⟩;obtain⟨t,rfl⟩:=(show∃t,v=C2 sep t from rx);obtain⟨u,rfl,ru⟩:=rv.one;have eu:=ru;subst eu;obtain⟨Bj,r2,pl,z2⟩:=I.list hB;obtain⟨l,rfl,e⟩:=qQ r2
 have hl:Hh ((l.map (·.1)).toArray.foldl (λacc p=>acc+p.length+sep.length) 0)=false:=by
  rw[<- O2,e,OV]<;>try rfl
  rw[tG h0,ES];unfold Hh;exact decide_eq_false (by have:=cM hz;ext)
 refine KD Mr (Iz s sep t) PySem.F.entry_str_join (PySem.F.args_str_join_2 _ _) (meets_str_join_list sep t p l hl) ⟨pl.isList,?_⟩;have fin:∀r tk tk',r.length=Ii zs->(∀c∈r.cps.toList,∃z∈zs,c∈z.cps.toList)->EP X Ad U Q (.str r tk) {s with toks:=tk' }:=λr tk tk' hr hc=>⟨.str r,H,I.tok _,⟨tk,rfl⟩,q r hr hc⟩
 match l,e with
 |[(z,tk)],e=>have e':=e.symm;exact fin z tk s.toks (by rw[e'];simp[Ii]) λc hc=>⟨z,by rw[e'];exact AA,hc⟩
 |[],e=>have e':=e.symm;subst e';exact⟨by rw[aB h0];exact cM (by simp[Ii]),fin _ _ _ (aB h0 _) (sZ h0 _)⟩
 |a::b::l,e=>
  refine⟨?_,?_⟩
  .rw[aB h0,e];exact cM hz
  .refine fin _ _ _ ?_ ?_
   .rw[aB h0,e]
   .have:=sZ h0 ((a::b::l).map (·.1));rw[e]at this ⊢;exact this
theorem zc:Gd X (BD .Mult) (λx y H Q=>∃z n,x=.str z/\y=.int n/\(0<=n/\n<=100/\z.length<=1000)/\∀r,r.length<=z.length*n.toNat->(∀c∈r.cps.toList,c∈z.cps.toList)->Q (.str r) H):=by
 intro Ad s U H x y v u Q I rx ry;ext1⟨z,n,e1',e2',⟨h0,h1,h2⟩,q⟩;obtain⟨t,rfl⟩:=(show∃t,v=C2 z t from rx);obtain⟨t',rfl⟩:=(show∃t,u=DB n t from ry);have hm:z.length*n.toNat<=1000*100:=Nat.mul_le_mul h2 (by ext);have fin:∀r tk tk',r.length<=z.length*n.toNat->(∀c∈r.cps.toList,c∈z.cps.toList)->EP X Ad U Q (.str r tk) {s with toks:=tk' }:=λr tk tk' hr hc=>⟨.str r,H,I.tok _,⟨tk,rfl⟩,q r hr hc⟩;refine P.mul_str ?_ ?_ ?_ ?_
 .rw[decide_eq_false (by ext),decide_eq_false (by ext)];rfl
 .intro h3 _ h4
  have:(1000:Int)<(2^63-1) / n:=by
   have:(92233720368547758:Int)<=(2^63-1) / n:=Int.le_ediv_of_mul_le (by ext) (by ext);ext
  ext
 .intro h3 _;unfold Hh;exact decide_eq_false (by rw[Hn];ext)
 .split
  .exact⟨by show O1 _<=_;decide,fin _ _ _ (C9 _) (λc hc=>by cases hc)⟩
  .split
   .next h3 h4=>
    refine fin _ _ s.toks ?_ λc hc=>hc;rcases(by simpa using h4:n=1\/z.length=0)with h|h
    .rw[h];simp
    .rw[h];exact C9 _
   .have hl:∀k a,((AE k z.cps).foldl (·++·) a).size=a.size+k*z.length:=by
     intro k;induction k with
     |zero=>intro a;simp
     |succ k ih=>intro a;rw[DQ,CC,ih,FU,Nat.succ_mul];show a.size+z.length+_=_;ext
    have hc:∀k a c,c∈((AE k z.cps).foldl (·++·) a).toList->c∈a.toList\/c∈z.cps.toList:=by
     intro k;induction k with
     |zero=>intro a c h;exact .inl h
     |succ k ih=>
      intro a c h;rw[DQ,CC]at h;rcases ih _ c h with h|h
      .rw[FO]at h;exact AH.mp h
      .exact .inr h
    have e:(⟨(AE n.toNat z.cps).foldl (·++·) #[]⟩:Str).length=z.length*n.toNat:=by
     show O1 _=_;rw[hl,Nat.mul_comm];simp
    exact⟨by rw[e,Hn];ext,fin _ _ _ (by rw[e];exact AJ _) λc h=>(hc _ _ c h).resolve_left (by simp)⟩
end
end L2
namespace L3
open PySem PySem.Spec PyProof.Rows L2
unseal BX HQ Jw Gc Ky GZ Du Cq FL BL Fv FM K2 Hs EI
section
variable {X:Cx}
theorem wa:Cq X (BD .Mult) (λx y M Q=>GI x λz=>EH y λn=>(0<=n/\n<=100/\z.length<=1000)/\∀r,r.length<=z.length*n.toNat->(∀c∈r.cps.toList,c∈z.cps.toList)->Q (.str r) M):=Gd.mono zc (by
 intro x y H Q;ext1⟨Z,dx,dy,M,Q2,hr,ax,ay,h,k⟩;obtain ⟨z,rfl,h1⟩:=Et h;obtain ⟨n,rfl,hz,q⟩:=CG h1;exact ⟨z,n,ax,ay,hz,λr hr' hc=>k.s hr (q r hr' hc)⟩)
theorem i9:EI X "str.join" (λx xs M Q=>GI x λsep=>GJ xs λy=>CH (Bo M y) λds=>CH (DX ds) λzs=>(sep.length=0/\Ii zs<=1000)/\∀r,r.length=Ii zs->(∀c∈r.cps.toList,∃z∈zs,c∈z.cps.toList)->Q (.str r) M):=MY.mono p8 (by
 intro x xs H Q;ext1⟨Z,d,ds,M,Q2,hr,a,as,h,k⟩;obtain ⟨sep,rfl,h1⟩:=Et h;obtain ⟨y,rfl,h2⟩:=GW h1;obtain ⟨ds',e1,h3⟩:=Cr h2;obtain ⟨zs,e2,⟨h0,hz⟩,q⟩:=Cr h3;obtain ⟨v,rfl,av⟩:=JL as;obtain ⟨b,ws,rfl,hs,a3⟩:=hr.rdL e1 av;have e3:=UO e2;subst e3;have e4:=L2.ats_strs a3;subst e4;exact ⟨sep,b,zs,a,rfl,hs,h0,hz,λr hr' hc=>k.s hr (q r hr' hc)⟩)
theorem Ds.rev (h:Ds Z vs ds):Ds Z vs.reverse ds.reverse:=by
 induction h with
 |nil=>exact .nil
 |cons a _ ih=>rw[Gr,Gr];exact ih.append (.cons a .nil)
def T2:D->List D->Mp->Eb->Prop:=λx xs M Q=>J2 x λp=>xs=[]/\Ql (M p) λys=>Q .non (put M p (.lst ys.reverse))
theorem tK:EI X "list.reverse" T2:=MY.mono vx (by
 intro x xs H Q;ext1⟨Z,d,ds,M,Q2,hr,a,as,h,k⟩;obtain ⟨p,rfl,rfl,h1⟩:=IL h;cases (show x=V.ref p from a);cases as;obtain ⟨ys,e,q⟩:=mH h1;obtain ⟨vs,r,a2⟩:=hr.rdM e;exact ⟨p,vs,rfl,rfl,r,k Z .non .non _ _ (Le.refl _) (hr.chgL e a2.rev) rfl q⟩)
theorem yQ :T2 (.ref p) [] M Q=Ql (M p) λys=>Q .non (put M p (.lst ys.reverse)):=by unfold T2;simp only[J2,true_and]
noncomputable def O5 (ss:List Str):List Str:=ss.mergeSort OI
theorem sq (h1:ys.Perm xs)(h2:Lg ys=true):ys=O5 xs:=
 GS (λa b _ _ p q=>ZV p q) (sX _ h2) (Di UJ VJ _) (h1.trans (Ez _ _).symm)
theorem sK {K:Ac}{f:List Str->Mp->Eb->Prop}(hK:X.K=K)(hf:∀{Z:Zt}{H:Hp}{M:Mp}{Q2:Eb}{Q:VK}{ys:List Str}{a:Av},Hr K Z Q2 Q->HR K H M Z->H a=none->f ys M Q2->Q (.ref a) (CD H a (.lst (ys.map V.str)))):BL X (.builtin "sorted") (λxs M Q=>GJ xs λx=>CH (Bo M x) λds=>CH (DX ds) λss=>ss.length<64/\f (O5 ss) M Q):=by
 subst hK;intro Ad s U H xs us Q I r;ext1⟨Z,ds,M,Q2,hr,a,h,k⟩;obtain⟨x,rfl,h1⟩:=GW h;obtain⟨zs,e,h2⟩:=Cr h1;obtain⟨ss,e2,h64,q⟩:=Cr h2;obtain⟨v,rfl,av⟩:=JL a;obtain⟨p,ws,rfl,hs,a2⟩:=hr.rdL e av;obtain⟨u,rfl,ru⟩:=HA r;cases(show u=AF p from ru);have e3:=UO e2;subst e3;have e4:=L2.ats_strs a2;subst e4;obtain⟨Bj,rv,pl,hz⟩:=I.list hs;have l1:=rv.length;rw[Ae]at l1;refine sorted_strs pl.isList (vU rv) (by ext) λout ss' b1 b2 b3=>?_;obtain⟨c,hc⟩:=sortedAll_at s.heap Bj out;have e5:=sq b2 b3;rw[<- e5]at q;refine⟨.ref _,_,I.laid (λ_ _=>sortedAll_old) (Lj _) ?_,rfl,hf k hr (I.hok.fresh (Lj _)) q⟩;refine⟨?_,out.toList,c,aO b1,hc⟩;rw[Ae,b2.length_eq];have:(64:Nat)<=Am:=by decide
 ext
theorem rf:BL X (.builtin "sorted") (λxs M Q=>GJ xs λx=>CH (Bo M x) λds=>CH (DX ds) λss=>ss.length<64/\Q (.lst ((O5 ss).map D.str)) M):=sK rfl λk hr ha q=>k.f hr ha (VS _) q
theorem re:BL X (.builtin "sorted") (λxs M Q=>GJ xs λx=>CH (Bo M x) λds=>CH (DX ds) λss=>ss.length<64/\∀p,M p=none->Q (.ref p) (put M p (.lst ((O5 ss).map D.str)))):=sK rfl λk hr ha q=>k.l hr ha (VS _) q
end
end L3
set_option maxHeartbeats 4000000
namespace My
open PySem PyProof.Rows L2 L3
local macro_rules | `(nofun)=>`(Dt.mono ‹Dt _ _› (by first | decide | omega))
local macro_rules | `(tactic| walk_at "eq")=>`(tactic| simp only[List.cons.injEq,HZ,D.int.injEq,D.str.injEq,D.bl.injEq,D.tup.injEq,D.lst.injEq,D.ref.injEq,true_and,and_true,exists_and_left,exists_and_right,exists_eq',exists_eq,exists_const,eq_self])
local macro_rules | `(tactic| walk_at "cap")=>`(tactic| (simp only[zS,AM,CY,G3,G1,V8];grind))
local macro_rules | `(tactic| right)=>`(tactic| ((try simp only[Kj,Kh,Ki]);grind))
local macro_rules | `(tactic| simp_arith [$xs,*])=>`(tactic| simp -failIfUnchanged only[↓zX,↓f8,↓fh,↓fg,Hl,↓Xu,↓zV,↓oq,↓yU,↓yP,↓yV,↓zE,↓Xs,↓dN,↓Xr,↓dM,↓dY,↓Xq,↓XA,↓dX,↓Xp,↓Xz,↓dU,↓Xo,↓Xy,↓dS,↓dC,↓dJ,↓dR,↓dA,↓dI,↓dQ,↓cZ,↓dH,↓cY,↓dG,↓dP,↓zG,↓yR,↓zH,↓yS,↓zI,↓yT,↓lB,↓XB,↓oT,↓nh,↓Xv,↓zO,↓dO,↓am,↓gz,↓yO,↓XC,↓eA,↓mT,↓oS,↓nA,↓ff,↓aj,↓eC,↓g9,↓qz,↓fo,↓dF,↓fi,↓mZ,↓al,↓ii,↓mX,↓aa,↓zQ,↓zY,↓dE,↓zC,↓on,↓oo,↓nj,↓ib,↓eE,↓zR,↓ie,↓ig,↓ic,↓gf,↓gb,↓qy,↓gc,↓zU,↓ga,↓zZ,↓ge,↓mW,↓gC,↓Yc,↓Tc,↓Cn,↓fj,↓gO,↓zT,↓oh,↓ab,↓ag,↓yX,↓gB,↓mV,↓Xx,↓mY,↓Xw,↓nF,↓ak,↓zW,↓ae,↓ah,↓af,↓yW,↓yY,↓ia,↓im,↓il,↓nu,↓nv,↓ij,↓dZ,↓nH,↓yZ,↓zB,↓ai,↓zA,↓oj,↓om,↓uh,↓zF,↓Zeh,↓Zeg,↓Zd5,↓Q9,↓lV,↓xL,↓xK,↓zD,↓zP,↓nk,↓nz,↓og,↓ar,↓yM,↓yN,↓reduceIte,if_true,if_false,FQ,decide_eq_true_eq,Mu,Bool.not_false,true_and,and_true,AO,FD,Ae,Ao,D5,GQ,ES,ne_eq,reduceCtorEq,not_false_eq_true,Int.reduceLT,Int.reduceLE,Int.reducePow,Int.reduceNeg,forall_const,eq_self,NP,decide_true,decide_false,FY,List.all_nil,FX,List.any_nil,Bool.and_true,TM,TN,TQ,KC,BQ,decide_eq_false_iff_not,Rr,MH,Vk,Nat.reduceMul,Int.reduceAdd,Int.reduceSub,Int.reduceMul,Wx,Rs,Int.reduceToNat,Cn,mW,gC,Yc,Tc,kX,oy,j2,j3,Jz,fL,bb,bc,bd,be,cN,Nat.succ_ne_zero,Rs,false_and,$xs,*])
local macro_rules | `(tactic| grind)=>`(tactic| simp_arith [true_and])
noncomputable def DI (i:Nat):DC:=TF.main.body.getD i (.Pass ⟨0,0,0,0⟩)
noncomputable def RZ (s:DC):List DC:=match s with
 |.ClassDef _ _ _ b _ _ _ _ _ _ _=>b
 |_=>[]
abbrev tm (k j:Nat):DC:=(RZ (DI k)).getD j (.Pass ⟨0,0,0,0⟩)
section
variable {P:Bs}{w:BG}{K:Ac}{mg:Str->Option Ah}{base:CU}
noncomputable def QE:List (Str×Int):=[("num",0),("box",0),("late",0),("door",0),("not",1),("and",2),("or",2),("xor",2),("plus",2),("minus",2),("less",2),("same",2),("pick",3),("join",2),("part",1)]
theorem ZfR:QE.lookup ("num":Str)=some 0:=by nofun
theorem ZfT:QE.lookup ("box":Str)=some 0:=by nofun
theorem ZeT:QE.lookup ("late":Str)=some 0:=by nofun
theorem ZeU:QE.lookup ("door":Str)=some 0:=by nofun
theorem ZfS:QE.lookup ("not":Str)=some 1:=by nofun
theorem ZeR:QE.lookup ("pick":Str)=some 3:=by nofun
theorem ZeS:QE.lookup ("part":Str)=some 1:=by nofun
structure DF (K:Ac)(mg:Str->Option Ah)(x:Str)(st:DC)(ps:List Str) where
 f:Av
 g:Dm
 d:Df K mg x st ps f g
structure DM (K:Ac)(C:Av)(m qual:Str)(st:DC)(ps:List Str) where
 f:Av
 g:Dm
 d:Mf K C m qual st ps f g
set_option genInjectivity false in
set_option genSizeOf false in
structure Tx (K:Ac)(w:BG)(mg:Str->Option Ah) where
 C_Known:Av
 cl_Known:Oi K C_Known
 mgc_Known:mg "Known" = some (.ref C_Known)
 na_Known_row:DZ K C_Known "row"
 na_Known_marks:DZ K C_Known "marks"
 na_Known_spans:DZ K C_Known "spans"
 x0:DF K mg "is_width" (DI 11) ["number"]
 x1:DF K mg "fits" (DI 12) ["width", "number"]
 x2:DF K mg "check_width" (DI 13) ["number"]
 x3:DF K mg "check_word" (DI 14) ["width", "number"]
 x4:DF K mg "cut" (DI 15) ["width", "number"]
 x5:DF K mg "bits_of" (DI 16) ["width", "word"]
 x6:DF K mg "held_terms" (DI 21) ["term"]
 x7:DF K mg "size_of" (DI 22) ["T"]
 x8:DF K mg "width_of" (DI 23) ["T", "boxes", "doors"]
 x9:DF K mg "checked_width" (DI 24) ["term", "boxes", "doors"]
 x10:DF K mg "checked_num" (DI 25) ["width", "word"]
 x11:DF K mg "width_named" (DI 26) ["widths", "name"]
 x12:DF K mg "check_own" (DI 27) ["term", "widths"]
 x13:DF K mg "check_part" (DI 28) ["low", "many", "width"]
 x14:DF K mg "check_join" (DI 29) ["width"]
 x15:DF K mg "check_like" (DI 30) ["width", "other"]
 x16:DF K mg "width_over" (DI 31) ["term", "widths"]
 x17:DF K mg "reads" (DI 32) ["T"]
 x18:DF K mg "leaves_of" (DI 33) ["term"]
 x19:DF K mg "names_in" (DI 34) ["leaves", "form"]
 x20:DF K mg "marks_of" (DI 36) ["span"]
 x21:DF K mg "unknown_span" (DI 37) ["width"]
 x22:DF K mg "with_mark" (DI 38) ["span", "place", "mark"]
 x23:DF K mg "span_of" (DI 39) ["term", "spans"]
 x24:DF K mg "span_over" (DI 40) ["term", "held"]
 x25:DF K mg "span_of_two" (DI 41) ["form", "one", "other"]
 x26:DF K mg "doubt" (DI 42) ["span"]
 x27:DF K mg "doubted" (DI 43) ["width", "word", "unknown"]
 x28:DF K mg "not_span" (DI 44) ["span"]
 x29:DF K mg "sum_span" (DI 45) ["one", "other", "carry"]
 x30:DF K mg "less_span" (DI 46) ["one", "other"]
 x31:DF K mg "same_span" (DI 47) ["one", "other"]
 x32:DF K mg "pick_span" (DI 48) ["chosen", "one", "other"]
 x33:DF K mg "join_span" (DI 49) ["one", "other"]
 x34:DF K mg "part_span" (DI 50) ["span", "low", "many"]
 x35:DF K mg "made" (DI 57) ["boxes", "doors", "rules"]
 x36:DF K mg "check_many" (DI 58) ["things", "most", "called"]
 x37:DF K mg "is_name" (DI 59) ["text"]
 x38:DF K mg "take_name" (DI 60) ["name", "taken"]
 x39:DF K mg "check_once" (DI 61) ["name", "taken"]
 x40:DF K mg "checked_boxes" (DI 62) ["boxes", "taken"]
 x41:DF K mg "checked_doors" (DI 63) ["doors", "taken"]
 x42:DF K mg "check_rule" (DI 64) ["rule", "taken", "box_widths", "door_widths"]
 x43:DF K mg "rule_of" (DI 65) ["works", "name"]
 x44:DF K mg "widths_of" (DI 66) ["works"]
 x45:DF K mg "asked_bits" (DI 69) ["works", "one", "other"]
 x46:DF K mg "shared" (DI 70) ["names", "others"]
 x47:DF K mg "unshared" (DI 71) ["names", "others"]
 x48:DF K mg "bits_named" (DI 72) ["sort", "names", "widths"]
 x49:DM K C_Known "__init__" "Known.__init__" (tm 73 0) ["self", "row"]
 mk_Known:Mk K C_Known x49.f
 x50:DM K C_Known "learn" "Known.learn" (tm 73 1) ["self", "mark"]
 x51:DM K C_Known "forget" "Known.forget" (tm 73 2) ["self"]
 x52:DM K C_Known "know" "Known.know" (tm 73 3) ["self", "many"]
 x53:DM K C_Known "go_on" "Known.go_on" (tm 73 4) ["self", "guards"]
 x54:DM K C_Known "settled_at" "Known.settled_at" (tm 73 5) ["self", "many", "guards"]
 x55:DM K C_Known "put" "Known.put" (tm 73 6) ["self", "number", "mark"]
 x56:DM K C_Known "turn" "Known.turn" (tm 73 7) ["self"]
 x57:DM K C_Known "guard_marks" "Known.guard_marks" (tm 73 8) ["self", "guards"]
 x58:DM K C_Known "guard_mark" "Known.guard_mark" (tm 73 9) ["self", "guard", "sort"]
 x59:DM K C_Known "both_words" "Known.both_words" (tm 73 10) ["self"]
 x60:DM K C_Known "low_words" "Known.low_words" (tm 73 11) ["self", "sort"]
 x61:DF K mg "never_both" (DI 74) ["works", "one", "other"]
 x62:DF K mg "written" (DI 76) ["works", "name"]
 x63:DF K mg "read_early" (DI 77) ["works", "name"]
 x64:DF K mg "boxes_read" (DI 78) ["rule", "number"]
 x65:DF K mg "clash" (DI 79) ["works", "ahead", "behind"]
 x66:DF K mg "_law_cell" (DI 81) ["script", "k"]
 x67:DF K mg "_law_mix" (DI 82) ["number", "salt"]
 x68:DF K mg "_law_names" (DI 83) ["number", "many"]
 x69:DF K mg "_law_word" (DI 84) ["number", "width"]
 x70:DF K mg "_law_leaf" (DI 85) ["number", "width", "boxes", "doors"]
 x71:DF K mg "_law_term" (DI 86) ["number", "width", "boxes", "doors", "deep"]
 x72:DF K mg "_law_guard" (DI 87) ["number", "boxes", "doors"]
 x73:DF K mg "_law_boxes" (DI 88) ["script", "wide"]
 x74:DF K mg "_law_early" (DI 89) ["term"]
 x75:DF K mg "_law_pair" (DI 90) ["script", "wide"]
 x76:DF K mg "_law_rule" (DI 91) ["number", "name", "guard", "boxes", "doors", "deep"]
 x77:DF K mg "_law_found" (DI 92) ["term", "sort"]
 x78:DF K mg "_law_read" (DI 93) ["rule", "sort"]
 x79:DF K mg "_law_met" (DI 94) ["ahead", "behind"]
 x80:DF K mg "law" (DI 95) ["script"]
 t_WIDEST:Tok
 m_WIDEST:mg "WIDEST" = some (.int 64 t_WIDEST)
 t_MOST_PARTS:Tok
 m_MOST_PARTS:mg "MOST_PARTS" = some (.int 100 t_MOST_PARTS)
 t_MOST_DEEP:Tok
 m_MOST_DEEP:mg "MOST_DEEP" = some (.int 12 t_MOST_DEEP)
 t_MOST_BOXES:Tok
 m_MOST_BOXES:mg "MOST_BOXES" = some (.int 12 t_MOST_BOXES)
 t_MOST_DOORS:Tok
 m_MOST_DOORS:mg "MOST_DOORS" = some (.int 6 t_MOST_DOORS)
 t_MOST_RULES:Tok
 m_MOST_RULES:mg "MOST_RULES" = some (.int 8 t_MOST_RULES)
 t_MOST_WRITES:Tok
 m_MOST_WRITES:mg "MOST_WRITES" = some (.int 6 t_MOST_WRITES)
 t_LONGEST_NAME:Tok
 m_LONGEST_NAME:mg "LONGEST_NAME" = some (.int 8 t_LONGEST_NAME)
 t_MOST_CUBES:Tok
 m_MOST_CUBES:mg "MOST_CUBES" = some (.int 64 t_MOST_CUBES)
 h_HELD:Av
 m_HELD:mg "HELD" = some (.ref h_HELD)
 T_HELD:TabOk K w h_HELD QE
 B:Blt mg
abbrev Ok (P:Bs)(w:BG)(K:Ac)(mg:Str->Option Ah)(base:CU)(k:Nat)(f:Av)(fd:Dm)(ps:List Str)(sp:Ee):Prop:=FnOk P w K mg base CX0 k f fd ps (lSp K sp)
abbrev Tv (P:Bs)(w:BG)(K:Ac)(mg:Str->Option Ah)(base:CU):=Tx K w mg
abbrev Od (_:Tv P w K mg base){x:Str}{st:DC}{ps:List Str}(d:DF K mg x st ps)(k:Nat)(sp:Ee):Prop:=Ok P w K mg base k d.f d.g ps sp
abbrev Om (_:Tv P w K mg base){C:Av}{m qual:Str}{st:DC}{ps:List Str}(d:DM K C m qual st ps)(k:Nat)(sp:Ee):Prop:=Ok P w K mg base k d.f d.g ps sp
variable (T:Tv P w K mg base)
theorem vo:(("box":Str)=("num":Str))=False:=eq_false (by nofun)
theorem yq:(("late":Str)=("num":Str))=False:=eq_false (by nofun)
theorem yc:(("late":Str)=("box":Str))=False:=eq_false (by nofun)
theorem yb:(("door":Str)=("num":Str))=False:=eq_false (by nofun)
theorem ya:(("door":Str)=("box":Str))=False:=eq_false (by nofun)
theorem ε:(("door":Str)=("late":Str))=False:=eq_false (by nofun)
theorem yu:(("not":Str)=("part":Str))=False:=eq_false (by nofun)
theorem yr:(("not":Str)=("join":Str))=False:=eq_false (by nofun)
theorem yv:(("not":Str)=("pick":Str))=False:=eq_false (by nofun)
theorem yt:(("not":Str)=("less":Str))=False:=eq_false (by nofun)
theorem yw:(("not":Str)=("same":Str))=False:=eq_false (by nofun)
theorem ξ:(("pick":Str)=("part":Str))=False:=eq_false (by nofun)
theorem μ:(("pick":Str)=("join":Str))=False:=eq_false (by nofun)
theorem ν:(("pick":Str)=("less":Str))=False:=eq_false (by nofun)
theorem ο:(("pick":Str)=("same":Str))=False:=eq_false (by nofun)
theorem ζ:(("part":Str)=("join":Str))=False:=eq_false (by nofun)
theorem θ:(("part":Str)=("pick":Str))=False:=eq_false (by nofun)
theorem η:(("part":Str)=("less":Str))=False:=eq_false (by nofun)
theorem ι:(("part":Str)=("same":Str))=False:=eq_false (by nofun)
theorem io :X4 is (.tup xs) τ k=(xs.length=is.length/\k (FJ τ is xs)):=rfl
theorem fw :FJ τ (i::is) (x::xs)=FJ (τ.set i (some x)) is xs:=by rw[FJ]
theorem fv :FJ τ [] []=τ:=by unfold FJ;rfl
local macro_rules | `(tactic| simp_all_arith [$xs,*])=>`(tactic| simp_arith [ZfR,ZfT,ZeT,ZeU,ZfS,ZeR,ZeS,vo,yq,yc,yb,ya,ε,yu,yr,yv,yt,yw,ξ,μ,ν,ο,ζ,θ,η,ι,io,fw,fv,Dd,Cy,$xs,*])
local macro_rules | `(tactic| grind)=>`(tactic| simp_all_arith [true_and])
abbrev yf:Ee:=λds M Q=>GJ ds λx=>EH x λn=>Q (.bl (decide (1<=n/\n<=64))) M
theorem za:Od T T.x0 1 yf:=by
 refine CM.p1 T.x0.d.F ["number"] λx M Q hr nN h1=>?_;obtain⟨n,rfl,q⟩:=CG h1;refine⟨_,(qO (Cw (NY Qo Qo Ai (qv 0) (Iu T.m_WIDEST)))),?_⟩;right;refine Cv (λc=>?_) λc=>?_
 .rw[show decide (1<=n/\n<=64)=decide (n<=64) by simp[c]]at q;exact Dn.of q
 .rw[show decide (1<=n/\n<=64)=false by simp;intro h;ext]at q;exact Dn.of q
theorem qj (w:Nat)(h0:0<=n):D9 n<=w↔n<2^w:=by
 unfold D9;by_cases hz:n=0
 .subst hz;have:(0:Int)<2^w:=Lh (by decide);simp[this]
 .have hz':(n == 0)=false:=by simpa using hz
  rw[hz'];have ha:n.natAbs≠0:=by ext
  have hl:=Nat.log2_lt (n:=n.natAbs) (k:=w) ha;have e:((2^w:Nat):Int)=(2:Int)^w:=by simp
  constructor
  .intro h;have h0:n.natAbs.log2+1<=w:=by simpa using h
   have h1:=hl.mp h0;ext
  .intro h;have h1:n.natAbs<2^w:=by ext
   have h2:n.natAbs.log2+1<=w:=hl.mpr h1;simpa using h2
abbrev mi:Ee:=λds M Q=>Fq ds λx y=>EH x λw=>EH y λn=>0<=w/\Q (.bl (decide (0<=n/\n<2^w.toNat))) M
theorem jg:Od T T.x1 1 mi:=by
 refine CM.p2 T.x1.d.F ["width", "number"] λx y M Q hr nN h1=>?_;obtain⟨wd,rfl,h2⟩:=CG h1;obtain⟨n,rfl,hw,q⟩:=CG h2;refine⟨_,(qO (Cw (XF (NX Uc (qv 1) Ai) (T7 (NX Qo (RK PySem.F.plainAttrs_int PySem.F.slot_int_bit_length PySem.F.type_int_bit_length dh (qv 1)) (qv 0)))))),?_⟩;right;refine Cv (λc=>?_) λc=>?_
 .have c':0<=n:=by simpa using c
  have hb:=qj wd.toNat c'
  rw [show decide (0<=n/\n<2^wd.toNat)=decide ((D9 n:Int)<=wd) by
   rw[EG,decide_eq_true_iff,decide_eq_true_iff];constructor
   .intro h;have:=hb.mpr h.2;ext
   .intro h;exact ⟨c',hb.mp (by ext)⟩] at q
  exact Dn.of q
 .have c':¬ 0<=n:=by simpa using c
  rw[show decide (0<=n/\n<2^wd.toNat)=false by simp;intro h;ext]at q;exact Dn.of q
abbrev Zec:Ee:=λds M Q=>GJ ds λx=>EH x λw=>(1<=w/\w<=64)/\Q .non M
theorem jS:Od T T.x2 2 Zec:=by
 refine CM.p1 T.x2.d.F ["number"] λx M Q hr nN h1=>?_;obtain⟨wd,e1',⟨a1,a2⟩,q⟩:_:=CG h1;refine⟨_,(qO (DD (LF (Ir (As T.x0.d (za T) nofun (qA (qv 0) qN)))) (qO PH) qE)),?_⟩;right;refine Cv (λc=>?_) λc=>Dn.of q;simp[a1,a2]at c
abbrev Zf2:Ee:=λds M Q=>Fq ds λx y=>EH x λw=>EH y λn=>(1<=w/\0<=n/\n<2^w.toNat)/\Q .non M
theorem vK:Od T T.x3 2 Zf2:=by
 refine CM.p2 T.x3.d.F ["width", "number"] λx y M Q hr nN h1=>?_;obtain⟨wd,rfl,h2⟩:=CG h1;obtain⟨n,e1',⟨a1,a3,a4⟩,q⟩:_:=CG h2;refine⟨_,(qO (DD (LF (Ir (As T.x1.d (jg T) nofun (qA (qv 0) (qA (qv 1) qN))))) (qO PH) qE)),?_⟩;right;refine⟨by ext,Cv (λc2=>?_) λc2=>Dn.of q⟩;simp[a3,a4]at c2
theorem lv (h:a<=b):(2:Int)^a<=2^b:=by
 have h1:=Nat.pow_le_pow_right (n:=2) (by decide) h;have e:∀k,((2^k:Nat):Int)=(2:Int)^k:=λk=>by simp
 rw[<- e,<- e];exact Wz.mpr h1
theorem VQ (w):(0:Int)<2^w:=Lh (by decide)
abbrev ir:Ee:=λds M Q=>Fq ds λx y=>EH x λw=>EH y λn=>(0<=w/\w<=1000)/\Q (.int (n%2^w.toNat)) M
theorem Uz:Od T T.x4 1 ir:=by
 refine CM.p2 T.x4.d.F ["width", "number"] λx y M Q hr nN h1=>?_;obtain⟨wd,rfl,h2⟩:=CG h1;obtain⟨n,e1',⟨h0,h64⟩,q⟩:_:=CG h2;refine⟨_,(qO (Cw (BE Gm (qv 1) (BE Vv Ai (BW (mD rfl) T.B.max boot_max (qA (qv 0) (qA Ai qN))))))),?_⟩;right;rw[if_neg (by omega:¬ 0 > wd),Vb];exact⟨⟨h0,by ext,by decide⟩,Lh (by decide),Dn.of q⟩
noncomputable def HG (w:Nat)(x:Int):List Int:=(Bl w).map λk=>x / 2^k%2
noncomputable def weight:List Int->Int
 |[]=>0
 |b::r=>b+2*weight r
theorem sH (w:Nat)(x:Int):(HG w x).length=w:=by unfold HG;rw[Ae,B3]
theorem xb (w)(x):HG (w+1) x=x%2::HG w (x / 2):=by
 unfold HG;rw[Em,AM,CP];congr 1
 .simp
 .apply DS;intro k _;show x / 2^(k+1)%2=x / 2 / 2^k%2;rw[Ff,WA,Int.ediv_ediv_of_nonneg (by decide)]
theorem xa (w:Nat)(x:Int):HG (w+1) x=HG w x++[x / 2^w%2]:=by
 unfold HG;rw[Rt,AI];rfl
abbrev xi:Ee:=λds M Q=>Fq ds λx y=>EH x λw=>EH y λn=>(0<=w/\w<=64)/\∀p,M p=none->Q (.ref p) (put M p (.lst ((HG w.toNat n).map D.int)))
theorem tV:Od T T.x5 1 xi:=by
 refine CM.p2 T.x5.d.F ["width", "word"] λx y M Q hr nN h1=>?_;obtain⟨wd,rfl,h2⟩:=CG h1;obtain⟨n,e1',⟨h0,h64⟩,q⟩:_:=CG h2;refine⟨_,(qO (Cw (XE (caps:=[("word",1)]) ⟨rfl,by rfl,by rfl,by rfl,rfl,by rfl,by nofun⟩ rfl (UN T.B.range (qA (qv 0) qN)) (λ_ _ _ _ _ _=>(BE Tf (BE fU (qv 1) (qv 0)) Ai))))),?_⟩;right;refine⟨by ext,by rw[R8];exact HD (by ext),λi ys M'=>M'=M/\ys=(HG i n).map D.int,⟨rfl,rfl⟩,?_,?_,?_⟩
 .rintro i ys M' ⟨rfl,rfl⟩;exact⟨trivial,by rw[Ae,sH];exact AJ _⟩
 .rintro i x ys M' hx ⟨rfl,rfl⟩;obtain⟨hi,rfl⟩:=Th hx;walk_at "cap";refine⟨by ext,?_⟩;rw[xa,AI]
  have e:AD (n / 2^((0:Int)+(i:Int)).toNat) 1=n / 2^i%2:=by
   rw[show((0:Int)+(i:Int)).toNat=i by ext];exact PySem.W.kbt_mask (n / 2^i) 1
  rw[e];rfl
 .rintro ys M' ⟨rfl,rfl⟩ p hp;rw[R8];exact Dn.of (q p hp)
inductive Fz where
 |and | or | xor | plus | minus | less | same | join
noncomputable def Fz.nm:Fz->Str
 |.and=>"and" |.or=>"or" |.xor=>"xor" |.plus=>"plus" |.minus=>"minus" |.less=>"less" |.same=>"same" |.join=>"join"
inductive Tm where
 |num (w n:Int) | box (x:Str) | late (x:Str) | door (x:Str)
 |not (t:Tm) | bin (o:Fz) (t u:Tm) | pick (c t u:Tm) | part (t:Tm) (lo many:Int)
noncomputable def Tm.D:Tm->D
 |.num w n=>.tup [.str "num",.int w,.int n]
 |.box x=>.tup [.str "box",.str x]
 |.late x=>.tup [.str "late",.str x]
 |.door x=>.tup [.str "door",.str x]
 |.not t=>.tup [.str "not",t.D]
 |.bin o t u=>.tup [.str o.nm,t.D,u.D]
 |.pick c t u=>.tup [.str "pick",c.D,t.D,u.D]
 |.part t lo many=>.tup [.str "part",t.D,.int lo,.int many]
noncomputable def Tm.kids:Tm->List Tm
 |.not t=>[t]
 |.bin _ t u=>[t,u]
 |.pick c t u=>[c,t,u]
 |.part t _ _=>[t]
 |_=>[]
noncomputable def Tm.parts:Tm->Nat
 |.not t=>t.parts+1
 |.bin _ t u=>t.parts+u.parts+1
 |.pick c t u=>c.parts+t.parts+u.parts+1
 |.part t _ _=>t.parts+1
 |_=>1
noncomputable def Tm.deep:Tm->Nat
 |.not t=>t.deep+1
 |.bin _ t u=>max t.deep u.deep+1
 |.pick c t u=>max c.deep (max t.deep u.deep)+1
 |.part t _ _=>t.deep+1
 |_=>1
theorem Fz.nm_inj {a b:Fz}(h:a.nm=b.nm):a=b:=by
 cases a<;>cases b<;>first | rfl | exact absurd h (by nofun)
theorem Fz.nm_ne {o:Fz}:o.nm≠"num"/\o.nm≠"box"/\o.nm≠"late"/\o.nm≠"door"/\o.nm≠"not"/\o.nm≠"pick"/\o.nm≠"part":=by cases o<;>nofun
theorem Tm.D_inj:∀{t u:Tm},t.D=u.D->t=u
 |.num a b,.num c d,h=>by simp[Tm.D]at h;rw[h.1,h.2]
 |.box x,.box y,h=>by simp[Tm.D]at h;rw[h]
 |.late x,.late y,h=>by simp[Tm.D]at h;rw[h]
 |.door x,.door y,h=>by simp[Tm.D]at h;rw[h]
 |.not t,.not u,h=>by simp[Tm.D]at h;rw[Tm.D_inj h]
 |.bin o t u,.bin o' t' u',h=>by simp[Tm.D]at h;rw[Fz.nm_inj h.1,Tm.D_inj h.2.1,Tm.D_inj h.2.2]
 |.pick c t u,.pick c' t' u',h=>by simp[Tm.D]at h;rw[Tm.D_inj h.1,Tm.D_inj h.2.1,Tm.D_inj h.2.2]
 |.part t a b,.part t' a' b',h=>by simp[Tm.D]at h;rw[Tm.D_inj h.1,h.2.1,h.2.2]
 |.num _ _,.box _,h | .num _ _,.late _,h | .num _ _,.door _,h | .num _ _,.not _,h | .num _ _,.pick _ _ _,h | .num _ _,.part _ _ _,h=>by simp[Tm.D]at h
 |.num _ _,.bin o _ _,h=>by simp[Tm.D]at h;exact absurd h.1.symm Fz.nm_ne.1
 |.box _,.num _ _,h | .box _,.bin _ _ _,h | .box _,.pick _ _ _,h | .box _,.part _ _ _,h=>by simp[Tm.D]at h
 |.late _,.num _ _,h | .late _,.bin _ _ _,h | .late _,.pick _ _ _,h | .late _,.part _ _ _,h=>by simp[Tm.D]at h
 |.door _,.num _ _,h | .door _,.bin _ _ _,h | .door _,.pick _ _ _,h | .door _,.part _ _ _,h=>by simp[Tm.D]at h
 |.box _,.not _,h | .late _,.not _,h | .door _,.not _,h | .box _,.late _,h | .box _,.door _,h | .late _,.box _,h | .late _,.door _,h | .door _,.box _,h | .door _,.late _,h=>by simp[Tm.D]at h;exact absurd h.1 (by nofun)
 |.not _,.num _ _,h | .not _,.bin _ _ _,h | .not _,.pick _ _ _,h | .not _,.part _ _ _,h=>by simp[Tm.D]at h
 |.not _,.box _,h | .not _,.late _,h | .not _,.door _,h=>by simp[Tm.D]at h;exact absurd h.1 (by nofun)
 |.bin o _ _,.num _ _,h=>by simp[Tm.D]at h;exact absurd h.1 Fz.nm_ne.1
 |.bin _ _ _,.box _,h | .bin _ _ _,.late _,h | .bin _ _ _,.door _,h | .bin _ _ _,.not _,h | .bin _ _ _,.pick _ _ _,h | .bin _ _ _,.part _ _ _,h=>by simp[Tm.D]at h
 |.pick _ _ _,.num _ _,h | .pick _ _ _,.box _,h | .pick _ _ _,.late _,h | .pick _ _ _,.door _,h | .pick _ _ _,.not _,h | .pick _ _ _,.bin _ _ _,h=>by simp[Tm.D]at h
 |.pick _ _ _,.part _ _ _,h=>by simp[Tm.D]at h;exact absurd h.1 (by nofun)
 |.part _ _ _,.num _ _,h | .part _ _ _,.box _,h | .part _ _ _,.late _,h | .part _ _ _,.door _,h | .part _ _ _,.not _,h | .part _ _ _,.bin _ _ _,h=>by simp[Tm.D]at h
 |.part _ _ _,.pick _ _ _,h=>by simp[Tm.D]at h;exact absurd h.1 (by nofun)
open Classical in
noncomputable def Ig (x:D):Option Tm:=if h:∃t,t.D=x then some h.choose else none
theorem Uv (t):Ig t.D=some t:=by
 have h:∃u:Tm,u.D=t.D:=⟨t,rfl⟩;unfold Ig;rw[dif_pos h,Tm.D_inj h.choose_spec]
theorem mx (h:Ig x=some t):x=t.D:=by
 unfold Ig at h;split at h
 .next e=>cases h;exact e.choose_spec.symm
 .cases h
theorem MV {x:D}{k:Tm->Prop}(h:CH (Ig x) k):∃t,x=t.D/\k t:=by
 obtain⟨t,e,q⟩:=Cr h;exact⟨t,mx e,q⟩
theorem Tm.deep_pos (t:Tm):1<=t.deep:=by cases t<;>simp[Tm.deep]
theorem Tm.deep_kid {t k:Tm}(h:k∈t.kids):k.deep+1<=t.deep:=by
 cases t<;>simp[Tm.kids]at h<;>simp only[Tm.deep]
 .subst h;ext
 .rcases h with rfl|rfl<;>ext
 .rcases h with rfl|rfl|rfl<;>ext
 .subst h;ext
noncomputable def EK:List Tm->Nat
 |[]=>0
 |t::r=>t.parts+EK r
noncomputable def Fu:List Tm->Nat
 |[]=>0
 |t::r=>max t.deep (Fu r)
theorem vN (t:Tm):∀l,EK (l++[t])=EK l+t.parts
 |[]=>by simp[EK]
 |x::r=>by rw[D5,EK,EK,vN t r];ext
theorem vE (t:Tm):∀l,Fu (l++[t])=max (Fu l) t.deep
 |[]=>by simp[Fu]
 |x::r=>by rw[D5,Fu,Fu,vE t r];ext
theorem Tm.parts_eq (t:Tm):t.parts=1+EK t.kids:=by cases t<;>simp[Tm.parts,Tm.kids,EK]<;>ext
theorem Tm.deep_eq (t:Tm):t.deep=Fu t.kids+1:=by cases t<;>simp[Tm.deep,Tm.kids,Fu]<;>ext
theorem Tj (o:Fz):QE.lookup o.nm=some 2:=by cases o<;>nofun
abbrev Zf1:Ee:=λds M Q=>GJ ds λx=>CH (Ig x) λt=>Q (.tup (t.kids.map Tm.D)) M
theorem aT:Od T T.x6 1 Zf1:=by
 refine CM.p1 T.x6.d.F ["term"] λx M Q hr nN h1=>?_;obtain⟨t,rfl,q⟩:=MV h1;refine⟨_,(qO (Cw (JH nJ (qv 0) (UE Ai) (UE (BE GN Ai (Bc (nY T.T_HELD) (Qj T.m_HELD) (Bc BA (qv 0) Ai))))))),?_⟩;cases t<;>simp only[Tm.D]<;>right<;>(try simp only[Tj])<;>(try grind)<;>exact Dn.of q
abbrev aH (n:Nat)(ds:List D)(M:Mp)(Q:Eb):Prop:=GJ ds λx=>CH (Ig x) λt=>t.deep<=n/\Q (.tup [.int t.parts,.int t.deep]) M
local macro_rules | `(tactic| simp_all_arith! [$xs,*])=>`(tactic| simp_all_arith [Uv,Tj,$xs,*])
local macro_rules | `(tactic| grind)=>`(tactic| simp_all_arith! [true_and])
theorem zx {n:Nat}(G_size_of:Od T T.x7 (n+3) (aH n)):Od T T.x7 (n+4) (aH (n+1)):=by
 refine CM.p1 T.x7.d.F ["T", "parts", "deepest", "inner", "size"] λx M Q hr nN h1=>?_;obtain⟨t,rfl,hd,q⟩:=MV h1;refine⟨_,(qC (CA 1 nN Ai) (qC (CA 2 nN Ai) (Ec (MC AS rfl (QD (As T.x6.d (aT T) nofun (qA (qv 0) qN))) (Pc (i:=3) nN rfl (BH rfl)) (qC (CA 4 nN (As T.x7.d G_size_of nofun (qA (qv 3) qN))) (qC (CA 1 nN (BE GN (qv 1) (Bc BA (qv 4) Ai))) (qO (CA 2 nN (BW (mD rfl) T.B.max boot_max (qA (qv 2) (qA (Bc BA (qv 4) Ai) qN)))))))) (qO (Cw (BR (qA (qv 1) (qA (BE GN (qv 2) Ai) qN)))))))),?_⟩;right;refine⟨λτ M'=>M'=M/\∃v3 v4,τ=[some t.D,some (.int t.parts),some (.int (t.deep-1)),v3,v4],?_,?_⟩
 .grind;refine⟨λk τ M'=>M'=M/\∃v3 v4,τ=[some t.D,some (.int (1+EK (t.kids.take k):Nat)),some (.int (Fu (t.kids.take k):Nat)),v3,v4],⟨rfl,none,none,rfl⟩,λ_ _ _ _=>trivial,?_,?_⟩
  .intro k y τ M' hy;ext1⟨e1',v3,v4,e2'⟩;obtain⟨u,hu,rfl⟩:=Pb hy;have du:=Tm.deep_kid (AG hu);have e1:t.kids.take (k+1)=t.kids.take k++[u]:=by rw[A3,hu];rfl
   grind;rw[e1,vN,vE];refine⟨by ext,?_⟩;walk_at "eq";exact⟨by ext,by split<;>ext⟩
  .intro τ M';ext1⟨e1',v3,v4,e2'⟩;refine⟨rfl,v3,v4,?_⟩;rw[Ae,Bw,<- Tm.parts_eq];have:=Tm.deep_eq t;congr 4
   simp only[D.int.injEq,HZ];ext
 .intro τ M';ext1⟨e1',v3,v4,e2'⟩;grind;rw[show(t.deep:Int)-1+1=t.deep by ext];exact Dn.of q
theorem tX (T:Tv P w K mg base):∀n,Od T T.x7 (n+3) (aH n)
 |0=>by
  have no:∀ds M Q,¬aH 0 ds M Q:=λds M Q h=>by
   obtain⟨x,rfl,h1⟩:=GW h;obtain⟨t,rfl,hd,q⟩:=MV h1;have:=t.deep_pos;ext
  exact UG no
 |n+1=>zx T (tX T n)
abbrev Zf4:Ee:=λds M Q=>Kw ds λx y z=>EH x λlo=>EH y λmany=>EH z λw=>(0<=lo/\1<=many/\lo+many<=w)/\Q .non M
theorem Κ:Od T T.x13 1 Zf4:=by
 refine CM.p3 T.x13.d.F ["low", "many", "width"] λx y z M Q hr nN h1=>?_;obtain⟨lo,rfl,h2⟩:=CG h1;obtain⟨many,rfl,h3⟩:=CG h2;obtain⟨wd,e1',⟨a1,a2,a3⟩,q⟩:_:=CG h3;refine⟨_,(qO (DD ((Uo (AV Lx (qv 0) Ai) (Uo (AV Lx (qv 1) Ai) (VB (AV JK (BE GN (qv 0) (qv 1)) (qv 2)))))).pt (qO PH) qE)),?_⟩;right;refine Cv (λc=>?_) λc=>Cv (λc=>?_) λc=>Cv (λc=>?_) λc=>Dn.of q
 .ext
 .ext
 .ext
abbrev Zf8:Ee:=λds M Q=>GJ ds λx=>EH x λw=>w<=64/\Q .non M
theorem Ι:Od T T.x14 1 Zf8:=by
 refine CM.p1 T.x14.d.F ["width"] λx M Q hr nN h1=>?_;obtain⟨wd,rfl,a1,q⟩:=CG h1;refine⟨_,(qO (DD (AV JK (qv 0) (Iu T.m_WIDEST)) (qO PH) qE)),?_⟩;right;refine Cv (λc=>?_) λc=>Dn.of q;ext
abbrev Zf7:Ee:=λds M Q=>Fq ds λx y=>EH x λw=>EH y λv=>w=v/\Q .non M
theorem YA:Od T T.x15 1 Zf7:=by
 refine CM.p2 T.x15.d.F ["width", "other"] λx y M Q hr nN h1=>?_;obtain⟨wd,rfl,h2⟩:=CG h1;obtain⟨v,rfl,e,q⟩:=CG h2;subst e;refine⟨_,(qO (DD (AV XQ (qv 0) (qv 1)) (qO PH) qE)),?_⟩;right;exact Dn.of q
noncomputable def l1 (f:Int->Option Int)(l:List Int):Option Int:=if l.length=1 then f (l.headD 0)else none
noncomputable def l2 (f:Int->Int->Option Int)(l:List Int):Option Int:=if l.length=2 then f (l.headD 0) (l.tail.headD 0)else none
noncomputable def l3 (f:Int->Int->Int->Option Int)(l:List Int):Option Int:=if l.length=3 then f (l.headD 0) (l.tail.headD 0) (l.tail.tail.headD 0)else none
@[simp] theorem xH :l1 f [a]=f a:=rfl
@[simp] theorem xG :l2 f [a,b]=f a b:=rfl
@[simp] theorem xF :l3 f [a,b,c]=f a b c:=rfl
noncomputable def Fz.ov (o:Fz)(a b:Int):Option Int:=if o.nm = "join" then(if a+b<=64 then some (a+b)else none)else if a=b then some (if o.nm = "less"\/o.nm = "same" then 1 else a)else none
@[simp] theorem Zs8 :Fz.ov .join a b=if a+b<=64 then some (a+b)else none:=rfl
@[simp] theorem Zs7 :Fz.ov .less a b=if a=b then some 1 else none:=rfl
@[simp] theorem Zs5 :Fz.ov .same a b=if a=b then some 1 else none:=rfl
theorem yG {o:Fz}{a b:Int}(h1:o≠.join)(h2:o≠.less)(h3:o≠.same):o.ov a b=if a=b then some a else none:=by
 cases o<;>first | rfl | exact absurd rfl h1 | exact absurd rfl h2 | exact absurd rfl h3
@[simp] theorem Zst :Fz.ov .and a b=if a=b then some a else none:=rfl
@[simp] theorem Zsu :Fz.ov .or a b=if a=b then some a else none:=rfl
@[simp] theorem Zss :Fz.ov .xor a b=if a=b then some a else none:=rfl
@[simp] theorem Zs6 :Fz.ov .plus a b=if a=b then some a else none:=rfl
@[simp] theorem Zr9 :Fz.ov .minus a b=if a=b then some a else none:=rfl
noncomputable def Tm.over:Tm->List Int->Option Int
 |.not _=>l1 some
 |.bin o _ _=>l2 o.ov
 |.pick _ _ _=>l3 λc a b=>if c=1/\a=b then some a else none
 |.part _ lo many=>l1 λa=>if 0<=lo/\1<=many/\lo+many<=a then some many else none
 |.num _ _=>λ_=>none
 |.box _=>λ_=>none
 |.late _=>λ_=>none
 |.door _=>λ_=>none
theorem iY {t u:Tm}{a b w:Int}(h:(Tm.bin .join t u).over [a,b]=some w):a+b<=64/\w=a+b:=by
 simp[Tm.over]at h;ext
theorem Yv {o:Fz}{t u:Tm}{a b w:Int}(ho:o=.less\/o=.same)(h:(Tm.bin o t u).over [a,b]=some w):a=b/\w=1:=by
 rcases ho with rfl|rfl<;>simp[Tm.over]at h<;>ext
theorem UH {o:Fz}{t u:Tm}{a b w:Int}(h1:o≠.join)(h2:o≠.less)(h3:o≠.same)(h:(Tm.bin o t u).over [a,b]=some w):a=b/\w=a:=by
 simp[Tm.over,yG h1 h2 h3]at h;ext
theorem iZ {c t u:Tm}{d a b w:Int}(h:(Tm.pick c t u).over [d,a,b]=some w):d=1/\a=b/\w=a:=by
 simp[Tm.over]at h;ext
theorem Z9 {t:Tm}{lo many a w:Int}(h:(Tm.part t lo many).over [a]=some w):(0<=lo/\1<=many/\lo+many<=a)/\w=many:=by
 simp[Tm.over]at h;ext
theorem Zu {p:Prop}[Decidable p]{x:Option Int}{w:Int}(h:(if p then x else none)=some w):p:=Classical.byContradiction λc=>by rw[if_neg c]at h;cases h
theorem Tm.over_len {t:Tm}{ws:List Int}{w:Int}(h:t.over ws=some w):ws.length=t.kids.length/\t.kids≠[]:=by
 cases t with
 |not _=>exact⟨Zu h,λz=>nomatch z⟩
 |bin _ _ _=>exact⟨Zu h,λz=>nomatch z⟩
 |pick _ _ _=>exact⟨Zu h,λz=>nomatch z⟩
 |part _ _ _=>exact⟨Zu h,λz=>nomatch z⟩
 |_=>cases h
theorem VF (o:Fz):(o.nm = "part")=False:=eq_false Fz.nm_ne.2.2.2.2.2.2
theorem VG (o:Fz):(o.nm = "pick")=False:=eq_false Fz.nm_ne.2.2.2.2.2.1
abbrev χ:Ee:=λds M Q=>Fq ds λx y=>CH (Ig x) λt=>Kk M y λws=>(t.over ws).isSome/\Q .non M
local macro_rules | `(tactic| simp_all_arith! [$xs,*])=>`(tactic| simp_all_arith [Uv,Tj,VF,VG,$xs,*])
theorem zp:Od T T.x12 2 χ:=by
 refine CM.p2 T.x12.d.F ["term", "widths", "form"] λx y M Q hr nN h1=>?_;obtain⟨t,rfl,h2⟩:=MV h1;obtain⟨ws,hl,hs,ho,q⟩:_:=Yh h2;obtain⟨w,hw⟩:=LC.mp ho;obtain⟨hz,hne⟩:=Tm.over_len hw;refine⟨_,(qC (CA 2 nN (Bc BA (qv 0) Ai)) (qO (DD (AV Cm (qv 2) Bn) (qO (E2 (As T.x13.d (Κ T) nofun (qA (Bc BA (qv 0) Ai) (qA (Bc BA (qv 0) Ai) (qA (Bc E1 (qv 1) Ai) qN)))))) (qO (DD (AV Cm (qv 2) Bn) (qO (E2 (As T.x14.d (Ι T) nofun (qA (BE GN (Bc E1 (qv 1) Ai) (Bc E1 (qv 1) Ai)) qN)))) (qO (DD (AV Cm (qv 2) Bn) (qC (E2 (As T.x15.d (YA T) nofun (qA (Bc E1 (qv 1) Ai) (qA Ai qN)))) (qO (E2 (As T.x15.d (YA T) nofun (qA (Bc E1 (qv 1) Ai) (qA (Bc E1 (qv 1) Ai) qN)))))) (qO (DD (AV Cm (Bc (nY T.T_HELD) (Qj T.m_HELD) (qv 2)) Ai) (qO (E2 (As T.x15.d (YA T) nofun (qA (Bc E1 (qv 1) Ai) (qA (Bc E1 (qv 1) Ai) qN))))) qE))))))))),?_⟩;cases t with
 |num _ _=>exact absurd rfl hne
 |box _=>exact absurd rfl hne
 |late _=>exact absurd rfl hne
 |door _=>exact absurd rfl hne
 |not t=>simp only[Tm.D];right;exact Dn.of q
 |bin o t u=>
  obtain⟨a,b,rfl⟩:∃a b,ws=[a,b]:=by
   match ws,hz with
   |[a,b],_=>exact⟨a,b,rfl⟩
  simp only[Tm.D];right;simp only[hl,AM,CY];grind;refine Cv (λc=>?_) λc=>?_
  .cases Fz.nm_inj (b:=.join) c;exact⟨(iY hw).1,Dn.of q⟩
  .have cj:o≠.join:=λe=>c (by rw[e];rfl);refine⟨?_,Dn.of q⟩;by_cases c1:o=.less\/o=.same
   .exact(Yv c1 hw).1
   .exact(UH cj (λe=>c1 (.inl e)) (λe=>c1 (.inr e)) hw).1
 |pick c t u=>
  obtain⟨d,a,b,rfl⟩:∃d a b,ws=[d,a,b]:=by
   match ws,hz with
   |[d,a,b],_=>exact⟨d,a,b,rfl⟩
  obtain⟨e1,e2,rfl⟩:=iZ hw;simp only[Tm.D];right;simp only[hl,AM,CY];grind;exact⟨e1,e2,Dn.of q⟩
 |part t lo many=>
  obtain⟨a,rfl⟩:∃a,ws=[a]:=by
   match ws,hz with
   |[a],_=>exact⟨a,rfl⟩
  obtain⟨e1,rfl⟩:=Z9 hw;simp only[Tm.D];right;simp only[hl,AM,CY];grind;exact⟨e1,Dn.of q⟩
abbrev ZeY:Ee:=λds M Q=>Fq ds λx y=>CH (Ig x) λt=>Kk M y λws=>CH (t.over ws) λw=>Q (.int w) M
theorem Ν:Od T T.x16 1 ZeY:=by
 refine CM.p2 T.x16.d.F ["term", "widths", "form"] λx y M Q hr nN h1=>?_;obtain⟨t,rfl,h2⟩:=MV h1;obtain⟨ws,hl,hs,ho⟩:=Yh h2;obtain⟨w,hw,q⟩:=Cr ho;obtain⟨hz,hne⟩:=Tm.over_len hw;refine⟨_,(qC (CA 2 nN (Bc BA (qv 0) Ai)) (qC (DD ((Uo (AV Cm (qv 2) Bn) (VB (AV Cm (qv 2) Bn)))).pt (qO (Cw Ai)) qE) (qC (DD (AV Cm (qv 2) Bn) (qO (Cw (Bc E1 (qv 1) Ai))) qE) (qC (DD (AV Cm (qv 2) Bn) (qO (Cw (BE GN (Bc E1 (qv 1) Ai) (Bc E1 (qv 1) Ai)))) qE) (qC (DD (AV Cm (qv 2) Bn) (qO (Cw (Bc BA (qv 0) Ai))) qE) (qO (Cw (Bc E1 (qv 1) Ai)))))))),?_⟩;cases t with
 |num _ _=>exact absurd rfl hne
 |box _=>exact absurd rfl hne
 |late _=>exact absurd rfl hne
 |door _=>exact absurd rfl hne
 |not t=>
  obtain⟨a,rfl⟩:∃a,ws=[a]:=by
   match ws,hz with
   |[a],_=>exact⟨a,rfl⟩
  have e:a=w:=by simpa[Tm.over]using hw
  subst e;simp only[Tm.D];right;simp only[hl,AM,CY];grind;exact Dn.of q
 |bin o t u=>
  obtain⟨a,b,rfl⟩:∃a b,ws=[a,b]:=by
   match ws,hz with
   |[a,b],_=>exact⟨a,b,rfl⟩
  simp only[Tm.D];right;simp only[hl,AM,CY];grind;refine Cv (λc=>?_) λc=>Cv (λc2=>?_) λc2=>Cv (λc3=>?_) λc3=>?_
  .cases Fz.nm_inj (b:=.less) c;cases(Yv (.inl rfl) hw).2;exact Dn.of q
  .cases Fz.nm_inj (b:=.same) c2;cases(Yv (.inr rfl) hw).2;exact Dn.of q
  .cases Fz.nm_inj (b:=.join) c3;cases(iY hw).2;exact Dn.of q
  .cases(UH (λe=>c3 (by rw[e];rfl)) (λe=>c (by rw[e];rfl)) (λe=>c2 (by rw[e];rfl)) hw).2;exact Dn.of q
 |pick c t u=>
  obtain⟨d,a,b,rfl⟩:∃d a b,ws=[d,a,b]:=by
   match ws,hz with
   |[d,a,b],_=>exact⟨d,a,b,rfl⟩
  obtain⟨e1,e2,rfl⟩:=iZ hw;simp only[Tm.D];right;simp only[hl,AM,CY];grind;exact Dn.of q
 |part t lo many=>
  obtain⟨a,rfl⟩:∃a,ws=[a]:=by
   match ws,hz with
   |[a],_=>exact⟨a,rfl⟩
  obtain⟨e1,rfl⟩:=Z9 hw;simp only[Tm.D];right;exact Dn.of q
abbrev Zeb:Ee:=λds M Q=>Fq ds λx y=>EH x λw=>EH y λn=>(1<=w/\w<=64/\0<=n/\n<2^w.toNat)/\Q (.int w) M
theorem Zek:Od T T.x10 3 Zeb:=by
 refine CM.p2 T.x10.d.F ["width", "word"] λx y M Q hr nN h1=>?_;obtain⟨wd,rfl,h2⟩:=CG h1;obtain⟨n,e1',⟨a1,a2,a3,a4⟩,q⟩:_:=CG h2;refine⟨_,(qC (E2 (As T.x2.d (jS T) nofun (qA (qv 0) qN))) (qC (E2 (As T.x3.d (vK T) nofun (qA (qv 0) (qA (qv 1) qN)))) (qO (Cw (qv 0))))),?_⟩;right;refine⟨⟨a1,a2⟩,⟨a1,a3,a4⟩,?_⟩;exact Dn.of q
noncomputable def EO (ws:List (Str×Int)):List (Cd×D):=ws.map λp=>(.inr p.1,.int p.2)
noncomputable def MI:List (Cd×D)->Option (List (Str×Int))
 |[]=>some []
 |(.inr z,.int n)::r=>(MI r).map ((z,n)::·)
 |_::_=>none
theorem gT:∀ws,MI (EO ws)=some ws
 |[]=>rfl
 |(z,n)::r=>by
  show(MI (EO r)).map ((z,n)::·)=_;rw[gT r];rfl
theorem iE:∀{AQ:List (Cd×D)}{ws:List (Str×Int)},MI AQ=some ws->AQ=EO ws
 |[],ws,h=>by cases h;rfl
 |(.inr z,.int n)::r,ws,h=>by
  change(MI r).map ((z,n)::·)=_ at h;cases e:MI r with
  |none=>rw[e]at h;cases h
  |some us=>rw[e]at h;cases h;rw[iE e];rfl
 |(.inl z,_)::r,ws,h=>by cases h
 |(.inr z,.str _)::r,ws,h=>by cases h
 |(.inr z,.bl _)::r,ws,h=>by cases h
 |(.inr z,.non)::r,ws,h=>by cases h
 |(.inr z,.tup _)::r,ws,h=>by cases h
 |(.inr z,.lst _)::r,ws,h=>by cases h
 |(.inr z,.dic _)::r,ws,h=>by cases h
 |(.inr z,.ref _)::r,ws,h=>by cases h
theorem iD (z:Str):∀ws,DL (EO ws) (.inr z)=(ws.lookup z).map D.int
 |[]=>rfl
 |(y,n)::r=>by
  by_cases h:y=z
  .subst h;simp[DL,EO,BS]
  .have h2:(z == y)=false:=by simpa using λe=>h e.symm
   have h3:DL (EO ((y,n)::r)) (.inr z)=DL (EO r) (.inr z):=by simp[DL,EO,BZ,h]
   rw[h3,iD z r,BS,h2]
def JJ (M:Mp)(x:D)(k:List (Str×Int)->Prop):Prop:=CH (Eu M x) λAQ=>CH (MI AQ) k
theorem Um {M:Mp}{x:D}{k:List (Str×Int)->Prop}(h:JJ M x k):∃ws,Eu M x=some (EO ws)/\k ws:=by
 obtain⟨AQ,e,h1⟩:=Cr h;obtain⟨ws,e2,q⟩:=Cr h1;rw[iE e2]at e;exact⟨ws,e,q⟩
theorem Yi {M:Mp}{x:D}{ws:List (Str×Int)}{k:List (Str×Int)->Prop}(e:Eu M x=some (EO ws)):JJ M x k=k ws:=by unfold JJ;rw[e,Cn,gT,Cn]
theorem Yo :JJ M (.dic (EO ws)) k=k ws:=Yi rfl
abbrev Ze9:Ee:=λds M Q=>Fq ds λx y=>JJ M x λws=>GI y λz=>CH (ws.lookup z) λn=>Q (.int n) M
theorem jT:Od T T.x11 1 Ze9:=by
 refine CM.p2 T.x11.d.F ["widths", "name"] λx y M Q hr nN h1=>?_;obtain⟨ws,hx,h2⟩:=Um h1;obtain⟨z,rfl,h3⟩:=Et h2;obtain⟨n,hz,q⟩:=Cr h3;refine⟨_,(qC (DD (AV (p9 (Ly hr)) (qv 1) (qv 0) (by with_unfolding_all rfl)) (qO PH) qE) (qO (Cw (Gz (Ly hr) (qv 0) (qv 1) (λ_ _=>rfl))))),?_⟩;right;simp only[hx,Cn,gO,iD,hz,Jz,Oo,if_true,Mu,FQ,if_false];exact Dn.of q
inductive Wd (bs ds:List (Str×Int)):Tm->Int->Prop
 |num {w n:Int}:(1<=w/\w<=64/\0<=n/\n<2^w.toNat)->Wd bs ds (.num w n) w
 |box {x:Str} {w:Int}:bs.lookup x=some w->Wd bs ds (.box x) w
 |late {x:Str} {w:Int}:bs.lookup x=some w->Wd bs ds (.late x) w
 |door {x:Str} {w:Int}:ds.lookup x=some w->Wd bs ds (.door x) w
 |over {t:Tm} {ws:List Int} {w:Int}:(∀(i:Nat) (k:Tm) (a:Int),t.kids[i]? = some k->ws[i]? = some a->Wd bs ds k a)->t.over ws=some w->Wd bs ds t w
noncomputable def Tm.form:Tm->Str
 |.num _ _=>"num" |.box _=>"box" |.late _=>"late" |.door _=>"door" |.not _=>"not" |.bin o _ _=>o.nm | .pick _ _ _=>"pick" |.part _ _ _=>"part"
theorem Ut (t:Tm){M:Mp}{Q:Eb}:L5 t.D (.int 0) M Q=Q (.str t.form) M:=by cases t<;>rfl
theorem Tm.form_ne {t:Tm}(h:t.kids≠[]):t.form≠"num"/\t.form≠"box"/\t.form≠"late"/\t.form≠"door":=by
 cases t with
 |num _ _=>exact absurd rfl h
 |box _=>exact absurd rfl h
 |late _=>exact absurd rfl h
 |door _=>exact absurd rfl h
 |bin o _ _=>exact⟨Fz.nm_ne.1,Fz.nm_ne.2.1,Fz.nm_ne.2.2.1,Fz.nm_ne.2.2.2.1⟩
 |_=>refine⟨?_,?_,?_,?_⟩<;>dsimp only[Tm.form]<;>nofun
theorem Tm.kids_le (t:Tm):t.kids.length<=3:=by cases t<;>simp[Tm.kids]
abbrev aQ (n:Nat)(ds:List D)(M:Mp)(Q:Eb):Prop:=Kw ds λx y z=>CH (Ig x) λt=>JJ M y λbs=>JJ M z λds=>t.deep<=n/\∃w,Wd bs ds t w/\Q (.int w) M
local macro_rules | `(tactic| simp_all_arith! [$xs,*])=>`(tactic| simp_all_arith [Uv,Tj,VF,VG,Yo,Ut,$xs,*])
theorem ZdE {n:Nat}(G_checked_width:Od T T.x9 (n+4) (aQ n)):Od T T.x9 (n+5) (aQ (n+1)):=by
 refine CM.p3 T.x9.d.F ["term", "boxes", "doors", "form", "widths"] λx y z M Q hr nN h1=>?_;obtain⟨t,rfl,h2⟩:=MV h1;obtain⟨bs,hb,h3⟩:=Um h2;obtain⟨ds,hd,hn,wd,hw,q⟩:_:=Um h3;have bW:∀{k:List (Str×Int)->Prop},JJ M y k=k bs:=Yi hb;have dW:∀{k:List (Str×Int)->Prop},JJ M z k=k ds:=Yi hd;refine⟨_,(qC (CA 3 nN (Bc BA (qv 0) Ai)) (qC (DD (AV Cm (qv 3) Bn) (qO (Cw (As T.x10.d (Zek T) nofun (qA (Bc BA (qv 0) Ai) (qA (Bc BA (qv 0) Ai) qN))))) qE) (qC (DD ((Uo (AV Cm (qv 3) Bn) (VB (AV Cm (qv 3) Bn)))).pt (qO (Cw (As T.x11.d (jT T) nofun (qA (qv 1) (qA (Bc BA (qv 0) Ai) qN))))) qE) (qC (DD (AV Cm (qv 3) Bn) (qO (Cw (As T.x11.d (jT T) nofun (qA (qv 2) (qA (Bc BA (qv 0) Ai) qN))))) qE) (qC (qx (caps:=[("boxes",1),("doors",2)]) (i:=4) nN rfl rfl ⟨rfl,by rfl,by rfl,by rfl,rfl,by rfl,by nofun⟩ rfl (QD (As T.x6.d (aT T) nofun (qA (qv 0) qN))) (λ_ _ _ _ _ _=>(As T.x9.d G_checked_width nofun (qA (qv 0) (qA (qv 1) (qA (qv 2) qN)))))) (qC (E2 (As T.x12.d (zp T) nofun (qA (qv 0) (qA (qv 4) qN)))) (qO (Cw (As T.x16.d (Ν T) nofun (qA (qv 0) (qA (qv 4) qN))))))))))),?_⟩;cases hw with
 |num a=>simp only[Tm.D];right;exact⟨a,Dn.of q⟩
 |box a=>simp only[Tm.D];right;simp only[bW,a,Cn,Yc];exact Dn.of q
 |late a=>simp only[Tm.D];right;simp only[bW,a,Cn,Yc];exact Dn.of q
 |door a=>simp only[Tm.D];right;simp only[dW,a,Cn,Yc];exact Dn.of q
 | @over _ ws _ kid ho=>
  obtain⟨hz,hne⟩:=Tm.over_len ho;obtain⟨n1,n2,n3,n4⟩:=Tm.form_ne hne;have n1':=eq_false n1;have n2':=eq_false n2;have n3':=eq_false n3;have n4':=eq_false n4;right;simp only[Ut,n1',n2',n3',n4'];grind;refine⟨HD (by rw[Ae,<- hz];have:=Tm.kids_le t;ext),λi ys M'=>M'=M/\ys=(ws.take i).map D.int,⟨rfl,rfl⟩,?_,?_,?_⟩
  .rintro i ys M' ⟨rfl,rfl⟩;exact⟨trivial,by rw[Ae,AW];ext⟩
  .rintro i x ys M' hx ⟨rfl,rfl⟩;obtain⟨k,hk,rfl⟩:=Pb hx;have hi:i<ws.length:=by rw[hz];exact(Au.mp hk).1
   have hwi:=Ag hi;have dk:=Tm.deep_kid (AG hk);walk_at "cap";simp only[bW,dW];refine⟨by ext,ws[i],kid i k _ hk hwi,?_⟩;rw[A3,hwi,AI];rfl
  .rintro ys M' ⟨rfl,rfl⟩;rw[Ae,<- hz,Bw];grind;simp only[ho];exact⟨rfl,Dn.of q⟩
theorem wE (T:Tv P w K mg base):∀n,Od T T.x9 (n+4) (aQ n)
 |0=>by
  have no:∀ds M Q,¬aQ 0 ds M Q:=λds M Q h=>by
   obtain⟨x,y,z,e1',h1⟩:_:=RP h;obtain⟨t,rfl,h2⟩:=MV h1;obtain⟨bs,hb,h3⟩:=Um h2;obtain⟨ds,hd,hn,_⟩:=Um h3;have:=t.deep_pos;ext
  exact UG no
 |n+1=>ZdE T (wE T n)
abbrev ym:Ee:=λds M Q=>Kw ds λx y z=>CH (Ig x) λt=>JJ M y λbs=>JJ M z λds=>(t.parts<=100/\t.deep<=12)/\∃w,Wd bs ds t w/\Q (.int w) M
theorem uR:Od T T.x8 17 ym:=by
 refine CM.p3 T.x8.d.F ["T", "boxes", "doors", "size"] λx y z M Q hr nN h1=>?_;obtain⟨t,rfl,h2⟩:=MV h1;obtain⟨bs,hb,h3⟩:=Um h2;obtain⟨ds,hd,⟨hp,hn⟩,wd,hw,q⟩:_:=Um h3;have bW:∀{k:List (Str×Int)->Prop},JJ M y k=k bs:=Yi hb;have dW:∀{k:List (Str×Int)->Prop},JJ M z k=k ds:=Yi hd;refine⟨_,(qC (CA 3 nN (As T.x7.d (tX T 12) nofun (qA (qv 0) qN))) (qC (DD (AV JK (Bc BA (qv 3) Ai) (Iu T.m_MOST_PARTS)) (qO PH) qE) (qC (DD (AV JK (Bc BA (qv 3) Ai) (Iu T.m_MOST_DEEP)) (qO PH) qE) (qO (Cw (As T.x9.d (wE T 12) nofun (qA (qv 0) (qA (qv 1) (qA (qv 2) qN))))))))),?_⟩;right;refine⟨hn,Cv (λc=>by ext) λc=>Cv (λc=>by ext) λc2=>?_⟩;simp only[bW,dW];exact⟨hn,wd,hw,Dn.of q⟩
noncomputable def Tm.leaves:Tm->List Tm
 |.not t=>t.leaves
 |.bin _ t u=>t.leaves++u.leaves
 |.pick c t u=>c.leaves++t.leaves++u.leaves
 |.part t _ _=>t.leaves
 |t=>[t]
noncomputable def B8:List Tm->List Tm
 |[]=>[]
 |t::r=>t.leaves++B8 r
theorem jR (t:Tm):∀l:List Tm,B8 (l++[t])=B8 l++t.leaves
 |[]=>by simp[B8]
 |x::r=>by rw[D5,B8,B8,jR t r,Bm]
theorem wD:∀a b:List Tm,B8 (a++b)=B8 a++B8 b
 |[],b=>rfl
 |x::r,b=>by rw[D5,B8,B8,wD r b,Bm]
theorem Tm.parts_of_kid {t k:Tm}(h:k∈t.kids):k.parts+1<=t.parts:=by
 cases t<;>simp[Tm.kids]at h<;>simp only[Tm.parts]
 .subst h;ext
 .rcases h with rfl|rfl<;>ext
 .rcases h with rfl|rfl|rfl<;>ext
 .subst h;ext
theorem Tm.leaves_eq {t:Tm}(h:t.kids≠[]):t.leaves=B8 t.kids:=by
 cases t<;>first | exact absurd rfl h | simp[Tm.leaves,Tm.kids,B8]
theorem Tm.leaves_leaf {t:Tm}(h:t.kids=[]):t.leaves=[t]:=by
 cases t<;>first | rfl | exact absurd h (by simp[Tm.kids])
theorem Tm.leaves_len:∀t:Tm,t.leaves.length<=t.parts
 |.not t=>by have:=t.leaves_len;simp only[Tm.leaves,Tm.parts];ext
 |.bin _ t u=>by have:=t.leaves_len;have:=u.leaves_len;simp only[Tm.leaves,Tm.parts,Ao];ext
 |.pick c t u=>by have:=c.leaves_len;have:=t.leaves_len;have:=u.leaves_len;simp only[Tm.leaves,Tm.parts,Ao];ext
 |.part t _ _=>by have:=t.leaves_len;simp only[Tm.leaves,Tm.parts];ext
 |.num _ _ | .box _ | .late _ | .door _=>by simp[Tm.leaves,Tm.parts]
abbrev aN (n:Nat)(ds:List D)(M:Mp)(Q:Eb):Prop:=GJ ds λx=>CH (Ig x) λt=>t.deep<=n/\t.parts<=1000/\∀p,M p=none->Q (.ref p) (put M p (.lst (t.leaves.map Tm.D)))
theorem Zej (G_leaves_of:Od T T.x18 (n+3) (aN n)):Od T T.x18 (n+4) (aN (n+1)):=by
 refine CM.p1 T.x18.d.F ["term", "inner_terms", "leaves", "inner"] λx M Q hr nN h1=>?_;obtain⟨t,e1',hd,hp,q⟩:_:=MV h1;refine⟨_,(qC (CA 1 nN (As T.x6.d (aT T) nofun (qA (qv 0) qN))) (qC (DD (AV Cm (BW Kb T.B.len BP (qA (qv 1) qN)) Ai) (qO (Cw (KQ (qA (qv 0) qN)))) qE) (qC (CA 2 nN (KQ qN)) (Ec (MC AS rfl (QD (qv 1)) (Pc (i:=3) nN rfl (BH rfl)) (qO (E2 (L7 AZ CO CN Tg (qv 2) (qA (L6 (As T.x18.d G_leaves_of nofun (qA (qv 3) qN))) qN))))) (qO (Cw (qv 2))))))),?_⟩;right;by_cases hk:t.kids=[]
 .rw[hk,if_pos (by simp)];rw[Tm.leaves_leaf hk]at q;intro p hp;exact Dn.of (q p hp)
 rw[if_neg (by simpa using hk)];intro p hM;have hl:=t.leaves_len;rw[Tm.leaves_eq hk]at q hl;refine⟨λτ M'=>M'=put M p (.lst ((B8 t.kids).map Tm.D))/\∃v3,τ=[some t.D,some (.tup (t.kids.map Tm.D)),some (.ref p),v3],?_,?_⟩
 .grind;refine⟨λk τ M'=>M'=put M p (.lst ((B8 (t.kids.take k)).map Tm.D))/\∃v3,τ=[some t.D,some (.tup (t.kids.map Tm.D)),some (.ref p),v3],⟨rfl,none,rfl⟩,λ_ _ _ _=>trivial,?_,?_⟩
  .rintro k y τ M' hy ⟨rfl,v3,rfl⟩;obtain⟨u,hu,rfl⟩:=Pb hy;have du:=Tm.deep_kid (AG hu);have e1:t.kids.take (k+1)=t.kids.take k++[u]:=by rw[A3,hu];rfl
   grind;have pu:=Tm.parts_of_kid (AG hu);refine⟨by ext,by ext,λp1 hp1=>?_⟩
   have e2:B8 t.kids=B8 (t.kids.take k)++u.leaves++B8 (t.kids.drop (k+1)):=by
    rw[<- jR,<- e1,<- wD,ED]
   rw[e2]at hl;simp only[Ao]at hl;rw[DN];dsimp only;rw[pO hp1,nG];refine⟨by rw[Ae,Ae];exact HD (by ext),?_,_,rfl⟩;rw[e1,jR,AI]
  .rintro τ M' ⟨rfl,v3,rfl⟩;refine⟨?_,v3,rfl⟩;rw[Ae,Bw]
 .rintro τ M' ⟨rfl,v3,rfl⟩;grind;exact Dn.of (q p hM)
theorem vS (T:Tv P w K mg base):∀n:Nat,Od T T.x18 (n+3) (aN n)
 |0=>by
  have no:∀ds M Q,¬aN 0 ds M Q:=λds M Q h=>by
   obtain⟨x,rfl,h1⟩:=GW h;obtain⟨t,e1',hd,hp,q⟩:_:=MV h1;have:=t.deep_pos;ext
  exact UG no
 |n+1=>Zej T (vS T n)
theorem F4.fil {α:Type}{ks:List α}{g:α->D}{f:α->Option D}{S:Mp->Prop}{caps:List (Str×Nat)}{tt:K0}{te:DG}{τ:Gq}{M:Mp}{Q:List D->Mp->Prop}(hz:ks.length<=Am)(hS:S M)
  (h:∀k∈ks,∀R:Bool->Mp->Prop,R (f k).isSome M->tt (Md τ caps (some (g k))) M R) (h2:∀k∈ks,∀d,f k=some d->∀R:Eb,R d M->te (Md τ caps (some (g k))) M R) (q:Q (ks.filterMap f) M):F4 (ks.map g) S caps tt te τ M Q:=by
 refine⟨by rw[Ae];exact hz,λi ys M'=>M'=M/\ys=(ks.take i).filterMap f,⟨rfl,rfl⟩,?_,?_,?_⟩
 .rintro i ys M' ⟨rfl,rfl⟩;exact⟨hS,AY (DO _ _) (by rw[AW];ext)⟩
 .rintro i x ys M' hx ⟨rfl,rfl⟩;rw[AL]at hx;cases e:ks[i]? with
  |none=>rw[e]at hx;cases hx
  |some k=>
   rw[e]at hx;cases hx;have et:ks.take (i+1)=ks.take i++[k]:=by rw[A3,e];rfl
   refine h k (AG e) _ ?_;cases fk:f k with
   |none=>rw[if_neg (by simp)];refine⟨rfl,?_⟩;rw[et,HL];simp[fk]
   |some d=>rw[if_pos (by rfl)];refine h2 k (AG e) d fk _ ⟨rfl,?_⟩;rw[et,HL];simp[fk]
 .rintro ys M' ⟨rfl,rfl⟩;rw[Ae,Bw];exact q
theorem uX:((Ak "box":Str)=Ak "late")=False:=eq_false (by nofun)
theorem jI:((Ak "box":Str)=Ak "door")=False:=eq_false (by nofun)
theorem tT:((Ak "box":Str)=Ak "num")=False:=eq_false (by nofun)
theorem uZ:((Ak "late":Str)=Ak "box")=False:=eq_false (by nofun)
theorem jV:((Ak "late":Str)=Ak "door")=False:=eq_false (by nofun)
theorem vA:((Ak "late":Str)=Ak "num")=False:=eq_false (by nofun)
theorem jJ:((Ak "door":Str)=Ak "box")=False:=eq_false (by nofun)
theorem jU:((Ak "door":Str)=Ak "late")=False:=eq_false (by nofun)
theorem uY:((Ak "door":Str)=Ak "num")=False:=eq_false (by nofun)
theorem tU:((Ak "num":Str)=Ak "box")=False:=eq_false (by nofun)
theorem vC:((Ak "num":Str)=Ak "late")=False:=eq_false (by nofun)
theorem vB:((Ak "num":Str)=Ak "door")=False:=eq_false (by nofun)
noncomputable def Tm.nameOf (form:Str):Tm->Option Str
 |.box x=>if form = "box" then some x else none
 |.late x=>if form = "late" then some x else none
 |.door x=>if form = "door" then some x else none
 |_=>none
theorem QF:∀ss:List Str,DX (ss.map D.str)=some ss
 |[]=>rfl
 |s::ss=>by rw[AM,DX,QF ss];rfl
def G7 (f:Str):Prop:=f = "box"\/f = "late"\/f = "door"
abbrev yh:Ee:=λds M Q=>Fq ds λx f=>∃ls:List Tm,(∀l∈ls,l.kids=[])/\x=.lst (ls.map Tm.D)/\ls.length<=1000/\GI f λform=>G7 form/\(fm (ls.filterMap (Tm.nameOf form))).length<64/\∀p,M p=none->Q (.ref p) (put M p (.lst ((HE (ls.filterMap (Tm.nameOf form))).map D.str)))
theorem jN:Od T T.x19 1 yh:=by
 refine CM.p2 T.x19.d.F ["leaves", "form"] λx f M Q hr nN h=>?_;obtain⟨ls,hk,e1',hl,h2⟩:_:=h;obtain⟨form,e1',hn,h64,q⟩:_:=Et h2;refine⟨_,(qO (Cw (lF rfl T.B.sorted T.B.set (OE (caps:=[("form",1)]) ⟨rfl,by rfl,by rfl,by rfl,rfl,by rfl,by nofun⟩ rfl (PJ (qv 0)) (λ_ _ _ _ _ _=>(Bc BA (qv 0) Ai)) (λ_ _ _ _ _ _=>(AV Cm (Bc BA (qv 0) Ai) (qv 1))))))),?_⟩;right;refine F4.fil (f:=λl=>(Tm.nameOf form l).map D.str) (HD hl) trivial ?_ ?_ ?_
 .intro k hkm R hR;have hkk:=hk k hkm;cases k<;>(try (simp[Tm.kids]at hkk;done))
  all_goals
   simp only[Tm.D];walk_at "cap";rcases hn with rfl|rfl|rfl<;>simpa[Tm.nameOf,uX,jI,tT,uZ,jV,vA,jJ,jU,uY,tU,vC,vB]using hR
 .intro k hkm d hd R hR;have hkk:=hk k hkm;cases k<;>(try (simp[Tm.kids]at hkk;done))
  all_goals
   simp only[Tm.D];walk_at "cap";rcases hn with rfl|rfl|rfl<;>simp[Tm.nameOf,uX,jI,tT,uZ,jV,vA,jJ,jU,uY,tU,vC,vB]at hd<;>(try (subst hd))<;>(try exact hR)
 .have e1:(ls.filterMap λl=>(Tm.nameOf form l).map D.str)=(ls.filterMap (Tm.nameOf form)).map D.str:=by
   rw[Pu]
  rw[e1,QF];have:=DO (Tm.nameOf form) ls;refine⟨by unfold A9;ext,h64,?_⟩;intro p hp;exact Dn.of (q p hp)
theorem Tm.leaves_kids:∀(t:Tm),∀l∈t.leaves,l.kids=[]
 |.not t,l,h=>t.leaves_kids l h
 |.bin _ t u,l,h=>(AH.mp h).elim (t.leaves_kids l) (u.leaves_kids l)
 |.pick c t u,l,h=>(AH.mp h).elim (λh=>(AH.mp h).elim (c.leaves_kids l) (t.leaves_kids l)) (u.leaves_kids l)
 |.part t _ _,l,h=>t.leaves_kids l h
 |.num _ _,l,h | .box _,l,h | .late _,l,h | .door _,l,h=>by cases AN.mp h;rfl
noncomputable def Tm.names (form:Str)(t:Tm):List Str:=t.leaves.filterMap (Tm.nameOf form)
noncomputable def Mz (form:Str)(t:Tm):MO:=.lst ((HE (t.names form)).map D.str)
abbrev sw:Ee:=λds M Q=>GJ ds λx=>CH (Ig x) λt=>t.deep<=12/\t.parts<=1000/\(∀f,G7 f->(fm (t.names f)).length<64) /\
 ∀p0 p1 p2,M p0=none->M p1=none->M p2=none->p1≠p0->p2≠p0->p2≠p1->Q (.tup [.ref p0,.ref p1,.ref p2]) (put (put (put M p0 (Mz "box" t)) p1 (Mz "late" t)) p2 (Mz "door" t))
theorem ZW:Od T T.x17 16 sw:=by
 refine CM.p1 T.x17.d.F ["T", "leaves"] λx M Q hr nN h1=>?_;obtain⟨t,e1',hd,hp,h64,q⟩:_:=MV h1;refine⟨_,(qC (CA 1 nN (L6 (As T.x18.d (vS T 12) nofun (qA (qv 0) qN)))) (qO (Cw (BR (qA (As T.x19.d (jN T) nofun (qA (qv 1) (qA Bn qN))) (qA (As T.x19.d (jN T) nofun (qA (qv 1) (qA Bn qN))) (qA (As T.x19.d (jN T) nofun (qA (qv 1) (qA Bn qN))) qN))))))),?_⟩;right;have hl:=AY t.leaves_len hp;refine⟨hd,hp,λp hM=>?_⟩;rw[DN,pO hM];dsimp only;refine⟨t.leaves,t.leaves_kids,rfl,hl,.inl rfl,h64 _ (.inl rfl),λp0 m0=>?_⟩;refine⟨t.leaves,t.leaves_kids,rfl,hl,.inr (.inl rfl),h64 _ (.inr (.inl rfl)),λp1 m1=>?_⟩;refine⟨t.leaves,t.leaves_kids,rfl,hl,.inr (.inr rfl),h64 _ (.inr (.inr rfl)),λp2 m2=>?_⟩;have n1:p1≠p0:=λe=>by rw[e,DN]at m1;cases m1
 have n2:p2≠p1:=λe=>by rw[e,DN]at m2;cases m2
 have m2':=iM m2;have n3:p2≠p0:=λe=>by rw[e,DN]at m2';cases m2'
 (try grind)
 exact Dn.of (q p0 p1 p2 m0 (iM m1) (iM m2') n1 n3 n2)
theorem ZS (ha:0<=a)(hb:0<=b):AD a b=2*AD (a / 2) (b / 2)+(a%2)*(b%2):=by
 obtain⟨m,rfl⟩:∃m:Nat,a=(m:Int):=⟨a.toNat,by ext⟩;obtain⟨n,rfl⟩:∃n:Nat,b=(n:Int):=⟨b.toNat,by ext⟩;rw[HX ha hb,HX (by ext) (by ext)];have e1:((m:Int) / 2).toNat=m / 2:=by ext
 have e2:((n:Int) / 2).toNat=n / 2:=by ext
 rw[e1,e2,BN,BN];have h1:(m &&& n) / 2=m / 2 &&& n / 2:=Nat.and_div_two;have h2:(m &&& n)%2=(m%2) &&& (n%2):=by have:=Nat.and_mod_two_pow (a:=m) (b:=n) (n:=1);simpa using this
 have h3:((m%2) &&& (n%2):Nat)=(m%2)*(n%2):=by
  have a1:m%2=0\/m%2=1:=by ext
  have a2:n%2=0\/n%2=1:=by ext
  rcases a1 with a1|a1<;>rcases a2 with a2|a2<;>rw[a1,a2]<;>rfl
 have h4:(m &&& n)=2*(m / 2 &&& n / 2)+(m%2)*(n%2):=by
  have:=Nat.div_add_mod (m &&& n) 2;rw[h1,h2,h3]at this;ext
 rw[h4]
 push_cast
 rfl
theorem N5 (a:Int):a%2=0\/a%2=1:=by ext
theorem w4 (ha:0<=a)(hb:0<=b):AD a b%2=(a%2)*(b%2)/\AD a b / 2=AD (a / 2) (b / 2):=by
 have h:=ZS ha hb;rcases N5 a with e|e<;>rcases N5 b with e' | e'<;>rw[e,e']at h<;>rw[e,e']<;>ext
theorem ub (ha:0<=a)(hb:0<=b):AK a b%2=max (a%2) (b%2)/\AK a b / 2=AK (a / 2) (b / 2):=by
 have h:=ZS ha hb;rw[FF,FF];rcases N5 a with e|e<;>rcases N5 b with e' | e'<;>rw[e,e']at h<;>rw[e,e']<;>ext
theorem xv (ha:0<=a)(hb:0<=b):Be a b%2=(a%2+b%2)%2/\Be a b / 2=Be (a / 2) (b / 2):=by
 have h:=ZS ha hb;unfold Be;rw[FF,FF];rcases N5 a with e|e<;>rcases N5 b with e' | e'<;>rw[e,e']at h<;>rw[e,e']<;>ext
theorem aK {f:Int->Int->Int}(hf0:f 0 0=0)(h:∀a b,0<=a->0<=b->f a b / 2=f (a / 2) (b / 2)):∀w a b,0<=a->a<2^w->0<=b->b<2^w->0<=f a b/\f a b<2^w
 |0,a,b,ha,ha2,hb,hb2=>by
  have e1:a=0:=by simp at ha2;ext
  have e2:b=0:=by simp at hb2;ext
  rw[e1,e2,hf0];simp
 |w+1,a,b,ha,ha2,hb,hb2=>by
  rw[Ff]at ha2 hb2 ⊢;have:=aK hf0 h w (a / 2) (b / 2) (by ext) (by ext) (by ext) (by ext);rw[<- h a b ha hb]at this;ext
noncomputable def Lb:List Int->Int
 |[]=>0
 |m::ms=>(if m=1 then 1 else 0)+2*Lb ms
noncomputable def LJ:List Int->Int
 |[]=>0
 |m::ms=>(if m=0 then 0 else 1)+2*LJ ms
def Mk (m:Int):Prop:=m=0\/m=1\/m=2
def LA (ms:List Int):Prop:=∀m∈ms,Mk m
theorem Te:∀ms,0<=Lb ms
 |[]=>K6 _
 |m::ms=>by
  have:=Te ms;unfold Lb;split<;>ext
theorem Td:∀ms,0<=LJ ms
 |[]=>K6 _
 |m::ms=>by
  have:=Td ms;unfold LJ;split<;>ext
theorem mQ:∀ms,Lb ms<2^ms.length
 |[]=>by decide
 |m::ms=>by
  have:=mQ ms;rw[AO,Ff];unfold Lb;split<;>ext
theorem mN:∀ms,LJ ms<2^ms.length
 |[]=>by decide
 |m::ms=>by
  have:=mN ms;rw[AO,Ff];unfold LJ;split<;>ext
theorem i8 (m:Int)(ms:List Int):Lb (m::ms)=(if m=1 then 1 else 0)+2*Lb ms:=rfl
theorem ki (m:Int)(ms:List Int):LJ (m::ms)=(if m=0 then 0 else 1)+2*LJ ms:=rfl
noncomputable def andM (a b:Int):Int:=if a=0\/b=0 then 0 else if a=1/\b=1 then 1 else 2
noncomputable def orM (a b:Int):Int:=if a=1\/b=1 then 1 else if a=0/\b=0 then 0 else 2
theorem pJ {b x:Int}(h:b=0\/b=1):(b+2*x)%2=b:=by rcases h with rfl | rfl<;>ext
theorem pI {b x:Int}(h:b=0\/b=1):(b+2*x) / 2=x:=by rcases h with rfl | rfl<;>ext
theorem xJ {c:Prop}[Decidable c]:(if c then(1:Int)else 0)=0\/(if c then(1:Int)else 0)=1:=by split<;>simp
theorem xI {c:Prop}[Decidable c]:(if c then(0:Int)else 1)=0\/(if c then(0:Int)else 1)=1:=by split<;>simp
theorem pF {a b x y:Int}(ha:a=0\/a=1)(hb:b=0\/b=1)(hx:0<=x)(hy:0<=y):AD (a+2*x) (b+2*y)=a*b+2*AD x y:=by
 have h:=ZS (a:=a+2*x) (b:=b+2*y) (by rcases ha with rfl | rfl<;>ext) (by rcases hb with rfl | rfl<;>ext);rw[pJ ha,pJ hb,pI ha,pI hb]at h;ext
theorem Yj (ha:a=0\/a=1)(hb:b=0\/b=1)(hx:0<=x)(hy:0<=y):AK (a+2*x) (b+2*y)=(a+b-a*b)+2*AK x y:=by
 rw[FF,FF,pF ha hb hx hy];ext
theorem R3 {w u:Int}(hw:0<=w)(hu:0<=u):AD w (-u-1)=w-AD w u:=by
 unfold AD;rw[decide_eq_true hw,decide_eq_false (show¬ 0<=-u-1 by ext),decide_eq_true hu];show w-((w.toNat &&& (D8 (-u-1)).toNat:Nat):Int)=w-((w.toNat &&& u.toNat:Nat):Int);rw[show D8 (-u-1)=u by unfold D8;ext]
theorem ZT {a b x y:Int}(ha:a=0\/a=1)(hb:b=0\/b=1)(hx:0<=x)(hy:0<=y):AD (a+2*x) (-(b+2*y)-1)=(a-a*b)+2*AD x (-y-1):=by
 rw[R3 (by rcases ha with rfl | rfl<;>ext) (by rcases hb with rfl | rfl<;>ext),pF ha hb hx hy,R3 hx hy];ext
theorem nO (hx:0<=x)(hy:0<=y):0<=AD x y:=by
 unfold AD;rw[decide_eq_true hx,decide_eq_true hy];exact Int.ofNat_nonneg _
theorem ZN (hx:0<=x)(hy:0<=y):AD x y<=y:=by
 obtain⟨m,rfl⟩:∃m:Nat,x=(m:Int):=⟨x.toNat,by ext⟩;obtain⟨n,rfl⟩:∃n:Nat,y=(n:Int):=⟨y.toNat,by ext⟩;unfold AD;rw[decide_eq_true hx,decide_eq_true hy];show((m &&& n:Nat):Int)<=n;exact Wz.mpr Nat.and_le_right
theorem kj {x:Int}{w:Nat}(h0:0<=x)(h1:x<2^w):(-x-1)%2^w=2^w-1-x:=by
 rw[<- Int.add_emod_right (-x-1) (2^w)];rw[show -x-1+2^w=2^w-1-x by ext];exact Int.emod_eq_of_lt (by ext) (by ext)
noncomputable def bl (m:Int):Int:=if m=1 then 1 else 0
noncomputable def bh (m:Int):Int:=if m=0 then 0 else 1
theorem Qv (m):bl m=0\/bl m=1:=xJ
theorem Qw (m):bh m=0\/bh m=1:=xI
theorem Sc (m:Int)(ms:List Int):Lb (m::ms)=bl m+2*Lb ms:=rfl
theorem Sb (m:Int)(ms:List Int):LJ (m::ms)=bh m+2*LJ ms:=rfl
noncomputable def sl (x y c:Int):Int:=(bl x+bl y+bl c)%2
noncomputable def ob (a b:Int):Int:=a+b-a*b
noncomputable def b2 (m:Int):Int:=if m=2 then 1 else 0
theorem iN (hx:0<=x):∀n {y:Int},0<=y->y<2^n->AK (x*2^n) y=y+2^n*x
 |0,y,h0,h1=>by
  have:y=0:=by rw[Wy]at h1;ext
  subst this;rw[FF,Y6,Wy];ext
 |n+1,y,h0,h1=>by
  have e1:x*2^(n+1)=0+2*(x*2^n):=by rw[Ff,<- Vl];ext
  have e2:y=y%2+2*(y / 2):=by ext
  have hp:=VQ n;rw[Ff]at h1;have ih:=iN hx n (y:=y / 2) (by ext) (by ext);conv=>lhs;rw[e1,e2]
  rw[Yj (.inl rfl) (N5 y) (TK hx (by ext)) (by ext),ih,Ff,WA (2^n) 2,Vl];ext
noncomputable def Nm (ms:List Int):D:=.tup [.int ms.length,.int (Lb ms),.int (LJ ms)]
def YD (ms:List Int):Prop:=LA ms/\1<=ms.length/\ms.length<=64
theorem Yd :L5 (Nm ms) (.int 0) M Q=Q (.int ms.length) M:=rfl
theorem Ye :L5 (Nm ms) (.int 1) M Q=Q (.int (Lb ms)) M:=rfl
theorem Yg :L5 (Nm ms) (.int 2) M Q=Q (.int (LJ ms)) M:=rfl
theorem bn (x):D8 x=-x-1:=by unfold D8;ext
theorem eV (hx:0<=x):AK x 0=x:=by
 have:=iN hx 0 (y:=0) (by decide) (by decide);simpa using this
theorem Qx {x:Int}(hx:0<=x):AD x (-0-1)=x:=by
 rw[R3 hx (by decide)];have h:=ZN hx (show(0:Int)<=0 by decide);have h2:=nO hx (show(0:Int)<=0 by decide);ext
theorem Zv (p):(0:Int)<=2^p:=NN (VQ p)
theorem ZL (p):(2:Int)^(p+1)=0+2*2^p:=by rw[Ff];ext
theorem qD:∀(ms:List Int) (p:Nat),p<ms.length->Lb (ms.set p 1)=AK (Lb ms) (2^p)
 |m::ms,0,_=>by
  rw[Dd,Sc,Sc,show(2:Int)^0=1+2*0 by decide,Yj (Qv m) (.inr rfl) (Te ms) (by decide),eV (Te ms)];show(1:Int)+2*Lb ms=_;rcases Qv m with e|e<;>rw[e]<;>ext
 |m::ms,p+1,h=>by
  rw[Cy,Sc,Sc,ZL,Yj (Qv m) (.inl rfl) (Te ms) (Zv p),qD ms p (Dj h)];ext
theorem hV (hv:v≠0):∀(ms:List Int) (p:Nat),p<ms.length->LJ (ms.set p v)=AK (LJ ms) (2^p)
 |m::ms,0,_=>by
  rw[Dd,Sb,Sb,show(2:Int)^0=1+2*0 by decide,Yj (Qw m) (.inr rfl) (Td ms) (by decide),eV (Td ms),show bh v=1 from if_neg hv];rcases Qw m with e|e<;>rw[e]<;>ext
 |m::ms,p+1,h=>by
  rw[Cy,Sb,Sb,ZL,Yj (Qw m) (.inl rfl) (Td ms) (Zv p),hV hv ms p (Dj h)];ext
theorem hX (hv:v≠1):∀(ms:List Int) (p:Nat),p<ms.length->Lb (ms.set p v)=AD (Lb ms) (-(2^p)-1)
 |m::ms,0,_=>by
  rw[Dd,Sc,Sc,show(2:Int)^0=1+2*0 by decide,ZT (Qv m) (.inr rfl) (Te ms) (by decide),Qx (Te ms),show bl v=0 from if_neg hv];ext
 |m::ms,p+1,h=>by
  rw[Cy,Sc,Sc,ZL,ZT (Qv m) (.inl rfl) (Te ms) (Zv p),hX hv ms p (Dj h)];ext
theorem pS:∀(ms:List Int) (p:Nat),p<ms.length->LJ (ms.set p 0)=AD (LJ ms) (-(2^p)-1)
 |m::ms,0,_=>by
  rw[Dd,Sb,Sb,show(2:Int)^0=1+2*0 by decide,ZT (Qw m) (.inr rfl) (Td ms) (by decide),Qx (Td ms)];show(0:Int)+2*LJ ms=_;ext
 |m::ms,p+1,h=>by
  rw[Cy,Sb,Sb,ZL,ZT (Qw m) (.inl rfl) (Td ms) (Zv p),pS ms p (Dj h)];ext
theorem oH:∀n,Lb (AE n 2)=0
 |0=>rfl
 |n+1=>by rw[DQ,Sc,oH n];rfl
theorem nX:∀n,LJ (AE n 2)=2^n-1
 |0=>rfl
 |n+1=>by
  rw[DQ,Sb,nX n,Ff];show(1:Int)+_=_;ext
abbrev Sn:=Int×Int×Int
noncomputable def G5 (s:Sn):L3.D:=.tup [.int s.1,.int s.2.1,.int s.2.2]
theorem Zw :L5 (G5 s) (.int 0) M Q=Q (.int s.1) M:=rfl
theorem Zx :L5 (G5 s) (.int 1) M Q=Q (.int s.2.1) M:=rfl
theorem Zy :L5 (G5 s) (.int 2) M Q=Q (.int s.2.2) M:=rfl
noncomputable def OJ (a:Sn):Int:=Be a.2.1 a.2.2
noncomputable def Vs (w x u:Int):Sn:=(w,AD x (-u-1),AK x u)
noncomputable def N4 (s:Sn):Sn:=(s.1,(-s.2.2-1)%2^s.1.toNat,(-s.2.1-1)%2^s.1.toNat)
noncomputable def O4 (a b:Sn)(c:Int):Sn:=Vs a.1 ((a.2.1+b.2.1+c)%2^a.1.toNat) (AK (AK (OJ a) (OJ b)) (Be (Be (Be (a.2.1+b.2.1+c) a.2.1) b.2.1) (Be (Be (a.2.2+b.2.2+c) a.2.2) b.2.2))%2^a.1.toNat)
noncomputable def MQ (a b:Sn):Sn:=(1,if a.2.2<b.2.1 then 1 else 0,if a.2.1<b.2.2 then 1 else 0)
noncomputable def Jm (a b:Sn):Sn:=if AD (Be a.2.1 b.2.1) (-(AK (OJ a) (OJ b))-1)=0 then(1,if AK (OJ a) (OJ b)=0 then 1 else 0,1)else(1,0,0)
noncomputable def Jo (c a b:Sn):Sn:=if c.2.1=1 then a else if c.2.2=0 then b else(a.1,AD a.2.1 b.2.1,AK a.2.2 b.2.2)
noncomputable def MR (a b:Sn):Sn:=(a.1+b.1,AK (a.2.1*2^b.1.toNat) b.2.1,AK (a.2.2*2^b.1.toNat) b.2.2)
noncomputable def MN (s:Sn)(lo m:Int):Sn:=(m,s.2.1 / 2^lo.toNat%2^m.toNat,s.2.2 / 2^lo.toNat%2^m.toNat)
def JN (w:Int)(x:Int):Prop:=0<=x/\x<2^w.toNat
structure Rg (s:Sn):Prop where
 w:1<=s.1/\s.1<=64
 l:JN s.1 s.2.1
 h:JN s.1 s.2.2
theorem ZE {w x y:Int}(hx:JN w x)(hy:JN w y):JN w (AD x y):=aK (by decide) (λa b ha hb=>(w4 ha hb).2) w.toNat x y hx.1 hx.2 hy.1 hy.2
theorem Yb {w x y:Int}(hx:JN w x)(hy:JN w y):JN w (AK x y):=aK (by decide) (λa b ha hb=>(ub ha hb).2) w.toNat x y hx.1 hx.2 hy.1 hy.2
theorem pE {w x y:Int}(hx:JN w x)(hy:JN w y):JN w (Be x y):=aK (by decide) (λa b ha hb=>(xv ha hb).2) w.toNat x y hx.1 hx.2 hy.1 hy.2
theorem Ur (w x:Int):JN w (x%2^w.toNat):=⟨Cf _ (by have:=VQ w.toNat;ext),BV _ (VQ _)⟩
theorem mL {w x u:Int}(hw:1<=w/\w<=64)(hx:JN w x)(hu:JN w u):Rg (Vs w x u):=by
 refine⟨hw,?_,Yb hx hu⟩;have a1:=nO hx.1 hu.1;have a2:=ZE hx hu;have e:=R3 hx.1 hu.1
 have a3:AD x u<=x:=by
  have:=ZN hu.1 hx.1;rw[show AD x u=AD u x by rw[HX hx.1 hu.1,HX hu.1 hx.1,Wu]];exact this
 have:=hx.2;show JN w (AD x (-u-1));rw[e];exact⟨by ext,by ext⟩
theorem oK (h:Rg s):Rg (N4 s):=⟨h.w,Ur _ _,Ur _ _⟩
theorem mJ (h:Rg s):JN s.1 (OJ s):=pE h.l h.h
theorem oY (ha:Rg a)(c:Int):Rg (O4 a b c):=mL ha.w (Ur _ _) (Ur _ _)
theorem gE (c:Prop)[Decidable c]:JN 1 (if c then 1 else 0):=by split<;>exact⟨by decide,by decide⟩
theorem i7 (a b:Sn):Rg (MQ a b):=⟨⟨by show(1:Int)<=1;decide,by show(1:Int)<=64;decide⟩,gE _,gE _⟩
theorem ly (a b:Sn):Rg (Jm a b):=by
 unfold Jm;split
 .exact⟨⟨by show(1:Int)<=1;decide,by show(1:Int)<=64;decide⟩,gE _,⟨by show(0:Int)<=1;decide,by show(1:Int)<2^(1:Int).toNat;decide⟩⟩
 .exact⟨⟨by show(1:Int)<=1;decide,by show(1:Int)<=64;decide⟩,⟨by show(0:Int)<=0;decide,by show(0:Int)<2^(1:Int).toNat;decide⟩,⟨by show(0:Int)<=0;decide,by show(0:Int)<2^(1:Int).toNat;decide⟩⟩
theorem gS (e:a.1=b.1)(ha:Rg a)(hb:Rg b){f g:Int->Int->Int}(hf:∀{w x y:Int},JN w x->JN w y->JN w (f x y))(hg:∀{w x y:Int},JN w x->JN w y->JN w (g x y)):Rg (a.1,f a.2.1 b.2.1,g a.2.2 b.2.2):=⟨ha.w,hf ha.l (e ▸ hb.l),hg ha.h (e ▸ hb.h)⟩
theorem li (e:a.1=b.1)(ha:Rg a)(hb:Rg b):Rg (Jo c a b):=by
 unfold Jo;split
 .exact ha
 .split
  .exact hb
  .exact gS e ha hb ZE Yb
theorem pZ {v w x y:Int}(hv:1<=v)(hw:1<=w)(hx:JN v x)(hy:JN w y):JN (v+w) (AK (x*2^w.toNat) y):=by
 rw[iN hx.1 _ hy.1 hy.2];have p:=VQ w.toNat
 have e:(2:Int)^(v+w).toNat=2^w.toNat*2^v.toNat:=by rw[show(v+w).toNat=w.toNat+v.toNat by ext,Int.pow_add]
 have m0:=TK (NN p) hx.1;have m1:=Int.mul_le_mul_of_nonneg_left (show x+1<=2^v.toNat by have:=hx.2;ext) (NN p);rw[Int.mul_add,Y9]at m1;have:=hy.1;have:=hy.2;refine⟨by ext,?_⟩;rw[e];ext
theorem kx {a b:Sn}(ha:Rg a)(hb:Rg b)(h:a.1+b.1<=64):Rg (MR a b):=⟨⟨by show 1<=a.1+b.1;have:=ha.w;have:=hb.w;ext,h⟩,pZ ha.w.1 hb.w.1 ha.l hb.l,pZ ha.w.1 hb.w.1 ha.h hb.h⟩
theorem jo {lo m:Int}(h:1<=m/\m<=64):Rg (MN s lo m):=⟨h,Ur _ _,Ur _ _⟩
def GO (s:Sn):Prop:=s.2.1=s.2.2
theorem rH (h:0<=x):Be x x=0:=by
 have e:AD x x=x:=by rw[HX h h,Nat.and_self];ext
 unfold Be;rw[FF,e];ext
theorem Vw (h:Rg s)(k:GO s):OJ s=0:=by unfold OJ;rw[<- k];exact rH h.l.1
theorem mK {w x:Int}(h:0<=x):GO (Vs w x 0):=by
 show AD x (-0-1)=AK x 0;rw[Qx h,eV h]
theorem oJ (k:GO s):GO (N4 s):=by unfold GO N4 at *;rw[k]
theorem oX (ha:Rg a)(hb:Rg b)(hc:0<=c)(ka:GO a)(kb:GO b):GO (O4 a b c):=by
 unfold O4;rw[Vw ha ka,Vw hb kb,<- ka,<- kb]
 have nn:∀{x y:Int},0<=x->0<=y->0<=Be x y:=λ{x y} hx hy=>by
  unfold Be;have h1:=FF x y;have h2:=ZN hx hy;have h3:=ZN hy hx;rw[show AD y x=AD x y by rw[HX hx hy,HX hy hx,Wu]]at h3;rw[h1];ext
 have n0:0<=a.2.1+b.2.1+c:=by have:=ha.l.1;have:=hb.l.1;ext
 rw[rH (nn (nn n0 ha.l.1) hb.l.1),show AK (AK 0 0) 0%2^a.1.toNat=0 by rw[show AK (AK 0 0) 0=(0:Int) by decide,Int.zero_emod]];exact mK (Ur _ _).1
theorem i5 (ka:GO a)(kb:GO b):GO (MQ a b):=by
 show(if a.2.2<b.2.1 then(1:Int)else 0)=if a.2.1<b.2.2 then 1 else 0
 rw[ka,kb]
theorem lx (ha:Rg a)(hb:Rg b)(ka:GO a)(kb:GO b):GO (Jm a b):=by
 unfold Jm;rw[Vw ha ka,Vw hb kb,show AK 0 0=(0:Int) by decide];split
 .rfl
 .rfl
theorem lh (hc:Rg c)(h1:c.1=1)(kc:GO c)(ka:GO a)(kb:GO b):GO (Jo c a b):=by
 unfold Jo;split
 .exact ka
 .next n1=>
  rw[if_pos]
  .exact kb
  .have h:=hc.l;rw[h1]at h;have:c.2.1<2:=h.2;have:=h.1;rw[<- kc];ext
theorem ku (ka:GO a)(kb:GO b):GO (MR a b):=by unfold GO MR at *;dsimp only;rw[ka,kb]
theorem jn (k:GO s)(lo m:Int):GO (MN s lo m):=by unfold GO MN at *;dsimp only;rw[k]
noncomputable def RC (o:Fz)(a b:Sn):Sn:=match o with
 |.and=>(a.1,AD a.2.1 b.2.1,AD a.2.2 b.2.2)
 |.or=>(a.1,AK a.2.1 b.2.1,AK a.2.2 b.2.2)
 |.xor=>Vs a.1 (Be a.2.1 b.2.1) (AK (OJ a) (OJ b))
 |.plus=>O4 a b 0
 |.minus=>O4 a (N4 b) 1
 |.less=>MQ a b
 |.same=>Jm a b
 |.join=>MR a b
noncomputable def n0:Sn:=(1,0,0)
noncomputable def Tm.rv (t:Tm)(hs:List Sn):Sn:=match t with
 |.not _=>N4 (hs.headD n0)
 |.bin o _ _=>RC o (hs.headD n0) (hs.tail.headD n0)
 |.pick _ _ _=>Jo (hs.headD n0) (hs.tail.headD n0) (hs.tail.tail.headD n0)
 |.part _ lo m=>MN (hs.headD n0) lo m
 |_=>n0
structure YE where
 b:Str->Sn
 l:Str->Sn
 d:Str->Sn
noncomputable def Tm.rs (e:YE):Tm->Sn
 |.num w n=>(w,n,n)
 |.box x=>e.b x
 |.late x=>e.l x
 |.door x=>e.d x
 |.not t=>(Tm.not t).rv [t.rs e]
 |.bin o t u=>(Tm.bin o t u).rv [t.rs e,u.rs e]
 |.pick c t u=>(Tm.pick c t u).rv [c.rs e,t.rs e,u.rs e]
 |.part t lo m=>(Tm.part t lo m).rv [t.rs e]
theorem Tm.rs_kids {t:Tm}(h:t.kids≠[]):t.rs e=t.rv (t.kids.map (Tm.rs e)):=by cases t<;>first | exact absurd rfl h | rfl
theorem Oz (h:l.length=n+1):∃a r,l=a::r/\r.length=n:=by cases l with
 |nil=>cases h
 |cons a r=>exact⟨a,r,rfl,GH h⟩
theorem zJ {t:Tm}{w:Int}(ho:t.over (hs.map (·.1))=some w)(hall:∀s∈hs,Rg s):(Rg (t.rv hs)/\(t.rv hs).1=w)/\((∀s∈hs,GO s)->GO (t.rv hs)):=by
 obtain⟨hl,-⟩:=Tm.over_len ho;rw[Ae]at hl;cases t with
 |not u=>
  obtain⟨a,r,rfl,e0⟩:=Oz hl;cases AC e0;have ha:=hall a (by simp);have e:a.1=w:=by simpa[Tm.over]using ho
  exact⟨⟨oK ha,e⟩,λk=>oJ (k a (by simp))⟩
 |part u lo m=>obtain⟨a,r,rfl,e0⟩:=Oz hl;cases AC e0;have ha:=(hall a (by simp)).w;obtain⟨⟨b1,b2,b3⟩,e⟩:=Z9 ho;have b3:lo+m<=a.1:=b3;exact⟨⟨jo ⟨b2,by ext⟩,e.symm⟩,λk=>jn (k a (by simp)) _ _⟩
 |pick c u v=>
  obtain⟨c,r,rfl,e0⟩:=Oz hl;obtain⟨a,r,rfl,e1⟩:=Oz e0;obtain⟨b,r,rfl,e2⟩:=Oz e1;cases AC e2;obtain⟨q1,q2,q3⟩:=iZ ho;have q2:a.1=b.1:=q2;have q3:w=a.1:=q3;refine⟨⟨li q2 (hall a (by simp)) (hall b (by simp)),?_⟩,λk=>lh (hall c (by simp)) q1 (k c (by simp)) (k a (by simp)) (k b (by simp))⟩;show(Jo c a b).1=w;unfold Jo;split
  .exact q3.symm
  .split
   .rw[<- q2];exact q3.symm
   .exact q3.symm
 |bin o u v=>
  obtain⟨a,r,rfl,e0⟩:=Oz hl;obtain⟨b,r,rfl,e1⟩:=Oz e0;cases AC e1;have ha:=hall a (by simp);have hb:=hall b (by simp);show(Rg (RC o a b)/\(RC o a b).1=w)/\_;have kk:∀{P:Prop},(GO a->GO b->P)->(∀s∈[a,b],GO s)->P:=λf k=>f (k a (by simp)) (k b (by simp));cases o with
  |join=>obtain⟨q1,q2⟩:=iY ho;exact⟨⟨kx ha hb q1,q2.symm⟩,kk ku⟩
  |less=>obtain⟨-,q2⟩:=Yv (.inl rfl) ho;exact⟨⟨i7 a b,q2.symm⟩,kk i5⟩
  |same=>obtain⟨-,q2⟩:=Yv (.inr rfl) ho;refine⟨⟨ly a b,?_⟩,kk (lx ha hb)⟩;show(Jm a b).1=w;unfold Jm;split<;>exact q2.symm
  |and=>obtain⟨q1,q2⟩:=UH (by simp) (by simp) (by simp) ho;exact⟨⟨gS q1 ha hb ZE ZE,q2.symm⟩,kk λk1 k2=>by show AD a.2.1 b.2.1=AD a.2.2 b.2.2;rw[k1,k2]⟩
  |or=>obtain⟨q1,q2⟩:=UH (by simp) (by simp) (by simp) ho;exact⟨⟨gS q1 ha hb Yb Yb,q2.symm⟩,kk λk1 k2=>by show AK a.2.1 b.2.1=AK a.2.2 b.2.2;rw[k1,k2]⟩
  |xor=>obtain⟨q1,q2⟩:=UH (by simp) (by simp) (by simp) ho;have q1:a.1=b.1:=q1;have x:=pE ha.l (q1 ▸ hb.l);refine⟨⟨mL ha.w x (Yb (mJ ha) (q1 ▸ mJ hb)),q2.symm⟩,kk λk1 k2=>?_⟩;show GO (Vs a.1 (Be a.2.1 b.2.1) (AK (OJ a) (OJ b)));rw[Vw ha k1,Vw hb k2,show AK 0 0=(0:Int) by decide];exact mK x.1
  |plus=>obtain⟨q1,q2⟩:=UH (by simp) (by simp) (by simp) ho;exact⟨⟨oY ha 0,q2.symm⟩,kk λk1 k2=>oX ha hb (by decide) k1 k2⟩
  |minus=>obtain⟨q1,q2⟩:=UH (by simp) (by simp) (by simp) ho;exact⟨⟨oY ha 1,q2.symm⟩,kk λk1 k2=>oX ha (oK hb) (by decide) k1 (oJ k2)⟩
 |_=>cases ho
noncomputable def eW (lo hi:Int):Int:=if lo%2=hi%2 then lo%2 else 2
theorem R9 (h:M p=none):Lc (put M p o) p=M:=by
 funext b;unfold Lc put;by_cases e:b=p
 .simp[e,h]
 .simp[e]
abbrev yg:Ee:=λds M Q=>GJ ds λx=>∃s:Sn,x=G5 s/\s.1=1/\∀p,M p=none->Q (.ref p) (put M p (.lst [.int (eW s.2.1 s.2.2)]))
local macro_rules | `(tactic| simp_all_arith! [$xs,*])=>`(tactic| simp_all_arith [Uv,Tj,VF,VG,Yo,Ut,↓Yd,↓Ye,↓Yg,bn,↓Zw,↓Zx,↓Zy,$xs,*])
theorem zb:Od T T.x20 2 yg:=by
 refine CM.p1 T.x20.d.F ["span", "lows", "highs"] λx M Q hr nN h=>?_;obtain⟨s,rfl,hs,q⟩:=h;refine⟨_,(qC (CA 1 nN (L6 (As T.x5.d (tV T) nofun (qA (Bc BA (qv 0) Ai) (qA (Bc BA (qv 0) Ai) qN))))) (qC (CA 2 nN (L6 (As T.x5.d (tV T) nofun (qA (Bc BA (qv 0) Ai) (qA (Bc BA (qv 0) Ai) qN))))) (qO (Cw (T9 (ns:=["high"]) (caps:=[]) ⟨⟨rfl,by rfl,by rfl,by rfl,rfl,by rfl,by nofun⟩,by rfl,by nofun⟩ rfl (gx T.B.zip (qA (qv 1) (qA (qv 2) qN))) (λ_ _ _ _ _ _=>(JI (AV Cm (qv 0) (qv 1)) (qv 0) Ai)) (λ_ _ _ _ _ _=>(Ko (JM (show(["low", "high"]:List Str).Nodup by nofun) rfl (BH rfl)) (Ko (JM (show(["low", "high"]:List Str).Nodup by nofun) rfl (BH rfl)) Rb)))))))),?_⟩;right;rw[hs];refine⟨by decide,λp hp=>?_⟩;rw[DN];dsimp only;rw[R9 hp];refine⟨by decide,λp' hp'=>?_⟩;rw[DN];dsimp only;rw[R9 hp'];refine Kc.ints (λx y=>if x=y then x else 2) (HD (by rw[sH];decide)) trivial (λx y hxy R r=>?_) ?_
 .simp only[capT,AM,CY,D5,GQ];grind;split at r
  .next h=>rw[if_pos h];exact r
  .next h=>rw[if_neg h];exact r
 .intro p2 hp2;have e2:∀x,HG (1:Int).toNat x=[x%2]:=λx=>by rw[show(1:Int).toNat=0+1 from rfl,xb];rfl
  rw[e2,e2];exact Dn.of (q p2 hp2)
abbrev Zdm:Ee:=λds M Q=>GJ ds λx=>EH x λn=>(1<=n/\n<=64)/\Q (Nm (AE n.toNat 2)) M
theorem Zdy:Od T T.x21 2 Zdm:=by
 refine CM.p1 T.x21.d.F ["width"] λx M Q hr nN h1=>?_;obtain⟨n,e1',⟨n1,n64⟩,q⟩:_:=CG h1;refine⟨_,(qO (Cw (BR (qA (qv 0) (qA Ai (qA (As T.x4.d (Uz T) nofun (qA (qv 0) (qA (Q0 ZB Ai) qN))) qN)))))),?_⟩;unfold Nm at q;rw[oH,nX,Ca,show((n.toNat:Nat):Int)=n by ext]at q;right;refine⟨⟨by ext,by ext⟩,?_⟩;have e:=kj (x:=0) (w:=n.toNat) (by decide) (VQ _);rw[show(-1:Int)=-0-1 by decide,e,Int.sub_zero];exact Dn.of q
abbrev ZfV:Ee:=λds M Q=>Kw ds λx y z=>∃(ms:List Int) (p:Nat) (m:Int),x=Nm ms/\y=.int p/\z=.int m/\YD ms/\p<ms.length/\Mk m/\Q (Nm (ms.set p m)) M
theorem z5:Od T T.x22 1 ZfV:=by
 refine CM.p3 T.x22.d.F ["span", "place", "mark", "bit", "low", "high"] λx y z M Q hr nN h=>?_;obtain⟨ms,p,m,e1',e2',e3',hs,hp,hm,q⟩:_:=h;refine⟨_,(qC (CA 3 nN (BE Vv Ai (qv 1))) (qC (CA 4 nN (JI (AV Cm (qv 2) Ai) (BE Kl (Bc BA (qv 0) Ai) (qv 3)) (BE Tf (Bc BA (qv 0) Ai) (Q0 VA (qv 3))))) (qC (CA 5 nN (JI (AV Cm (qv 2) Ai) (BE Tf (Bc BA (qv 0) Ai) (Q0 VA (qv 3))) (BE Kl (Bc BA (qv 0) Ai) (qv 3)))) (qO (Cw (BR (qA (Bc BA (qv 0) Ai) (qA (qv 4) (qA (qv 5) qN))))))))),?_⟩;unfold Nm at q;rw[List.length_set]at q;have p64:p<64:=by have:=hs.2.2;ext
 have cp:Sk 1 (p:Int):=⟨by ext,by ext,by decide⟩;rcases hm with rfl|rfl|rfl<;>(simp only[Kj,Kh,Ki];simp -implicitDefEqProofs only[↓mZ,↓XA,↓XB,↓lB,↓Xs,↓Xx,↓Xz,↓XC,↓oT,↓Xr,↓nF,↓gC,Wx,decide_false,FQ,↓reduceIte,↓Xu,↓Ye,↓Xv,↓Xq,↓Xw,↓mY,↓Xy,decide_true,↓Yg,↓mX,↓nA,↓oS,↓Yd,↓Xp,↓Xo,↓mT,bn,AO,FD,ES,MH,Rr,kX,true_and];rw[Vb,BN])
 .rw[hX (by decide) ms p hp,pS ms p hp]at q;exact⟨cp,Dn.of q⟩
 .rw[qD ms p hp,hV (by decide) ms p hp]at q;exact⟨cp,Dn.of q⟩
 .rw[hX (by decide) ms p hp,hV (by decide) ms p hp]at q;exact⟨cp,Dn.of q⟩
abbrev su:Ee:=λds M Q=>GJ ds λx=>∃s,x=G5 s/\Q (.int (OJ s)) M
theorem VP:Od T T.x26 1 su:=by
 refine CM.p1 T.x26.d.F ["span"] λx M Q hr nN h=>?_;obtain⟨s,rfl,q⟩:=h;refine⟨_,(qO (Cw (BE Tb (Bc BA (qv 0) Ai) (Bc BA (qv 0) Ai)))),?_⟩;right;exact Dn.of q
abbrev ZfZ:Ee:=λds M Q=>Fq ds λx y=>∃a b,x=G5 a/\y=G5 b/\Q (G5 (Jm a b)) M
theorem zw:Od T T.x31 2 ZfZ:=by
 refine CM.p2 T.x31.d.F ["one", "other", "unknown"] λx y M Q hr nN h=>?_;obtain⟨a,b,e1',e2',q⟩:_:=h;refine⟨_,(qC (CA 2 nN (BE Kl (As T.x26.d (VP T) nofun (qA (qv 0) qN)) (As T.x26.d (VP T) nofun (qA (qv 1) qN)))) (qC (DD (AV XQ (BE Tf (BE Tb (Bc BA (qv 0) Ai) (Bc BA (qv 1) Ai)) (Q0 VA (qv 2))) Ai) (qO (Cw (BR (gA (.int (.int (.int .nil))))))) qE) (qO (Cw (BR (qA Ai (qA (JI (AV Cm (qv 2) Ai) Ai Ai) (qA Ai qN)))))))),?_⟩;right;refine⟨a,rfl,b,rfl,?_⟩
 (try grind)
 unfold Jm at q;refine Cv (λc=>?_) λc=>?_
 .rw[if_neg c]at q;exact Dn.of q
 .rw[if_pos (Decidable.not_not.mp c)]at q;refine Cv (λd=>?_) λd=>?_
  .rw[if_pos d]at q;exact Dn.of q
  .rw[if_neg d]at q;exact Dn.of q
abbrev xj:Ee:=λds M Q=>Kw ds λx y z=>∃i a b:Int,x=.int i/\y=.int a/\z=.int b/\Q (G5 (Vs i a b)) M
theorem tW:Od T T.x27 1 xj:=by
 refine CM.p3 T.x27.d.F ["width", "word", "unknown"] λx y z M Q hr nN h=>?_;obtain⟨i,a,b,e1',e2',e3',q⟩:_:=h;refine⟨_,(qO (Cw (BR (qA (qv 0) (qA (BE Tf (qv 1) (Q0 VA (qv 2))) (qA (BE Kl (qv 1) (qv 2)) qN)))))),?_⟩;right;exact Dn.of q
abbrev yj:Ee:=λds M Q=>Kw ds λx y z=>∃(a b:Sn) (c:Int),x=G5 a/\y=G5 b/\z=.int c/\(1<=a.1/\a.1<=64)/\Q (G5 (O4 a b c)) M
theorem uP:Od T T.x29 2 yj:=by
 refine CM.p3 T.x29.d.F ["one", "other", "carry", "low", "high", "low_carries", "high_carries", "unknown"] λx y z M Q hr nN h=>?_;obtain⟨a,b,c,e1',e2',e3',hw,q⟩:_:=h;refine⟨_,(qC (CA 3 nN (BE GN (BE GN (Bc BA (qv 0) Ai) (Bc BA (qv 1) Ai)) (qv 2))) (qC (CA 4 nN (BE GN (BE GN (Bc BA (qv 0) Ai) (Bc BA (qv 1) Ai)) (qv 2))) (qC (CA 5 nN (BE Tb (BE Tb (qv 3) (Bc BA (qv 0) Ai)) (Bc BA (qv 1) Ai))) (qC (CA 6 nN (BE Tb (BE Tb (qv 4) (Bc BA (qv 0) Ai)) (Bc BA (qv 1) Ai))) (qC (CA 7 nN (BE Kl (BE Kl (As T.x26.d (VP T) nofun (qA (qv 0) qN)) (As T.x26.d (VP T) nofun (qA (qv 1) qN))) (BE Tb (qv 5) (qv 6)))) (qO (Cw (As T.x27.d (tW T) nofun (qA (Bc BA (qv 0) Ai) (qA (As T.x4.d (Uz T) nofun (qA (Bc BA (qv 0) Ai) (qA (qv 3) qN))) (qA (As T.x4.d (Uz T) nofun (qA (Bc BA (qv 0) Ai) (qA (qv 7) qN))) qN))))))))))),?_⟩;right;refine⟨a,rfl,b,rfl,?_⟩
 (try grind)
 exact⟨⟨by ext,by ext⟩,⟨by ext,by ext⟩,_,_,_,rfl,rfl,rfl,Dn.of q⟩
abbrev ω:Ee:=λds M Q=>Fq ds λx y=>∃a b,x=G5 a/\y=G5 b/\Q (G5 (MQ a b)) M
theorem zr:Od T T.x30 1 ω:=by
 refine CM.p2 T.x30.d.F ["one", "other"] λx y M Q hr nN h=>?_;obtain⟨a,b,e1',e2',q⟩:_:=h;refine⟨_,(qO (Cw (BR (qA Ai (qA (JI (AV Lx (Bc BA (qv 0) Ai) (Bc BA (qv 1) Ai)) Ai Ai) (qA (JI (AV Lx (Bc BA (qv 0) Ai) (Bc BA (qv 1) Ai)) Ai Ai) qN)))))),?_⟩;right;unfold MQ G5 at q;by_cases c1:a.2.2<b.2.1<;>by_cases c2:a.2.1<b.2.2<;>simp only[c1,c2,if_true,if_false]at q ⊢<;>exact Dn.of q
abbrev yi:Ee:=λds M Q=>GJ ds λx=>∃s:Sn,x=G5 s/\(1<=s.1/\s.1<=64)/\Q (G5 (N4 s)) M
theorem vD:Od T T.x28 2 yi:=by
 refine CM.p1 T.x28.d.F ["span"] λx M Q hr nN h=>?_;obtain⟨s,rfl,hw,q⟩:=h;refine⟨_,(qO (Cw (BR (qA (Bc BA (qv 0) Ai) (qA (As T.x4.d (Uz T) nofun (qA (Bc BA (qv 0) Ai) (qA (Q0 VA (Bc BA (qv 0) Ai)) qN))) (qA (As T.x4.d (Uz T) nofun (qA (Bc BA (qv 0) Ai) (qA (Q0 VA (Bc BA (qv 0) Ai)) qN))) qN)))))),?_⟩;right;exact⟨⟨by ext,by ext⟩,⟨by ext,by ext⟩,Dn.of q⟩
abbrev Zea:Ee:=λds M Q=>Kw ds λx y z=>∃(o:Fz) (a b:Sn),x=.str o.nm/\y=G5 a/\z=G5 b/\(1<=a.1/\a.1<=64)/\(1<=b.1/\b.1<=64)/\o≠.join/\Q (G5 (RC o a b)) M
theorem Zei:Od T T.x25 3 Zea:=by
 refine CM.p3 T.x25.d.F ["form", "one", "other"] λx y z M Q hr nN h=>?_;obtain⟨o,a,b,e1',e2',e3',ha,hb,hj,q⟩:_:=h;refine⟨_,(qC (DD (AV Cm (qv 0) Bn) (qO (Cw (BR (qA (Bc BA (qv 1) Ai) (qA (BE Tf (Bc BA (qv 1) Ai) (Bc BA (qv 2) Ai)) (qA (BE Tf (Bc BA (qv 1) Ai) (Bc BA (qv 2) Ai)) qN)))))) qE) (qC (DD (AV Cm (qv 0) Bn) (qO (Cw (BR (qA (Bc BA (qv 1) Ai) (qA (BE Kl (Bc BA (qv 1) Ai) (Bc BA (qv 2) Ai)) (qA (BE Kl (Bc BA (qv 1) Ai) (Bc BA (qv 2) Ai)) qN)))))) qE) (qC (DD (AV Cm (qv 0) Bn) (qO (Cw (As T.x27.d (tW T) nofun (qA (Bc BA (qv 1) Ai) (qA (BE Tb (Bc BA (qv 1) Ai) (Bc BA (qv 2) Ai)) (qA (BE Kl (As T.x26.d (VP T) nofun (qA (qv 1) qN)) (As T.x26.d (VP T) nofun (qA (qv 2) qN))) qN)))))) qE) (qC (DD (AV Cm (qv 0) Bn) (qO (Cw (As T.x29.d (uP T) nofun (qA (qv 1) (qA (qv 2) (qA Ai qN)))))) qE) (qC (DD (AV Cm (qv 0) Bn) (qO (Cw (As T.x29.d (uP T) nofun (qA (qv 1) (qA (As T.x28.d (vD T) nofun (qA (qv 2) qN)) (qA Ai qN)))))) qE) (qC (DD (AV Cm (qv 0) Bn) (qO (Cw (As T.x30.d (zr T) nofun (qA (qv 1) (qA (qv 2) qN))))) qE) (qO (Cw (As T.x31.d (zw T) nofun (qA (qv 1) (qA (qv 2) qN))))))))))),?_⟩;cases o<;>simp only[Fz.nm]
 case and=>
  right;exact Dn.of q
 case or=>
  right;exact Dn.of q
 case xor=>
  right;rw[if_neg (by nofun),if_neg (by nofun)];exact⟨a,rfl,b,rfl,_,_,_,rfl,rfl,rfl,Dn.of q⟩
 case plus=>
  right;exact⟨a,b,0,rfl,rfl,rfl,ha,Dn.of q⟩
 case minus=>
  right;exact⟨b,rfl,hb,a,N4 b,1,rfl,rfl,rfl,ha,Dn.of q⟩
 case less=>
  right;exact⟨a,b,rfl,rfl,Dn.of q⟩
 case same=>
  right;exact⟨a,b,rfl,rfl,Dn.of q⟩
 case join=>exact absurd rfl hj
abbrev Α:Ee:=λds M Q=>Kw ds λx y z=>∃(s:Sn) (lo m:Int),x=G5 s/\y=.int lo/\z=.int m/\(0<=lo/\1<=m/\m<=64)/\Q (G5 (MN s lo m)) M
theorem zt:Od T T.x34 2 Α:=by
 refine CM.p3 T.x34.d.F ["span", "low", "many"] λx y z M Q hr nN h=>?_;obtain⟨ms,lo,m,e1',e2',e3',⟨h0,h1,h2⟩,q⟩:_:=h;refine⟨_,(qO (Cw (BR (qA (qv 2) (qA (As T.x4.d (Uz T) nofun (qA (qv 2) (qA (BE fU (Bc BA (qv 0) Ai) (qv 1)) qN))) (qA (As T.x4.d (Uz T) nofun (qA (qv 2) (qA (BE fU (Bc BA (qv 0) Ai) (qv 1)) qN))) qN)))))),?_⟩;right;exact⟨h0,⟨by ext,by ext⟩,h0,⟨by ext,by ext⟩,Dn.of q⟩
abbrev Β:Ee:=λds M Q=>Kw ds λx y z=>∃c a b,x=G5 c/\y=G5 a/\z=G5 b/\Q (G5 (Jo c a b)) M
theorem zu:Od T T.x32 1 Β:=by
 refine CM.p3 T.x32.d.F ["chosen", "one", "other"] λx y z M Q hr nN h=>?_;obtain⟨c,a,b,e1',e2',e3',q⟩:_:=h;refine⟨_,(qC (DD (AV Cm (Bc BA (qv 0) Ai) Ai) (qO (Cw (qv 1))) qE) (qC (DD (AV Cm (Bc BA (qv 0) Ai) Ai) (qO (Cw (qv 2))) qE) (qO (Cw (BR (qA (Bc BA (qv 1) Ai) (qA (BE Tf (Bc BA (qv 1) Ai) (Bc BA (qv 2) Ai)) (qA (BE Kl (Bc BA (qv 1) Ai) (Bc BA (qv 2) Ai)) qN)))))))),?_⟩;right;unfold Jo at q;refine Cv (λd=>?_) λd=>Cv (λd2=>?_) λd2=>?_
 .rw[if_pos d]at q;exact Dn.of q
 .rw[if_neg d,if_pos d2]at q;exact Dn.of q
 .rw[if_neg d,if_neg d2]at q;exact Dn.of q
abbrev ψ:Ee:=λds M Q=>Fq ds λx y=>∃a b,x=G5 a/\y=G5 b/\Rg a/\Rg b/\Q (G5 (MR a b)) M
theorem zq:Od T T.x33 1 ψ:=by
 refine CM.p2 T.x33.d.F ["one", "other"] λx y M Q hr nN h=>?_;obtain⟨a,b,e1',e2',ha,hb,q⟩:_:=h;refine⟨_,(qO (Cw (BR (qA (BE GN (Bc BA (qv 0) Ai) (Bc BA (qv 1) Ai)) (qA (BE Kl (BE Vv (Bc BA (qv 0) Ai) (Bc BA (qv 1) Ai)) (Bc BA (qv 1) Ai)) (qA (BE Kl (BE Vv (Bc BA (qv 0) Ai) (Bc BA (qv 1) Ai)) (Bc BA (qv 1) Ai)) qN)))))),?_⟩;right;have wb:=hb.w
 have c1:∀{x:Int},JN a.1 x->Sk x b.1:=λ{x} h=>by
  have h2:(2:Int)^a.1.toNat<=2^64:=lv (by have:=ha.w;ext);have h3:=Int.lt_of_lt_of_le h.2 h2;have:=h.1;exact⟨by ext,by ext,by ext⟩
 exact⟨c1 ha.l,c1 ha.h,Dn.of q⟩
abbrev ZfY:Ee:=λds M Q=>Fq ds λx y=>∃(t:Tm) (hs:List Sn) (w:Int),x=t.D/\y=.lst (hs.map G5)/\t.over (hs.map (·.1))=some w/\(∀h∈hs,Rg h)/\Q (G5 (t.rv hs)) M
theorem zy:Od T T.x24 4 ZfY:=by
 refine CM.p2 T.x24.d.F ["term", "held", "form"] λx y M Q hr nN h=>?_;obtain⟨t,hs,wd,e1',e2',ho,hall,q⟩:_:=h;refine⟨_,(qC (CA 2 nN (Bc BA (qv 0) Ai)) (qC (DD (AV Cm (qv 2) Bn) (qO (Cw (As T.x28.d (vD T) nofun (qA (Bc E1 (qv 1) Ai) qN)))) qE) (qC (DD (AV Cm (qv 2) Bn) (qO (Cw (As T.x34.d (zt T) nofun (qA (Bc E1 (qv 1) Ai) (qA (Bc BA (qv 0) Ai) (qA (Bc BA (qv 0) Ai) qN)))))) qE) (qC (DD (AV Cm (qv 2) Bn) (qO (Cw (As T.x32.d (zu T) nofun (qA (Bc E1 (qv 1) Ai) (qA (Bc E1 (qv 1) Ai) (qA (Bc E1 (qv 1) Ai) qN)))))) qE) (qC (DD (AV Cm (qv 2) Bn) (qO (Cw (As T.x33.d (zq T) nofun (qA (Bc E1 (qv 1) Ai) (qA (Bc E1 (qv 1) Ai) qN))))) qE) (qO (Cw (As T.x25.d (Zei T) nofun (qA (qv 2) (qA (Bc E1 (qv 1) Ai) (qA (Bc E1 (qv 1) Ai) qN))))))))))),?_⟩;obtain⟨hz,hne⟩:=Tm.over_len ho;rw[Ae]at hz;cases t with
 |num _ _=>exact absurd rfl hne
 |box _=>exact absurd rfl hne
 |late _=>exact absurd rfl hne
 |door _=>exact absurd rfl hne
 |not t=>obtain⟨a,r,rfl,e0⟩:=Oz hz;cases AC e0;simp only[Tm.D,AM,CY];right;exact⟨a,rfl,(hall a (by simp)).w,Dn.of q⟩
 |part t lo many=>obtain⟨a,r,rfl,e0⟩:=Oz hz;cases AC e0;obtain⟨⟨b1,b2,b3⟩,_⟩:=Z9 ho;have b3:lo+many<=a.1:=b3;have h64:=(hall a (by simp)).w;simp only[Tm.D,AM,CY];right;exact⟨a,lo,many,rfl,rfl,rfl,⟨b1,b2,by ext⟩,Dn.of q⟩
 |pick c t u=>obtain⟨c,r,rfl,e0⟩:=Oz hz;obtain⟨a,r,rfl,e1⟩:=Oz e0;obtain⟨b,r,rfl,e2⟩:=Oz e1;cases AC e2;simp only[Tm.D,AM,CY];right;exact⟨c,a,b,rfl,rfl,rfl,Dn.of q⟩
 |bin o t u=>
  obtain⟨a,r,rfl,e0⟩:=Oz hz;obtain⟨b,r,rfl,e1⟩:=Oz e0;cases AC e1;have hA:=hall a (by simp);have hB:=hall b (by simp);simp only[Tm.D,AM,CY];right;have hn:=Fz.nm_ne (o:=o)
  (try rw[if_neg hn.2.2.2.2.1])
  (try rw[if_neg hn.2.2.2.2.2.2])
  (try rw[if_neg hn.2.2.2.2.2.1])
  by_cases hj:o=.join
  .subst hj;rw[if_pos (show Fz.join.nm=Ak "join" from rfl)];exact⟨a,b,rfl,rfl,hA,hB,Dn.of q⟩
  .rw[if_neg (show¬o.nm=Ak "join" from λe=>hj (Fz.nm_inj e))];exact⟨o,a,b,rfl,rfl,rfl,hA.w,hB.w,hj,Dn.of q⟩
theorem Tm.kid_leaf {t k l:Tm}(hk:k∈t.kids)(h:l∈k.leaves):l∈t.leaves:=by
 cases t<;>simp[Tm.kids,Tm.leaves]at hk ⊢
 .subst hk;exact h
 .rcases hk with rfl|rfl
  .exact .inl h
  .exact .inr h
 .rcases hk with rfl|rfl|rfl
  .exact .inl h
  .exact .inr (.inl h)
  .exact .inr (.inr h)
 .subst hk;exact h
structure DT (k0 k1 k2:List (Cd×D))(bs es:List (Str×Int))(e:YE)(t:Tm):Prop where
 b:∀x,Tm.box x∈t.leaves->∃w,bs.lookup x=some w/\(Rg (e.b x)/\(e.b x).1=w)/\DL k0 (.inr x)=some (G5 (e.b x))
 l:∀x,Tm.late x∈t.leaves->∃w,bs.lookup x=some w/\(Rg (e.l x)/\(e.l x).1=w)/\DL k1 (.inr x)=some (G5 (e.l x))
 d:∀x,Tm.door x∈t.leaves->∃w,es.lookup x=some w/\(Rg (e.d x)/\(e.d x).1=w)/\DL k2 (.inr x)=some (G5 (e.d x))
theorem DT.kid {k0 k1 k2:List (Cd×D)}{bs es:List (Str×Int)}{e:YE}{t k:Tm}(h:DT k0 k1 k2 bs es e t)(hk:k∈t.kids):DT k0 k1 k2 bs es e k:=⟨λx m=>h.b x (Tm.kid_leaf hk m),λx m=>h.l x (Tm.kid_leaf hk m),λx m=>h.d x (Tm.kid_leaf hk m)⟩
theorem tH {ks:List Tm}{ws:List Int}(hl:ws.length=ks.length)(h:∀(i:Nat) (k:Tm) (a:Int),ks[i]? = some k->ws[i]? = some a->(k.rs e).1=a):(ks.map (Tm.rs e)).map (·.1)=ws:=by
 apply Fj;intro i;rw[AL,AL];cases q:ks[i]? with
 |none=>have:=Er.mp q;rw[Er.mpr (by ext)];rfl
 |some k=>have hi:=(Au.mp q).1;have e1:=Ag (by omega:i<ws.length);rw[e1];simp only[Jz];rw[h i k _ q e1]
theorem fZ {k0 k1 k2:List (Cd×D)}{bs es:List (Str×Int)}{e:YE}{t:Tm}{w:Int}(hw:Wd bs es t w):DT k0 k1 k2 bs es e t->(Rg (t.rs e)/\(t.rs e).1=w)/\((∀x,GO (e.b x)/\GO (e.l x)/\GO (e.d x))->GO (t.rs e)):=by
 induction hw with
 |num c=>exact λ_=>⟨⟨⟨⟨c.1,c.2.1⟩,c.2.2,c.2.2⟩,rfl⟩,λ_=>rfl⟩
 | @box x w c=>intro h;obtain⟨w',a1,a2,_⟩:=h.b x (AN.mpr rfl);rw[c]at a1;cases a1;exact⟨a2,λk=>(k x).1⟩
 | @late x w c=>intro h;obtain⟨w',a1,a2,_⟩:=h.l x (AN.mpr rfl);rw[c]at a1;cases a1;exact⟨a2,λk=>(k x).2.1⟩
 | @door x w c=>intro h;obtain⟨w',a1,a2,_⟩:=h.d x (AN.mpr rfl);rw[c]at a1;cases a1;exact⟨a2,λk=>(k x).2.2⟩
 | @over t ws w kid ho ih=>
  intro h;obtain⟨hl,hne⟩:=Tm.over_len ho;have e1:=tH hl λi k a h1 h2=>(ih i k a h1 h2 (h.kid (AG h1))).1.2
  have hm:∀s∈t.kids.map (Tm.rs e),Rg s/\((∀x,GO (e.b x)/\GO (e.l x)/\GO (e.d x))->GO s):=λs hs=>by
   obtain⟨k,hk,rfl⟩:=AB.mp hs;obtain⟨i,hi⟩:=E7.mp hk;have hi':=(Au.mp hi).1;have z:=ih i k _ hi (Ag (by omega:i<ws.length)) (h.kid hk);exact⟨z.1.1,z.2⟩
  rw[Tm.rs_kids hne];obtain⟨r1,r2⟩:=zJ (by rw[e1];exact ho) λs hs=>(hm s hs).1;exact⟨r1,λk=>r2 λs hs=>(hm s hs).2 k⟩
abbrev aI (n:Nat)(ds:List D)(M:Mp)(Q:Eb):Prop:=Fq ds λx y=>CH (Ig x) λt=>∃d0 d1 d2 k0 k1 k2 bs es e,y=.tup [d0,d1,d2]/\(Eu M d0=some k0/\Eu M d1=some k1/\Eu M d2=some k2)/\t.deep<=n/\(∃w,Wd bs es t w)/\DT k0 k1 k2 bs es e t/\Q (G5 (t.rs e)) M
theorem ZdA {n:Nat}(G_span_of:Od T T.x23 (n+5) (aI n)):Od T T.x23 (n+6) (aI (n+1)):=by
 refine CM.p2 T.x23.d.F ["term", "spans", "form"] λx y M Q hr nN h1=>?_;obtain⟨t,e1',d0,d1,d2,k0,k1,k2,bs,es,e,e2',⟨c0,c1,c2⟩,hn,⟨wd,hw⟩,dt,q⟩:_:=MV h1;refine⟨_,(qC (CA 2 nN (Bc BA (qv 0) Ai)) (qC (DD (AV Cm (qv 2) Bn) (qO (Cw (BR (qA (Bc BA (qv 0) Ai) (qA (Bc BA (qv 0) Ai) (qA (Bc BA (qv 0) Ai) qN)))))) qE) (qC (DD (AV Cm (qv 2) Bn) (qO (Cw (Gz (Ly hr) (Bc BA (qv 1) Ai) (Bc BA (qv 0) Ai) (λ_ _=>rfl)))) qE) (qC (DD (AV Cm (qv 2) Bn) (qO (Cw (Gz (Ly hr) (Bc BA (qv 1) Ai) (Bc BA (qv 0) Ai) (λ_ _=>rfl)))) qE) (qC (DD (AV Cm (qv 2) Bn) (qO (Cw (Gz (Ly hr) (Bc BA (qv 1) Ai) (Bc BA (qv 0) Ai) (λ_ _=>rfl)))) qE) (qO (Cw (As T.x24.d (zy T) nofun (qA (qv 0) (qA (GV (caps:=[("spans",1)]) ⟨rfl,by rfl,by rfl,by rfl,rfl,by rfl,by nofun⟩ rfl (QD (As T.x6.d (aT T) nofun (qA (qv 0) qN))) (λ_ _ _ _ _ _=>(As T.x23.d G_span_of nofun (qA (qv 0) (qA (qv 1) qN))))) qN)))))))))),?_⟩;by_cases hk:t.kids=[]
 .cases hw with
  |num c=>simp only[Tm.D];right;exact Dn.of q
  | @box x _ c=>obtain⟨w',a1,a2,a5⟩:=dt.b x (AN.mpr rfl);simp only[Tm.D];right;rw[c0,Cn,a5];exact Dn.of q
  | @late x _ c=>obtain⟨w',a1,a2,a5⟩:=dt.l x (AN.mpr rfl);simp only[Tm.D];right;rw[c1,Cn,a5];exact Dn.of q
  | @door x _ c=>obtain⟨w',a1,a2,a5⟩:=dt.d x (AN.mpr rfl);simp only[Tm.D];right;rw[c2,Cn,a5];exact Dn.of q
  |over _ ho=>exact absurd hk (Tm.over_len ho).2
 .cases hw with
  |num c=>exact absurd rfl hk
  |box c=>exact absurd rfl hk
  |late c=>exact absurd rfl hk
  |door c=>exact absurd rfl hk
  | @over _ ws _ kid ho=>
   obtain⟨n1,n2,n3,n4⟩:=Tm.form_ne hk;have n1':=eq_false n1;have n2':=eq_false n2;have n3':=eq_false n3;have n4':=eq_false n4;have hk3:=Tm.kids_le t;obtain⟨hl,hne⟩:=Tm.over_len ho;have kd:∀i (k:Tm) (a:Int),t.kids[i]? = some k->ws[i]? = some a->Rg (k.rs e)/\(k.rs e).1=a:=λi k a h1 h2=>(fZ (kid i k a h1 h2) (dt.kid (AG h1))).1;have e1:=tH (e:=e) hl λi k a h1 h2=>(kd i k a h1 h2).2
   have kw:∀k∈t.kids,Rg (k.rs e)/\∃w,Wd bs es k w:=λk hkm=>by
    obtain⟨i,hi⟩:=E7.mp hkm;have hi':=(Au.mp hi).1;have e2:=Ag (by omega:i<ws.length);exact⟨(kd i k _ hi e2).1,_,kid i k _ hi e2⟩
   rw[Tm.rs_kids hne]at q;right;simp only[Ut,n1',n2',n3',n4'];grind;refine F4.of (f:=λk=>G5 (k.rs e)) (HD (by ext)) trivial (λk hkm R r=>?_) ?_
   .have dk:=Tm.deep_kid hkm;walk_at "cap";exact⟨d0,d1,d2,k0,k1,k2,bs,es,e,rfl,⟨c0,c1,c2⟩,by ext,(kw k hkm).2,dt.kid hkm,r⟩
   (try grind)
   refine⟨t,t.kids.map (Tm.rs e),wd,rfl,by rw[CP];rfl,by rw[e1];exact ho,λm hm=>?_,Dn.of q⟩;obtain⟨k,hkm,rfl⟩:=AB.mp hm;exact(kw k hkm).1
theorem tY (T:Tv P w K mg base):∀n,Od T T.x23 (n+5) (aI n)
 |0=>by
  have no:∀ds M Q,¬aI 0 ds M Q:=λds M Q h=>by
   obtain⟨x,y,rfl,h1⟩:=L9 h;obtain⟨t,e1',d0,d1,d2,k0,k1,k2,bs,es,e,e2',_,hn,_⟩:_:=MV h1;have:=t.deep_pos;ext
  exact UG no
 |n+1=>ZdA T (tY T n)
theorem Zz {M:Mp}{x:D}{xs:List D}(h:Bo M x=some xs):IJ M x=some xs:=by
 cases x with
 |tup _=>cases h
 |_=>exact h
abbrev Zf6:Ee:=λds M Q=>Kw ds λx y _=>CH (Bo M x) λxs=>EH y λn=>(xs.length:Int)<=n/\Q .non M
theorem aS:Od T T.x36 1 Zf6:=by
 refine CM.p3 T.x36.d.F ["things", "most", "called"] λx y z M Q hr nN h1=>?_;obtain⟨xs,hl,h2⟩:=Cr h1;obtain⟨n,rfl,hn,q⟩:=CG h2;refine⟨_,(qO (DD (AV JK (BW Kb T.B.len BP (qA (qv 0) qN)) (qv 1)) (qO PH) qE)),?_⟩;right;rw[Zz hl,Cn];exact Cv (λc=>absurd c (by ext)) λ_=>Dn.of q
noncomputable def Gg (ts:List Str):List (Cd×D):=ts.map λz=>(.inr z,.bl true)
noncomputable def MK:List (Cd×D)->Option (List Str)
 |[]=>some []
 |(.inr z,.bl true)::r=>(MK r).map (z::·)
 |_::_=>none
theorem gR:∀ts,MK (Gg ts)=some ts
 |[]=>rfl
 |z::r=>by
  show(MK (Gg r)).map (z::·)=_;rw[gR r];rfl
theorem iC:∀{AQ:List (Cd×D)}{ts:List Str},MK AQ=some ts->AQ=Gg ts
 |[],ts,h=>by cases h;rfl
 |(.inr z,.bl true)::r,ts,h=>by
  change(MK r).map (z::·)=_ at h;cases e:MK r with
  |none=>rw[e]at h;cases h
  |some us=>rw[e]at h;cases h;rw[iC e];rfl
 |(.inl z,_)::r,ts,h=>by cases h
 |(.inr z,.bl false)::r,ts,h=>by cases h
 |(.inr z,.str _)::r,ts,h=>by cases h
 |(.inr z,.int _)::r,ts,h=>by cases h
 |(.inr z,.non)::r,ts,h=>by cases h
 |(.inr z,.tup _)::r,ts,h=>by cases h
 |(.inr z,.lst _)::r,ts,h=>by cases h
 |(.inr z,.dic _)::r,ts,h=>by cases h
 |(.inr z,.ref _)::r,ts,h=>by cases h
theorem oZ (z:Str):∀ts,((Gg ts).any λkv=>decide (kv.1=.inr z))=decide (z∈ts)
 |[]=>rfl
 |y::r=>by
  show(decide ((F0 y:Cd)=.inr z) || (Gg r).any λkv=>decide (kv.1=.inr z))=_;rw[oZ z r];by_cases e:y=z
  .subst e;simp
  .have e':¬z=y:=λq=>e q.symm;simp[e,e']
theorem pB (z:Str):∀ts,(DL (Gg ts) (.inr z)).isSome=decide (z∈ts)
 |[]=>rfl
 |y::r=>by
  by_cases e:y=z
  .subst e;simp[DL,Gg]
  .have h3:DL (Gg (y::r)) (.inr z)=DL (Gg r) (.inr z):=by simp[DL,Gg,BZ,e]
   have e':¬z=y:=λq=>e q.symm;rw[h3,pB z r];simp[e']
theorem pA {z:Str}{ts:List Str}(h:z∉ts):Ih (Gg ts) (.inr z) (.bl true)=Gg (ts++[z]):=by
 unfold Ih;rw[oZ,decide_eq_false h];simp[Gg]
theorem qR (ts:List Str):(Gg ts).length=ts.length:=by unfold Gg;rw[Ae]
def RN (M:Mp)(x:D)(k:List Str->Prop):Prop:=CH (Eu M x) λAQ=>CH (MK AQ) k
theorem xX (h:RN M x k):∃ts,Eu M x=some (Gg ts)/\k ts:=by
 obtain⟨AQ,e,h1⟩:=Cr h;obtain⟨ts,e2,q⟩:=Cr h1;rw[iC e2]at e;exact⟨ts,e,q⟩
theorem nK {M:Mp}{x:D}{ts:List Str}{k:List Str->Prop}(e:Eu M x=some (Gg ts)):RN M x k=k ts:=by unfold RN;rw[e,Cn,gR,Cn]
def NZ (M:Mp)(x:D)(k:Av->List Str->Prop):Prop:=J2 x λp=>KR (M p) λAQ=>CH (MK AQ) λts=>k p ts
theorem Zs {M:Mp}{x:D}{k:Av->List Str->Prop}(h:NZ M x k):∃p ts,x=.ref p/\M p=some (.dic (Gg ts))/\k p ts:=by
 obtain⟨p,rfl,h1⟩:=IL h;cases e:M p with
 |none=>rw[e]at h1;exact h1.elim
 |some o=>
  cases o with
  |lst _=>rw[e]at h1;exact h1.elim
  |dct _=>rw[e]at h1;exact h1.elim
  |obj _ _=>rw[e]at h1;exact h1.elim
  |dic AQ=>rw[e]at h1;obtain⟨ts,e2,q⟩:=Cr h1;rw[iC e2]at e;exact⟨p,ts,rfl,e,q⟩
theorem Vz {M:Mp}{p:Av}{ts:List Str}{k:Av->List Str->Prop}(e:M p=some (.dic (Gg ts))):NZ M (.ref p) k=k p ts:=by
 unfold NZ;rw[Tc,e,Uu,gR,Cn]
abbrev Zf5:Ee:=λds M Q=>Fq ds λx y=>GI x λz=>RN M y λts=>z∉ts/\Q .non M
theorem vJ:Od T T.x39 1 Zf5:=by
 refine CM.p2 T.x39.d.F ["name", "taken"] λx y M Q hr nN h1=>?_;obtain⟨z,rfl,h2⟩:=Et h1;obtain⟨ts,ht,hz,q⟩:=xX h2;refine⟨_,(qO (DD (AV (xV (Ly hr)) (qv 0) (qv 1) (by with_unfolding_all rfl)) (qO PH) qE)),?_⟩;right;simp only[ht,Cn,gO,pB,decide_eq_false hz];exact Dn.of q
noncomputable def small (c:Nat):Bool:=decide (97<=c/\c<=122)
noncomputable def Gh (z:Str):Bool:=decide (1<=z.length/\z.length<=8) && z.cps.toList.all small
def Zr (z:Str):Prop:=(z.cps.all λc=>decide (c<128))=true
abbrev xk:Ee:=λds M Q=>GJ ds λx=>GI x λz=>(Zr z/\z.length<=1000)/\Q (.bl (Gh z)) M
theorem wc:Od T T.x37 1 xk:=by
 refine CM.p1 T.x37.d.F ["text"] λx M Q hr nN h1=>?_;obtain⟨z,e1',⟨ha,hz⟩,q⟩:_:=Et h1;refine⟨_,(qO (Cw (XF (NY Qo Qo Ai (BW rc T.B.len BP (qA (qv 0) qN)) (Iu T.m_LONGEST_NAME)) (T7 (BW (xN rfl) T.B.all boot_all (qA (GV (caps:=[]) ⟨rfl,by rfl,by rfl,by rfl,rfl,by rfl,by nofun⟩ rfl (gu (qv 0)) (λ_ _ _ _ _ _=>(NY qX qX Bn (qv 0) Bn))) qN)))))),?_⟩;right;refine⟨HD hz,Cv (λc1=>Cv (λc2=>⟨ha,?_⟩) λc2=>?_) λc1=>?_⟩
 .unfold KO;refine F4.of (f:=λc=>.bl (small c)) (HD (by rw[A8];exact hz)) trivial (λc hc R r=>?_) ?_
  .walk_at "cap";rw[show(Ak "a").cps.toList=[97] by nofun,show(Ak "z").cps.toList=[122] by nofun];have l1:([c] < ([97]:List Nat))↔c<97:=by simp[NM]
   have l2:(([122]:List Nat) < [c])↔122<c:=by simp[NM]
   refine Cv (λh=>?_) λh=>?_
   .rw[l1]at h;rw[show small c=!decide (([122]:List Nat) < [c]) by unfold small;rw[EG];simp only[l2,decide_eq_true_eq,NP,Mu,decide_eq_false_iff_not];ext]at r;exact r
   .rw[l1]at h;rw[show small c=false by unfold small;rw[decide_eq_false_iff_not];ext]at r;exact r
  .rw[show(z.cps.toList.map λc=>D.bl (small c))=(z.cps.toList.map small).map D.bl by rw[CP];rfl,uA,Cn];refine Dn.of ?_;rw[Vd];rw[show Gh z=z.cps.toList.all small by unfold Gh;rw[decide_eq_true (by ext),TM]]at q;exact q
 .rw[show Gh z=false by unfold Gh;rw[decide_eq_false (by ext),Iq]]at q;exact Dn.of q
 .rw[show Gh z=false by unfold Gh;rw[decide_eq_false (by ext),Iq]]at q;exact Dn.of q
abbrev ZfX:Ee:=λds M Q=>Fq ds λx y=>GI x λz=>NZ M y λp ts=>((Zr z/\z.length<=1000)/\Gh z=true/\z∉ts/\ts.length<=100)/\Q .non (put M p (.dic (Gg (ts++[z]))))
theorem jW:Od T T.x38 2 ZfX:=by
 refine CM.p2 T.x38.d.F ["name", "taken"] λx y M Q hr nN h1=>?_;obtain⟨z,rfl,h2⟩:=Et h1;obtain⟨p,ts,e1',ht,⟨ha,hn,hz,hl⟩,q⟩:_:=Zs h2;refine⟨_,(qC (DD (LF (Ir (As T.x37.d (wc T) nofun (qA (qv 0) qN)))) (qO PH) qE) (qC (E2 (As T.x39.d (vJ T) nofun (qA (qv 0) (qA (qv 1) qN)))) (qO (VH (Ly hr) (qv 1) (qv 0) Vq rfl)))),?_⟩;right;refine⟨ha,Cv (λc=>by rw[hn]at c;cases c) λ_=>?_⟩;rw[nK (lL ht),ht,Uu,pA hz,qR];exact⟨hz,B5 (by ext),Dn.of q⟩
noncomputable def GB (b:Str×Int×Int):D:=.tup [.str b.1,.int b.2.1,.int b.2.2]
noncomputable def Jb (d:Str×Int):D:=.tup [.str d.1,.int d.2]
def GG (z:Str):Prop:=(Zr z/\z.length<=1000)/\Gh z=true
theorem UD {M:Mp}{p:Av}{o:MO}{x:D}{xs:List D}(hp:∀ys,M p≠some (.lst ys))(h:Bo M x=some xs):Bo (put M p o) x=some xs:=by
 cases x with
 |ref q=>
  have hq:q≠p:=λe=>by
   subst e;cases e2:M q with
   |none=>simp[Bo,e2]at h
   |some u=>
    cases u with
    |lst ys=>exact hp ys e2
    |_=>simp[Bo,e2]at h
  unfold Bo at h ⊢;simp only[DY hq];exact h
 |_=>exact h
theorem XH {M:Mp}{p q:Av}{a b c d:MO}(h:q≠p):put (put (put (put M p a) q b) p c) q d=put (put M p c) q d:=by
 funext r;unfold put;by_cases e:r=q<;>by_cases e':r=p<;>simp[e,e']
theorem oM {ws:List (Str×Int)}{z:Str}{n:Int}(h:z∉ws.map (·.1)):Ih (EO ws) (.inr z) (.int n)=EO (ws++[(z,n)]):=by
 have e:((EO ws).any λkv=>decide (kv.1=.inr z))=false:=by
  rw[P4];intro kv hkv;obtain⟨p,hp,rfl⟩:=AB.mp hkv;simp only[decide_eq_true_eq,Sum.inr.injEq];intro e;exact h (by rw[<- e];exact DR hp)
 unfold Ih;rw[e];simp[EO]
theorem Yw {α:Type}{f:α->Str}{ts:List Str}{bs:List α}{k:Nat}{b:α}(h:(ts++bs.map f).Nodup)(hb:bs[k]? = some b):f b∉ts++(bs.take k).map f:=by
 obtain⟨hk,e⟩:=Au.mp hb
 have e2:bs=bs.take k++b::bs.drop (k+1):=by
  rw[<- e,<- Dz hk,ED]
 rw[e2,AI,AM,<- Bm]at h;intro hm;have e3:(bs.take k++b::bs.drop (k+1)).take k=bs.take k:=by rw[<- e2]
 exact(Bt.mp h).2.2 _ hm _ AA rfl
def kK (ts:List Str)(bs:List (Str×Int×Int)):Prop:=ts.length+bs.length<=100/\(∀b∈bs,GG b.1/\1<=b.2.1/\b.2.1<=64/\0<=b.2.2/\b.2.2<2^b.2.1.toNat)/\(ts++bs.map (·.1)).Nodup
abbrev Zd3:Ee:=λds M Q=>Fq ds λx y=>∃bs:List (Str×Int×Int),Bo M x=some (bs.map GB)/\NZ M y λp ts=>kK ts bs/\∀q,M q=none->Q (.ref q) (put (put M p (.dic (Gg (ts++bs.map (·.1))))) q (.dic (EO (bs.map λb=>(b.1,b.2.1)))))
theorem Zd7:Od T T.x40 3 Zd3:=by
 refine CM.p2 T.x40.d.F ["boxes", "taken", "widths", "name", "width", "first"] λx y M Q hr nN h=>?_;obtain⟨bs,hl,h1⟩:=h;obtain⟨p,ts,e1',ht,⟨hb,hall,hnd⟩,q⟩:_:=Zs h1;refine⟨_,(qC (CA 2 nN J0) (Ec (MC AS rfl (PJ (qv 0)) (Us (is:=[3,4,5]) rfl (Ko (JM nN rfl (BH rfl)) (Ko (JM nN rfl (BH rfl)) (Ko (JM nN rfl (BH rfl)) Rb)))) (qC (E2 (As T.x38.d (jW T) nofun (qA (qv 3) (qA (qv 1) qN)))) (qC (E2 (As T.x2.d (jS T) nofun (qA (qv 4) qN))) (qC (E2 (As T.x3.d (vK T) nofun (qA (qv 4) (qA (qv 5) qN)))) (qO (VH (Ly hr) (qv 2) (qv 3) (qv 4) rfl)))))) (qO (Cw (qv 2))))),?_⟩;right;intro a ha;have hap:a≠p:=λe=>by rw[e,ht]at ha;cases ha
 have hlM:∀o o',Bo (put (put M p o) a o') x=some (bs.map GB):=λo o'=>UD (λys e=>by rw[DY hap,ha]at e;cases e) (UD (λys e=>by rw[ht]at e;cases e) hl)
 have e0:put M a (.dic [])=put (put M p (.dic (Gg ts))) a (.dic []):=by
  funext r;unfold put;by_cases e:r=a<;>by_cases e':r=p<;>simp[e,e',ht]
 rw[e0];refine⟨λτ M'=>∃v3 v4 v5,τ=[some x,some (.ref p),some (.ref a),v3,v4,v5]/\M'=put (put M p (.dic (Gg (ts++bs.map (·.1))))) a (.dic (EO (bs.map λb=>(b.1,b.2.1)))),?_,?_⟩
 .grind;simp only[hlM,Cn];refine⟨λk τ M'=>∃v3 v4 v5,τ=[some x,some (.ref p),some (.ref a),v3,v4,v5]/\M'=put (put M p (.dic (Gg (ts++(bs.take k).map (·.1))))) a (.dic (EO ((bs.take k).map λb=>(b.1,b.2.1)))),⟨none,none,none,rfl,by simp[EO]⟩,?_,?_,?_⟩
  .intro k τ M';ext1⟨v3,v4,v5,e1',e2'⟩;exact hlM _ _
  .intro k d τ M' hd;ext1⟨v3,v4,v5,e1',e2'⟩;obtain⟨b,hbk,rfl⟩:=Pb hd;obtain⟨⟨nm1,nm2⟩,w1,w2,f1,f2⟩:_:=hall b (AG hbk);have et:bs.take (k+1)=bs.take k++[b]:=by rw[A3,hbk];rfl
   have hk:(bs.take k).length<=bs.length:=by rw[AW];ext
   simp only[GB];grind;have hnot:=Yw hnd hbk;rw[Vz (by rw[DY (λe=>hap e.symm),DN])];refine⟨⟨nm1,nm2,hnot,by rw[Ao,Ae];ext⟩,⟨w1,w2⟩,⟨w1,f1,f2⟩,?_⟩;rw[DY hap,DN,Uu];refine⟨B5 (by unfold EO;rw[Ae,Ae];ext),_,_,_,rfl,?_⟩;rw[oM (by rw[CP];exact λhm=>hnot (AR _ hm)),XH hap,et,AI,AI,<- Bm];rfl
  .intro τ M';ext1⟨v3,v4,v5,e1',e2'⟩;rw[Ae,Bw];exact⟨v3,v4,v5,rfl,rfl⟩
 .intro τ M';ext1⟨v3,v4,v5,e1',e2'⟩;grind;exact Dn.of (q a ha)
def kJ (ts:List Str)(bs:List (Str×Int)):Prop:=ts.length+bs.length<=100/\(∀b∈bs,GG b.1/\1<=b.2/\b.2<=64)/\(ts++bs.map (·.1)).Nodup
abbrev Zd2:Ee:=λds M Q=>Fq ds λx y=>∃bs:List (Str×Int),Bo M x=some (bs.map Jb)/\NZ M y λp ts=>kJ ts bs/\∀q,M q=none->Q (.ref q) (put (put M p (.dic (Gg (ts++bs.map (·.1))))) q (.dic (EO bs)))
theorem Zd6:Od T T.x41 3 Zd2:=by
 refine CM.p2 T.x41.d.F ["doors", "taken", "widths", "name", "width"] λx y M Q hr nN h=>?_;obtain⟨bs,hl,h1⟩:=h;obtain⟨p,ts,e1',ht,⟨hb,hall,hnd⟩,q⟩:_:=Zs h1;refine⟨_,(qC (CA 2 nN J0) (Ec (MC AS rfl (PJ (qv 0)) (Us (is:=[3,4]) rfl (Ko (JM nN rfl (BH rfl)) (Ko (JM nN rfl (BH rfl)) Rb))) (qC (E2 (As T.x38.d (jW T) nofun (qA (qv 3) (qA (qv 1) qN)))) (qC (E2 (As T.x2.d (jS T) nofun (qA (qv 4) qN))) (qO (VH (Ly hr) (qv 2) (qv 3) (qv 4) rfl))))) (qO (Cw (qv 2))))),?_⟩;right;intro a ha;have hap:a≠p:=λe=>by rw[e,ht]at ha;cases ha
 have hlM:∀o o',Bo (put (put M p o) a o') x=some (bs.map Jb):=λo o'=>UD (λys e=>by rw[DY hap,ha]at e;cases e) (UD (λys e=>by rw[ht]at e;cases e) hl)
 have e0:put M a (.dic [])=put (put M p (.dic (Gg ts))) a (.dic []):=by
  funext r;unfold put;by_cases e:r=a<;>by_cases e':r=p<;>simp[e,e',ht]
 rw[e0];refine⟨λτ M'=>∃v3 v4,τ=[some x,some (.ref p),some (.ref a),v3,v4]/\M'=put (put M p (.dic (Gg (ts++bs.map (·.1))))) a (.dic (EO bs)),?_,?_⟩
 .grind;simp only[hlM,Cn];refine⟨λk τ M'=>∃v3 v4,τ=[some x,some (.ref p),some (.ref a),v3,v4]/\M'=put (put M p (.dic (Gg (ts++(bs.take k).map (·.1))))) a (.dic (EO (bs.take k))),⟨none,none,rfl,by simp[EO]⟩,?_,?_,?_⟩
  .intro k τ M';ext1⟨v3,v4,e1',e2'⟩;exact hlM _ _
  .intro k d τ M' hd;ext1⟨v3,v4,e1',e2'⟩;obtain⟨b,hbk,rfl⟩:=Pb hd;obtain⟨⟨nm1,nm2⟩,w1,w2⟩:=hall b (AG hbk);have et:bs.take (k+1)=bs.take k++[b]:=by rw[A3,hbk];rfl
   have hk:(bs.take k).length<=bs.length:=by rw[AW];ext
   simp only[Jb];grind;have hnot:=Yw hnd hbk;rw[Vz (by rw[DY (λe=>hap e.symm),DN])];refine⟨⟨nm1,nm2,hnot,by rw[Ao,Ae];ext⟩,⟨w1,w2⟩,?_⟩;rw[DY hap,DN,Uu];refine⟨B5 (by unfold EO;rw[Ae];ext),_,_,rfl,?_⟩;rw[oM (by exact λhm=>hnot (AR _ hm)),XH hap,et,AI,<- Bm];rfl
  .intro τ M';ext1⟨v3,v4,e1',e2'⟩;rw[Ae,Bw];exact⟨v3,v4,rfl,rfl⟩
 .intro τ M';ext1⟨v3,v4,e1',e2'⟩;grind;exact Dn.of (q a ha)
noncomputable def LX (w:Str×Tm):D:=.tup [.str w.1,w.2.D]
def Oe (bs es:List (Str×Int))(t:Tm)(n:Int):Prop:=(t.parts<=100/\t.deep<=12)/\Wd bs es t n
structure Sh (bs es:List (Str×Int))(g:Tm)(wr:List (Str×Tm)):Prop where
 g:Oe bs es g 1
 l:wr.length<=6
 w:∀w∈wr,∃n,bs.lookup w.1=some n/\Oe bs es w.2 n
 nd:(wr.map (·.1)).Nodup
def Qm (y:D)(k:List (Str×Int)->Prop):Prop:=CH (X7 y) λAQ=>CH (MI AQ) k
theorem mG {y:D}{k:List (Str×Int)->Prop}(h:Qm y k):∃ws,y=.dic (EO ws)/\k ws:=by
 obtain⟨AQ,e,h1⟩:=Cr h;obtain⟨ws,e2,q⟩:=Cr h1;rw[iE e2]at e;cases y with
 |dic ds=>cases e;exact⟨ws,rfl,q⟩
 |_=>cases e
theorem gN :Qm (.dic (EO ws)) k=k ws:=by unfold Qm X7;rw[Cn,gT,Cn]
abbrev Zf3:Ee:=λds M Q=>XN ds λr y bx dx=>∃(nm:Str) (g:Tm) (wx:D) (wr:List (Str×Tm)),r=.tup [.str nm,g.D,wx]/\Bo M wx=some (wr.map LX)/\NZ M y λp ts=>Qm bx λbs=>Qm dx λes=>(GG nm/\nm∉ts/\ts.length<=100/\Sh bs es g wr)/\Q .non (put M p (.dic (Gg (ts++[nm]))))
local macro_rules | `(tactic| simp_all_arith! [$xs,*])=>`(tactic| simp_all_arith [Uv,Tj,VF,VG,Yo,Ut,↓Yd,↓Ye,↓Yg,bn,↓Zw,↓Zx,↓Zy,gN,$xs,*])
theorem Λ:Od T T.x42 18 Zf3:=by
 refine CM.p4 T.x42.d.F ["rule", "taken", "box_widths", "door_widths", "written", "box", "term", "width"] λx y z v M Q hr nN h=>?_;obtain⟨nm,g,wx,wr,e1',hl,h1⟩:_:=h;obtain⟨p,ts,e1',ht,h2⟩:_:=Zs h1;obtain⟨bs,rfl,h3⟩:=mG h2;obtain⟨es,e1',⟨hn,hnt,hlen,rok⟩,q⟩:_:=mG h3;refine⟨_,(qC (E2 (As T.x38.d (jW T) nofun (qA (Bc BA (qv 0) Ai) (qA (qv 1) qN)))) (qC (E2 (As T.x15.d (YA T) nofun (qA (As T.x8.d (uR T) nofun (qA (Bc BA (qv 0) Ai) (qA (qv 2) (qA (qv 3) qN)))) (qA Ai qN)))) (qC (E2 (As T.x36.d (aS T) nofun (qA (Bc BA (qv 0) Ai) (qA (Iu T.m_MOST_WRITES) (qA Bn qN))))) (qC (CA 4 nN J0) (qO (MC AS rfl (PJ (Bc BA (qv 0) Ai)) (Us (is:=[5,6]) rfl (Ko (JM nN rfl (BH rfl)) (Ko (JM nN rfl (BH rfl)) Rb))) (qC (CA 7 nN (As T.x11.d (jT T) nofun (qA (qv 2) (qA (qv 5) qN)))) (qC (E2 (As T.x39.d (vJ T) nofun (qA (qv 5) (qA (qv 4) qN)))) (qC (VH (Ly hr) (qv 4) (qv 5) Vq rfl) (qO (E2 (As T.x15.d (YA T) nofun (qA (As T.x8.d (uR T) nofun (qA (qv 6) (qA (qv 2) (qA (qv 3) qN)))) (qA (qv 7) qN)))))))))))))),?_⟩;right;rw[Vz ht];have hlM:∀o,Bo (put M p o) wx=some (wr.map LX):=λo=>UD (λys e=>by rw[ht]at e;cases e) hl;rw[hlM,Cn];refine⟨⟨hn.1,hn.2,hnt,hlen⟩,rok.g.1,1,rok.g.2,rfl,by rw[Ae];have:=rok.l;ext,λa ha=>?_⟩;generalize hM2:put M p (.dic (Gg (ts++[nm])))=M2 at ha ⊢;have hl2:Bo M2 wx=some (wr.map LX):=by rw[<- hM2];exact hlM _
 have hl3:∀o,Bo (put M2 a o) wx=some (wr.map LX):=λo=>UD (λys e=>by rw[ha]at e;cases e) hl2;rw[hM2]at q;rw[hl3,Cn];refine⟨λk τ M'=>∃v5 v6 v7,τ=[some (D.tup [D.str nm,g.D,wx]),some (D.ref p),some (D.dic (EO bs)),some (D.dic (EO es)),some (D.ref a),v5,v6,v7]/\M'=put M2 a (.dic (Gg ((wr.take k).map (·.1)))),⟨none,none,none,rfl,rfl⟩,?_,?_,?_⟩
 .intro k τ M';ext1⟨v5,v6,v7,e1',e2'⟩;exact hl3 _
 .intro k d τ M' hd;ext1⟨v5,v6,v7,e1',e2'⟩;obtain⟨b,hbk,rfl⟩:=Pb hd;obtain⟨n,hb,tok⟩:=rok.w b (AG hbk);have et:wr.take (k+1)=wr.take k++[b]:=by rw[A3,hbk];rfl
  have hk:(wr.take k).length<=6:=by rw[AW];have:=rok.l;ext
  have hnot:b.1∉(wr.take k).map (·.1):=by
   have:=Yw (ts:=[]) (f:=λb:Str×Tm=>b.1) (by simpa using rok.nd) hbk;simpa using this
  simp only[LX];grind;simp only[hb,Cn]
  (try grind)
  rw[nK (lL DN)];refine⟨hnot,?_⟩;rw[pA hnot,R7,qR,Ae];refine⟨B5 (by ext),tok.1,n,tok.2,rfl,_,_,_,rfl,?_⟩;rw[et,AI];rfl
 .intro τ M';ext1⟨v5,v6,v7,e1',e2'⟩;exact Ta (Sub.put ha) q
structure Wk where
 bs:List (Str×Int×Int)
 ds:List (Str×Int)
 rs:List (Str×Tm×List (Str×Tm))
noncomputable def MM (r:Str×Tm×List (Str×Tm)):D:=.tup [.str r.1,r.2.1.D,.tup (r.2.2.map LX)]
noncomputable def Wk.D (w:Wk):D:=.tup [.tup (w.bs.map GB),.tup (w.ds.map Jb),.tup (w.rs.map MM)]
noncomputable def Wk.ws (w:Wk):List (Str×Int):=w.bs.map λb=>(b.1,b.2.1)
structure Wk.Ok (w:Wk):Prop where
 b:w.bs.length<=12/\∀b∈w.bs,GG b.1/\1<=b.2.1/\b.2.1<=64/\0<=b.2.2/\b.2.2<2^b.2.1.toNat
 d:w.ds.length<=6/\∀d∈w.ds,GG d.1/\1<=d.2/\d.2<=64
 r:w.rs.length<=8/\∀r∈w.rs,GG r.1/\Sh w.ws w.ds r.2.1 r.2.2
 nd:(w.bs.map (·.1)++w.ds.map (·.1)++w.rs.map (·.1)).Nodup
def lD (M:Mp)(x:D)(r:Str×Tm×List (Str×Tm)):Prop:=∃wx,x=.tup [.str r.1,r.2.1.D,wx]/\Bo M wx=some (r.2.2.map LX)
abbrev mj:Ee:=λds M Q=>Kw ds λx y z=>∃(w:Wk) (xs:List D),w.Ok/\Bo M x=some (w.bs.map GB)/\Bo M y=some (w.ds.map Jb)/\Bo M z=some xs/\xs.length=w.rs.length/\(∀(i:Nat) x r,xs[i]? = some x->w.rs[i]? = some r->lD M x r)/\Q w.D M
theorem jh:Od T T.x35 19 mj:=by
 refine CM.p3 T.x35.d.F ["boxes", "doors", "rules", "taken", "box_widths", "door_widths", "rule"] λx y z M Q hr nN h=>?_;obtain⟨wk,xs,ok,h1,h2,h3,hlen,hr1,q⟩:_:=h;refine⟨_,(qC (E2 (As T.x36.d (aS T) nofun (qA (qv 0) (qA (Iu T.m_MOST_BOXES) (qA Bn qN))))) (qC (E2 (As T.x36.d (aS T) nofun (qA (qv 1) (qA (Iu T.m_MOST_DOORS) (qA Bn qN))))) (qC (E2 (As T.x36.d (aS T) nofun (qA (qv 2) (qA (Iu T.m_MOST_RULES) (qA Bn qN))))) (Ec (CA 3 nN J0) (Ec (CA 4 nN (L6 (As T.x40.d (Zd7 T) nofun (qA (qv 0) (qA (qv 3) qN))))) (Ec (CA 5 nN (L6 (As T.x41.d (Zd6 T) nofun (qA (qv 1) (qA (qv 3) qN))))) (Ec (MC AS rfl (PJ (qv 2)) (Pc (i:=6) nN rfl (BH rfl)) (qO (E2 (As T.x42.d (Λ T) nofun (qA (qv 6) (qA (qv 3) (qA (qv 4) (qA (qv 5) qN)))))))) (qO (Cw (BR (qA (Ey VE T.B.tuple EZ (qA (qv 0) qN)) (qA (Ey VE T.B.tuple EZ (qA (qv 1) qN)) (qA (Ey VE T.B.tuple EZ (qA (GV (caps:=[]) ⟨rfl,by rfl,by rfl,by rfl,rfl,by rfl,by nofun⟩ rfl (PJ (qv 2)) (λ_ _ _ _ _ _=>(BR (qA (Bc BA (qv 0) Ai) (qA (Bc BA (qv 0) Ai) (qA (Ey VE T.B.tuple EZ (qA (Bc BA (qv 0) Ai) qN)) qN)))))) qN)) qN))))))))))))),?_⟩;right;rw[h1,Cn,h2,Cn,h3,Cn];have hb:=ok.b;have hd:=ok.d;have hrr:=ok.r;have hnd:=ok.nd;refine⟨by rw[Ae];ext,by rw[Ae];ext,by ext,?_⟩;refine⟨λτ M'=>∃p,M p=none/\τ=[some x,some y,some z,some (.ref p),none,none,none]/\M'=put M p (.dic (Gg [])),?_,?_⟩
 .grind;exact λp hp=>⟨p,hp,rfl,rfl⟩
 intro τ M';ext1⟨p,hp,e1',e2'⟩;have keep:∀{x:D} {xs:List D} (o:MO),Bo M x=some xs->Bo (put M p o) x=some xs:=λo h=>UD (λys e=>by rw[hp]at e;cases e) h;refine⟨λτ M'=>τ=[some x,some y,some z,some (.ref p),some (.dic (EO wk.ws)),none,none]/\M'=put M p (.dic (Gg (wk.bs.map (·.1)))),?_,?_⟩
 .grind;refine⟨wk.bs,keep _ h1,?_⟩;rw[Vz DN];refine⟨⟨by simp;ext,hb.2,by rw[Bm]at hnd;simpa using(Bt.mp hnd).1⟩,λa ha=>?_⟩;rw[R7,DN];dsimp only
  have ha':put M p (.dic (Gg ([]++wk.bs.map (·.1)))) a=none:=by
   have hap:a≠p:=λe=>by rw[e,DN]at ha;cases ha
   rw[DY hap]at ha ⊢;exact ha
  rw[R9 ha',GQ];exact⟨rfl,rfl⟩
 rintro τ M' ⟨rfl,rfl⟩;refine⟨λτ M'=>τ=[some x,some y,some z,some (.ref p),some (.dic (EO wk.ws)),some (.dic (EO wk.ds)),none]/\M'=put M p (.dic (Gg (wk.bs.map (·.1)++wk.ds.map (·.1)))),?_,?_⟩
 .grind;refine⟨wk.ds,keep _ h2,?_⟩;rw[Vz DN];refine⟨⟨by simp;ext,hd.2,(Bt.mp hnd).1⟩,λa ha=>?_⟩;rw[R7,DN];dsimp only
  have ha':put M p (.dic (Gg (wk.bs.map (·.1)++wk.ds.map (·.1)))) a=none:=by
   have hap:a≠p:=λe=>by rw[e,DN]at ha;cases ha
   rw[DY hap]at ha ⊢;exact ha
  rw[R9 ha'];exact⟨rfl,rfl⟩
 rintro τ M' ⟨rfl,rfl⟩;refine⟨λτ M'=>∃v6,τ=[some x,some y,some z,some (.ref p),some (.dic (EO wk.ws)),some (.dic (EO wk.ds)),v6]/\M'=put M p (.dic (Gg (wk.bs.map (·.1)++wk.ds.map (·.1)++wk.rs.map (·.1)))),?_,?_⟩
 .grind;rw[keep _ h3,Cn];refine⟨λk τ M'=>∃v6,τ=[some x,some y,some z,some (.ref p),some (.dic (EO wk.ws)),some (.dic (EO wk.ds)),v6]/\M'=put M p (.dic (Gg (wk.bs.map (·.1)++wk.ds.map (·.1)++(wk.rs.take k).map (·.1)))),⟨none,rfl,by simp⟩,?_,?_,?_⟩
  .rintro k τ M' ⟨v6,rfl,rfl⟩;exact keep _ h3
  .rintro k d τ M' hdk ⟨v6,rfl,rfl⟩;have hk:k<wk.rs.length:=by rw[<- hlen];exact(Au.mp hdk).1
   have hrk:=Ag hk;generalize wk.rs[k]=r at hrk;obtain⟨wx,rfl,hwx⟩:=hr1 k d r hdk hrk;obtain⟨nok,rok⟩:=hrr.2 r (AG hrk);have et:wk.rs.take (k+1)=wk.rs.take k++[r]:=by rw[A3,hrk];rfl
   have hkl:(wk.rs.take k).length<=8:=by rw[AW];ext
   have hnot:=Yw (f:=λb:Str×Tm×List (Str×Tm)=>b.1) hnd hrk;grind;refine⟨r.1,r.2.1,wx,r.2.2,rfl,keep _ hwx,?_⟩;rw[Vz DN];refine⟨⟨nok,hnot,by simp;ext,rok⟩,some (.tup [.str r.1,r.2.1.D,wx]),rfl,?_⟩;rw[R7,et,AI,<- Bm];rfl
  .rintro τ M' ⟨v6,rfl,rfl⟩;rw[hlen,Bw];exact⟨v6,rfl,rfl⟩
 rintro τ M' ⟨v6,rfl,rfl⟩;grind;rw[Zz (keep _ h1),Cn,Zz (keep _ h2),Cn,keep _ h3,Cn];have hsub:=Sub.put (o:=.dic (Gg (wk.bs.map (·.1)++wk.ds.map (·.1)++wk.rs.map (·.1)))) hp;have h3':=keep (.dic (Gg (wk.bs.map (·.1)++wk.ds.map (·.1)++wk.rs.map (·.1)))) h3
 have hr2:∀(i:Nat) x r,xs[i]? = some x->wk.rs[i]? = some r->lD (put M p (.dic (Gg (wk.bs.map (·.1)++wk.ds.map (·.1)++wk.rs.map (·.1))))) x r:=λi x r hx hr=>by
  obtain⟨wx,e,hw⟩:=hr1 i x r hx hr;exact⟨wx,e,keep _ hw⟩
 generalize put M p (.dic (Gg (wk.bs.map (·.1)++wk.ds.map (·.1)++wk.rs.map (·.1))))=Mx at hsub h3' hr2 ⊢;refine⟨HD (by ext),λi ys M''=>M''=Mx/\ys=(wk.rs.take i).map MM,⟨rfl,rfl⟩,?_,?_,?_⟩
 .rintro i ys M'' ⟨rfl,rfl⟩;exact⟨h3',by rw[Ae,AW];ext⟩
 .rintro i d ys M'' hdi ⟨rfl,rfl⟩;have hi:i<wk.rs.length:=by rw[<- hlen];exact(Au.mp hdi).1
  have hri:=Ag hi;generalize wk.rs[i]=r at hri;obtain⟨wx,rfl,hwx⟩:=hr2 i d r hdi hri;walk_at "cap";rw[Zz hwx,Cn];rw[A3,hri,AI];rfl
 .rintro ys M'' ⟨rfl,rfl⟩;rw[hlen,Bw];exact Ta hsub q
noncomputable def Fs (z:Str)(r:Str×Tm×List (Str×Tm)):Bool:=decide (r.1=z)
abbrev xl:Ee:=λds M Q=>Fq ds λx y=>GI y λz=>∃(wk:Wk) (r:Str×Tm×List (Str×Tm)),x=wk.D/\wk.rs.find? (Fs z)=some r/\Q (MM r) M
theorem VX:Od T T.x43 1 xl:=by
 refine CM.p2 T.x43.d.F ["works", "name", "rule"] λx y M Q hr nN h1=>?_;obtain⟨z,e1',wk,r,e2',hf,q⟩:_:=Et h1;refine⟨_,(Ec (MC AS rfl (QD (Bc BA (qv 0) Ai)) (Pc (i:=2) nN rfl (BH rfl)) (qO (DD (AV Cm (Bc BA (qv 2) Ai) (qv 1)) (qO (Cw (qv 2))) qE))) (qO PH)),?_⟩
 (try simp only[Kj,Kh,Ki])
 refine⟨λ_ _=>False,?_,λ_ _ h=>h.elim⟩;simp only[Wk.D];grind;refine⟨λk τ M'=>∃v,τ=[some (.tup [.tup (wk.bs.map GB),.tup (wk.ds.map Jb),.tup (wk.rs.map MM)]),some (.str z),v]/\M'=M/\(wk.rs.drop k).find? (Fs z)=some r,⟨none,rfl,rfl,hf⟩,λ_ _ _ _=>trivial,?_,?_⟩
 .intro k d τ M' hd;ext1⟨v,e1',e2',hk⟩;obtain⟨r',hr',rfl⟩:=Pb hd
  have e:wk.rs.drop k=r'::wk.rs.drop (k+1):=by
   obtain⟨hkl,e⟩:=Au.mp hr';rw[<- e];exact Dz hkl
  rw[e,BZ]at hk;simp only[MM];grind;refine Cv (λc=>?_) λc=>?_
  .rw[show Fs z r'=true from decide_eq_true c]at hk;cases hk;exact Dn.of q
  .rw[show Fs z r'=false from decide_eq_false c]at hk;exact⟨_,rfl,hk⟩
 .intro τ M';ext1⟨v,e1',e2',hk⟩;rw[Ae,List.drop_length]at hk;cases hk
theorem tR:∀(ps acc:List (Cd×D)),((acc++ps).map (·.1)).Nodup->Gi acc ps=acc++ps
 |[],acc,_=>by rw[C1];rfl
 |p::ps,acc,h=>by
  have hn:Ih acc p.1 p.2=acc++[p]:=by
   unfold Ih;rw[if_neg];intro hc;rw[Fc]at hc;obtain⟨kv,hkv,he⟩:=hc;rw[AI,Gs]at h;exact h.2.2 kv.1 (AB.mpr ⟨kv,hkv,rfl⟩) p.1 (by simp) (of_decide_eq_true he)
  have ih:=tR ps (acc++[p]) (by rw[Bm];exact h);unfold Gi at ih ⊢;rw[CC,hn,ih,Bm];rfl
theorem jK (ps)(h:(ps.map (·.1)).Nodup):Gi [] ps=ps:=tR ps [] h
theorem iU (ws)(h:(ws.map (·.1)).Nodup):((EO ws).map (·.1)).Nodup:=by
 unfold EO;rw[CP];have:EV ((λx:Cd×D=>x.1) ∘ λp:Str×Int=>((.inr p.1:Cd),D.int p.2)) ws=(ws.map (·.1)).map F0:=by rw[CP];rfl
 rw[this];unfold F7 at h ⊢;rw[Db];exact h.imp λhab e=>hab (F5 e)
abbrev ZfW:Ee:=λds M Q=>GJ ds λx=>∃wk:Wk,x=wk.D/\wk.Ok/\Q (.tup [.dic (EO wk.ws),.dic (EO wk.ds)]) M
theorem zz:Od T T.x44 1 ZfW:=by
 refine CM.p1 T.x44.d.F ["works"] λx M Q hr nN h=>?_;obtain⟨wk,rfl,ok,q⟩:=h;refine⟨_,(qO (Cw (BR (qA (Ey (iO rfl) T.B.dict Wc (qA (GV (caps:=[]) ⟨rfl,by rfl,by rfl,by rfl,rfl,by rfl,by nofun⟩ rfl (QD (Bc BA (qv 0) Ai)) (λ_ _ _ _ _ _=>(BR (qA (Bc BA (qv 0) Ai) (qA (Bc BA (qv 0) Ai) qN))))) qN)) (qA (Ey (iO rfl) T.B.dict Wc (qA (GV (caps:=[]) ⟨rfl,by rfl,by rfl,by rfl,rfl,by rfl,by nofun⟩ rfl (QD (Bc BA (qv 0) Ai)) (λ_ _ _ _ _ _=>(BR (qA (Bc BA (qv 0) Ai) (qA (Bc BA (qv 0) Ai) qN))))) qN)) qN))))),?_⟩;simp only[Wk.D];have hb:=ok.b.1;have hd:=ok.d.1
 have n1:(wk.ws.map (·.1)).Nodup:=by
  have:=ok.nd;rw[Bm,Gs]at this;have e:wk.ws.map (·.1)=wk.bs.map (·.1):=by unfold Wk.ws;rw[CP];rfl
  rw[e];exact this.1
 have n2:(wk.ds.map (·.1)).Nodup:=by
  have:=ok.nd;rw[Gs]at this;exact(Bt.mp this.1).2.1
 right;refine F4.of (ks:=wk.bs) (g:=GB) (f:=λb=>.tup [.str b.1,.int b.2.1]) (HD (by ext)) trivial (λb hb R r=>?_) ?_
 .simp only[GB];walk_at "cap";exact r
 refine⟨EO wk.ws,?_,HD (by unfold EO Wk.ws;rw[Ae,Ae];ext),?_⟩
 .simp[Bo,Gj,EO,Wk.ws,kD]
 rw[jK _ (iU _ n1)]
 (try grind)
 refine F4.of (ks:=wk.ds) (g:=Jb) (f:=λb=>.tup [.str b.1,.int b.2]) (HD (by ext)) trivial (λb hb R r=>?_) ?_
 .simp only[Jb];walk_at "cap";exact r
 refine⟨EO wk.ds,?_,HD (by unfold EO;rw[Ae];ext),?_⟩
 .simp[Bo,Gj,EO,kD]
 rw[jK _ (iU _ n2)];exact Dn.of q
theorem qF (hp:M p=none)(h:Bo M x=some xs):Bo (put M p o) x=some xs:=by
 cases x with
 |ref q=>
  have hq:q≠p:=λe=>by subst e;simp[Bo,hp]at h
  unfold Bo at h ⊢;simp only[DY hq];exact h
 |_=>exact h
theorem j7 (hp:M p=none)(h:Eu M x=some AQ):Eu (put M p o) x=some AQ:=by
 cases x with
 |ref q=>
  have hq:q≠p:=λe=>by subst e;simp[Eu,hp]at h
  unfold Eu at h ⊢;simp only[DY hq];exact h
 |_=>exact h
noncomputable def fM (s z:Str)(w:Int)(k:Nat):D:=.tup [.str s,.str z,.int (w-1-k)]
noncomputable def KY (s z:Str)(w:Int):List D:=(Bl w.toNat).map (fM s z w)
noncomputable def Ev (s:Str)(ws:List (Str×Int))(ss:List Str):List D:=ss.flatMap λz=>KY s z ((ws.lookup z).getD 0)
theorem sG (h:∀z∈ss,∃w,ws.lookup z=some w/\1<=w/\w<=64):(Ev s ws ss).length<=ss.length*64:=by
 induction ss with
 |nil=>exact C9 _
 |cons z ss ih=>obtain⟨w,e,h1,h2⟩:=h z AA;have:=ih λz hz=>h z (Aw _ hz);unfold Ev at this ⊢;rw[List.flatMap_cons,Ao,e,AO,KY,Ae,B3];simp only[Option.getD_some];ext
abbrev Ω:Ee:=λds M Q=>Kw ds λx y z=>GI x λs=>∃(ss:List Str) (ws:List (Str×Int)),Bo M y=some (ss.map D.str)/\Eu M z=some (EO ws)/\ss.length<=12/\(∀z∈ss,∃w,ws.lookup z=some w/\1<=w/\w<=64)/\∀p,M p=none->Q (.ref p) (put M p (.lst (Ev s ws ss)))
theorem VT:Od T T.x48 1 Ω:=by
 refine CM.p3 T.x48.d.F ["sort", "names", "widths", "bits", "name"] λx y z M Q hr nN h1=>?_;obtain⟨so,e1',ss,ws,hy,hz,l12,hw,q⟩:_:=Et h1;refine⟨_,(qC (CA 3 nN (KQ qN)) (Ec (MC AS rfl (PJ (qv 1)) (Pc (i:=4) nN rfl (I0 rfl)) (qO (E2 (L7 AZ CO CN Tg (qv 3) (qA (GV (caps:=[("sort",0),("name",4)]) ⟨rfl,by rfl,by rfl,by rfl,rfl,by rfl,by nofun⟩ rfl (ug T.B.range (qA (BE O9 (Gz (Ly hr) (qv 2) (qv 4) (λ_ _=>rfl)) Ai) (qA (Q0 ZB Ai) (qA (Q0 ZB Ai) qN)))) (λ_ _ _ _ _ _=>(BR (qA (qv 1) (qA (qv 2) (qA (qv 0) qN)))))) qN))))) (qO (Cw (qv 3))))),?_⟩;right;intro p hp;refine⟨λτ M'=>∃v4,M'=put M p (.lst (Ev so ws ss))/\τ=[some (.str so),some y,some z,some (.ref p),v4],?_,?_⟩
 .grind;rw[qF hp hy,Cn];refine⟨λk τ M'=>∃v4,M'=put M p (.lst (Ev so ws (ss.take k)))/\τ=[some (.str so),some y,some z,some (.ref p),v4],⟨none,rfl,rfl⟩,λ_ _ _ ⟨_,h,_⟩=>(by rw[h];exact qF hp hy),?_,?_⟩
  .rintro k d τ M' hd ⟨v4,rfl,rfl⟩;obtain⟨nm,hn,rfl⟩:=Pb hd;obtain⟨wd,hl,w1,w64⟩:=hw nm (AG hn);grind;rw[j7 hp hz,Cn,iD,hl,Jz,Cn];grind
   have rn:PB (wd-1) (-1)=wd.toNat:=by
    unfold PB;rw[if_pos (by ext)];ext
   have lt:=sG (s:=so) (ss:=ss.take k) λz hz=>hw z (Ov hz);rw[AW]at lt;have k12:k<ss.length:=(Au.mp hn).1;refine⟨⟨by ext,by ext⟩,?_⟩;rw[rn];unfold ML;refine F4.of (f:=λk:Nat=>fM so nm wd k) (HD (by rw[B3];ext)) trivial (λi hi R q2=>?_) ?_
   .walk_at "cap";unfold fM at q2;rw[show wd-1+(i:Int)*-1=wd-1-i by ext];exact q2
   .rw[nG];refine⟨HD (by rw[Ae,B3];ext),_,?_,rfl⟩;unfold Ev;rw[A3,hn,OX];simp[hl,KY]
  .rintro τ M' ⟨v4,rfl,rfl⟩;rw[Ae,Bw];exact⟨v4,rfl,rfl⟩
 rintro τ M' ⟨v4,rfl,rfl⟩;grind;exact Dn.of (q p hp)
abbrev vf:Ee:=λds M Q=>Fq ds λx y=>∃xs ys:List Str,Bo M x=some (xs.map D.str)/\Bo M y=some (ys.map D.str)/\xs.length<=12/\ys.length<=12/\Q (.lst ((La xs ys).map D.str)) M
theorem jG:Od T T.x46 1 vf:=by
 refine CM.p2 T.x46.d.F ["names", "others"] λx y M Q hr nN h=>?_;obtain⟨xs,ys,hx,hy,l1,l2,q⟩:_:=h;refine⟨_,(qO (Cw (XG (.inl rfl) rfl T.B.sorted T.B.set (qv 0) (qv 1)))),?_⟩;have sb:(30:Nat)<A9:=by decide
 have f1:=Ux xs;have f2:=Ux ys;right;rw[hx,Cn,QF,Cn];refine⟨by ext,by ext,?_⟩
 (try grind)
 rw[hy,Cn,QF,Cn];refine⟨by ext,by ext,?_⟩
 (try grind)
 rw[show RL .BitAnd xs ys=La xs ys from if_pos rfl];exact Dn.of q
abbrev yk:Ee:=λds M Q=>Fq ds λx y=>∃xs ys:List Str,Bo M x=some (xs.map D.str)/\Bo M y=some (ys.map D.str)/\xs.length<=12/\ys.length<=12/\Q (.lst ((Lv xs ys).map D.str)) M
theorem uQ:Od T T.x47 1 yk:=by
 refine CM.p2 T.x47.d.F ["names", "others"] λx y M Q hr nN h=>?_;obtain⟨xs,ys,hx,hy,l1,l2,q⟩:_:=h;refine⟨_,(qO (Cw (XG (.inr rfl) rfl T.B.sorted T.B.set (qv 0) (qv 1)))),?_⟩;have sb:(30:Nat)<A9:=by decide
 have f1:=Ux xs;have f2:=Ux ys;right;rw[hx,Cn,QF,Cn];refine⟨by ext,by ext,?_⟩
 (try grind)
 rw[hy,Cn,QF,Cn];refine⟨by ext,by ext,?_⟩
 (try grind)
 rw[show RL .BitXor xs ys=Lv xs ys from if_neg (by decide)];exact Dn.of q
theorem Tm.leaf_kid {t l:Tm}(hk:t.kids≠[])(h:l∈t.leaves):∃k∈t.kids,l∈k.leaves:=by
 cases t<;>simp[Tm.kids,Tm.leaves]at hk h ⊢
 .exact h
 .exact h
 .exact h
 .exact h
theorem Wd.leaf {w:Int}(h:Wd bs es t w):∀l∈t.leaves,∃a,Wd bs es l a:=by
 induction h with
 |num h=>intro l hl;cases AN.mp hl;exact⟨_,.num h⟩
 |box h=>intro l hl;cases AN.mp hl;exact⟨_,.box h⟩
 |late h=>intro l hl;cases AN.mp hl;exact⟨_,.late h⟩
 |door h=>intro l hl;cases AN.mp hl;exact⟨_,.door h⟩
 | @over t ws w hk ho ih=>
  intro l hl;obtain⟨e1,e2⟩:=Tm.over_len ho;obtain⟨k,mk,lk⟩:=Tm.leaf_kid e2 hl;obtain⟨i,hi,hik⟩:=List.getElem_of_mem mk;have hi2:i<ws.length:=by ext
  exact ih i k ws[i] (by rw[Ag hi,hik]) (Ag hi2) l lk
theorem UC:∀(xs ys:List Str),xs.Nodup->(∀x∈xs,x∈ys)->xs.length<=ys.length
 |[],_,_,_=>C9 _
 |x::xs,ys,nd,h=>by
  rw[DH]at nd;have:=UC xs (ys.erase x) nd.2 λy hy=>(List.mem_erase_of_ne (by rintro rfl;exact nd.1 hy)).mpr (h y (Aw _ hy));rw[List.length_erase_of_mem (h x AA)]at this;have:=List.length_pos_of_mem (h x AA);rw[AO];ext
theorem GF :x∈HE xs↔x∈xs:=by
 unfold HE;rw[List.mem_mergeSort];exact Uw xs x
theorem Rc (xs):(HE xs).Nodup:=(Ez _ _).nodup_iff.mpr (X9 xs)
theorem VI {xs zs:List Str}(h:∀x∈xs,x∈zs):(HE xs).length<=zs.length:=UC _ _ (Rc xs) λx hx=>h x (GF.mp hx)
theorem VO {ws:List (Str×Int)}(h:ws.lookup x=some n):x∈ws.map (·.1):=by
 induction ws with
 |nil=>cases h
 |cons p ws ih=>
  rw[Bu]at h;split at h
  .next e=>exact AU.mpr (.inl (eq_of_beq e))
  .exact Aw _ (ih h)
theorem tM {w:Int}(h:Wd bs es t w)(hx:x∈t.names "box"\/x∈t.names "late"):∃n,bs.lookup x=some n:=by
 rcases hx with hx|hx<;>(
  obtain⟨l,hl,hn⟩:=Ci.mp hx;obtain⟨a,ha⟩:=h.leaf l hl;have lk:=t.leaves_kids l hl;cases ha with
  |num _=>simp[Tm.nameOf]at hn
  |box e=>simp[Tm.nameOf]at hn;(try obtain⟨_,rfl⟩:=hn);(try subst hn);exact⟨_,e⟩
  |late e=>simp[Tm.nameOf]at hn;(try obtain⟨_,rfl⟩:=hn);(try subst hn);exact⟨_,e⟩
  |door e=>simp[Tm.nameOf,jI,jV]at hn
  | over _ ho=>exact absurd lk (Tm.over_len ho).2)
theorem vy {w:Int}(h:Wd bs es t w)(hx:x∈t.names "door"):∃n,es.lookup x=some n:=by
 obtain⟨l,hl,hn⟩:=Ci.mp hx;obtain⟨a,ha⟩:=h.leaf l hl;have lk:=t.leaves_kids l hl;cases ha with
 |num _=>simp[Tm.nameOf]at hn
 |box e=>simp[Tm.nameOf,jJ]at hn
 |late e=>simp[Tm.nameOf,jU]at hn
 |door e=>simp[Tm.nameOf]at hn;(try obtain⟨_,rfl⟩:=hn);(try subst hn);exact⟨_,e⟩
 |over _ ho=>exact absurd lk (Tm.over_len ho).2
theorem VN {wk:Wk}(ok:wk.Ok)(h:wk.rs.find? (Fs z)=some r):r∈wk.rs/\Sh wk.ws wk.ds r.2.1 r.2.2:=by
 have hm:=Gn h;exact⟨hm,(ok.r.2 r hm).2⟩
noncomputable def GL (g:Tm):List Str:=HE (g.names "box")
noncomputable def MP (g:Tm):List Str:=HE (g.names "late")
noncomputable def GK (g:Tm):List Str:=HE (g.names "door")
noncomputable def R1 (ws ds:List (Str×Int))(g1 g2:Tm):List D:=
 Ev "box" ws (La (GL g1) (GL g2))++Ev "door" ds (La (GK g1) (GK g2))++Ev "box" ws (Lv (GL g1) (GL g2))++Ev "door" ds (Lv (GK g1) (GK g2))++Ev "one" ws (MP g1)++Ev "other" ws (MP g2)
structure EL (wk:Wk)(g:Tm):Prop where
 t:g.deep<=12/\g.parts<=100
 b:∀x,x∈g.names "box"\/x∈g.names "late"->x∈wk.ws.map (·.1)/\∃n,wk.ws.lookup x=some n/\1<=n/\n<=64
 d:∀x∈g.names "door",x∈wk.ds.map (·.1)/\∃n,wk.ds.lookup x=some n/\1<=n/\n<=64
 l:(GL g).length<=12/\(MP g).length<=12/\(GK g).length<=12
theorem rZ {ws:List (Str×Int)}(h:ws.lookup x=some n):(x,n)∈ws:=by
 induction ws with
 |nil=>cases h
 |cons p ws ih=>
  rw[Bu]at h;split at h
  .next e=>cases h;rw[eq_of_beq e];exact AA
  .exact Aw _ (ih h)
theorem EL.of {wk:Wk}(ok:wk.Ok){g:Tm}(h:Oe wk.ws wk.ds g 1):EL wk g:=by
 have hb:∀x,x∈g.names "box"\/x∈g.names "late"->x∈wk.ws.map (·.1)/\∃n,wk.ws.lookup x=some n/\1<=n/\n<=64:=λx hx=>by
  obtain⟨n,e⟩:=tM h.2 hx;refine⟨VO e,n,e,?_⟩;have:=rZ e;unfold Wk.ws at this;obtain⟨b,hb,e2⟩:=AB.mp this;cases e2;exact⟨(ok.b.2 b hb).2.1,(ok.b.2 b hb).2.2.1⟩
 have hd:∀x∈g.names "door",x∈wk.ds.map (·.1)/\∃n,wk.ds.lookup x=some n/\1<=n/\n<=64:=λx hx=>by
  obtain⟨n,e⟩:=vy h.2 hx;exact⟨VO e,n,e,(ok.d.2 _ (rZ e)).2⟩
 have l1:=ok.b.1;have l2:=ok.d.1;have lw:(wk.ws.map (·.1)).length<=12:=by unfold Wk.ws;rw[Ae,Ae];exact l1
 have ld:(wk.ds.map (·.1)).length<=12:=by rw[Ae];ext
 exact⟨⟨h.1.2,h.1.1⟩,hb,hd,AY (VI λx hx=>(hb x (.inl hx)).1) lw,AY (VI λx hx=>(hb x (.inr hx)).1) lw,AY (VI λx hx=>(hd x hx).1) ld⟩
theorem EL.few (h:EL wk g):∀f,G7 f->(fm (g.names f)).length<64:=by
 obtain⟨l1,l2,l3⟩:=h.l;unfold GL at l1;unfold MP at l2;unfold GK at l3;rw[iA]at l1 l2 l3;rintro f (rfl|rfl|rfl)<;>ext
def UR (M:Mp)(g:Tm)(v:D):Prop:=∃a0 a1 a2,v=.tup [.ref a0,.ref a1,.ref a2]/\M a0=some (Mz "box" g)/\M a1=some (Mz "late" g)/\M a2=some (Mz "door" g)
theorem UR.sub (h:UR M g v)(s:Sub M M'):UR M' g v:=by
 obtain⟨a0,a1,a2,e,h0,h1,h2⟩:=h;exact⟨a0,a1,a2,e,s _ _ h0,s _ _ h1,s _ _ h2⟩
theorem oV (m0:M p0=none)(m1:M p1=none)(m2:M p2=none)(n1:¬p1=p0)(n2:¬p2=p0)(n3:¬p2=p1):Sub M (put (put (put M p0 (Mz "box" g)) p1 (Mz "late" g)) p2 (Mz "door" g))/\UR (put (put (put M p0 (Mz "box" g)) p1 (Mz "late" g)) p2 (Mz "door" g)) g (.tup [.ref p0,.ref p1,.ref p2]):=by
 refine⟨Sub.puts (Sub.puts (Sub.put m0) m1) m2,p0,p1,p2,rfl,?_,?_,?_⟩
 .rw[DY (Bg n2),DY (Bg n1),DN]
 .rw[DY (Bg n3),DN]
 .rw[DN]
theorem VL (l:ss.length<=12)(h:∀z∈ss,∃w,ws.lookup z=some w/\1<=w/\w<=64):(Ev s ws ss).length<=768:=by
 have:=sG (s:=s) h;ext
theorem LZ {M:Mp}{p:Av}{xs:List D}(h:M p=some (.lst xs)):Nl M (.ref p)=some "list":=Vp h
theorem nW (h:M p=some (.lst xs))(hy:Bo M y=some ys):Ga (.ref p) [y] M Q=(xs.length+ys.length<=Am/\Q .non (put M p (.lst (xs++ys)))):=by
 unfold Ga;rw[Tc,gB,h];simp only[hy,Cn]
theorem o9 {M2 M3:Mp}(hs:Sub M2 M3)(hp:M2 p=none)(h:M3 p=some (.lst row))(hp':M3 p'=none)(h1:row.length<=5000)(h2:bs.length<=768)(q:∀M4,Sub M2 M4->M4 p=some (.lst (row++bs))->Q .non M4):Ga (.ref p) [.ref p'] (put M3 p' (.lst bs)) Q:=by
 have hM2:M2 p'=none:=by
  cases e:M2 p' with
  |none=>rfl
  |some o=>rw[hs p' o e]at hp';cases hp'
 have ne:p≠p':=λe=>by rw[e,hp']at h;cases h
 rw[nW (by rw[DY ne];exact h) (OH DN)];have:(6000:Nat)<=Am:=by decide
 exact⟨by ext,q _ (Sub.puts (Sub.puts hs hM2) hp) DN⟩
section
variable (wk:Wk)(g1 g2:Tm)
noncomputable abbrev mB:=Ev "box" wk.ws (La (GL g1) (GL g2))
noncomputable abbrev lZ:=mB wk g1 g2++Ev "door" wk.ds (La (GK g1) (GK g2))
noncomputable abbrev lY:=lZ wk g1 g2++Ev "box" wk.ws (Lv (GL g1) (GL g2))
noncomputable abbrev lX:=lY wk g1 g2++Ev "door" wk.ds (Lv (GK g1) (GK g2))
noncomputable abbrev lW:=lX wk g1 g2++Ev "one" wk.ws (MP g1)
noncomputable abbrev xM:=lW wk g1 g2++Ev "other" wk.ws (MP g2)
end
noncomputable abbrev sQ (wk:Wk)(a b:Str)(u v x:Option D:=none):Gq:=[some wk.D,some (.str a),some (.str b),some (.tup [.dic (EO wk.ws),.dic (EO wk.ds)]),u,v,x]
abbrev UY (M2 M:Mp)(p:Av)(row:List D)(n:Nat):Prop:=Sub M2 M/\M2 p=none/\M p=some (.lst row)/\row.length<=n
abbrev Pf (wk:Wk)(a b:Str)(a0 a1 a2 b0 b1 b2:Av)(M2:Mp)(row:List D)(n:Nat)(τ:Gq)(M:Mp):Prop:=∃p,UY M2 M p row n/\τ=sQ wk a b (some (.tup [.ref a0,.ref a1,.ref a2])) (some (.tup [.ref b0,.ref b1,.ref b2])) (some (.ref p))
theorem Yl {M2 M3:Mp}(j:UY M2 M3 p row n)(hn:n<=5000)(hp':M3 p'=none)(h2:bs.length<=768)(q:∀M4,UY M2 M4 p (row++bs) (n+768)->Q .non M4):Ga (.ref p) [.ref p'] (put M3 p' (.lst bs)) Q:=o9 j.1 j.2.1 j.2.2.1 hp' (AY j.2.2.2 hn) h2 λM4 h h'=>q M4 ⟨h,j.2.1,h',by rw[Ao];exact Nat.add_le_add j.2.2.2 h2⟩
abbrev Ψ:Ee:=λds M Q=>Kw ds λx y z=>GI y λa=>GI z λb=>∃(wk:Wk) (r1 r2:Str×Tm×List (Str×Tm)),x=wk.D/\wk.Ok/\wk.rs.find? (Fs a)=some r1/\wk.rs.find? (Fs b)=some r2/\∀p,M p=none->Q (.ref p) (put M p (.lst (R1 wk.ws wk.ds r1.2.1 r2.2.1)))
theorem Η:Od T T.x45 17 Ψ:=by
 refine CM.p3 T.x45.d.F ["works", "one", "other", "widths", "mine", "yours", "row"] λx y z M Q hr nN h1=>?_;obtain⟨a,rfl,h2⟩:=Et h1;obtain⟨b,e1',wk,r1,r2,e2',ok,f1,f2,q⟩:_:=Et h2;have o1:=(VN ok f1).2.g;have o2:=(VN ok f2).2.g;refine⟨_,(Ec (CA 3 nN (As T.x44.d (zz T) nofun (qA (qv 0) qN))) (Ec (CA 4 nN (As T.x17.d (ZW T) nofun (qA (Bc BA (As T.x43.d (VX T) nofun (qA (qv 0) (qA (qv 1) qN))) Ai) qN))) (Ec (CA 5 nN (As T.x17.d (ZW T) nofun (qA (Bc BA (As T.x43.d (VX T) nofun (qA (qv 0) (qA (qv 2) qN))) Ai) qN))) (Ec (CA 6 nN (As T.x48.d (VT T) nofun (qA Bn (qA (As T.x46.d (jG T) nofun (qA (Bc BA (qv 4) Ai) (qA (Bc BA (qv 5) Ai) qN))) (qA (Bc BA (qv 3) Ai) qN))))) (Ec (E2 (L7 AZ CO CN Tg (qv 6) (qA (As T.x48.d (VT T) nofun (qA Bn (qA (As T.x46.d (jG T) nofun (qA (Bc BA (qv 4) Ai) (qA (Bc BA (qv 5) Ai) qN))) (qA (Bc BA (qv 3) Ai) qN)))) qN))) (Ec (E2 (L7 AZ CO CN Tg (qv 6) (qA (As T.x48.d (VT T) nofun (qA Bn (qA (As T.x47.d (uQ T) nofun (qA (Bc BA (qv 4) Ai) (qA (Bc BA (qv 5) Ai) qN))) (qA (Bc BA (qv 3) Ai) qN)))) qN))) (Ec (E2 (L7 AZ CO CN Tg (qv 6) (qA (As T.x48.d (VT T) nofun (qA Bn (qA (As T.x47.d (uQ T) nofun (qA (Bc BA (qv 4) Ai) (qA (Bc BA (qv 5) Ai) qN))) (qA (Bc BA (qv 3) Ai) qN)))) qN))) (Ec (E2 (L7 AZ CO CN Tg (qv 6) (qA (As T.x48.d (VT T) nofun (qA Bn (qA (Bc BA (qv 4) Ai) (qA (Bc BA (qv 3) Ai) qN)))) qN))) (Ec (E2 (L7 AZ CO CN Tg (qv 6) (qA (As T.x48.d (VT T) nofun (qA Bn (qA (Bc BA (qv 5) Ai) (qA (Bc BA (qv 3) Ai) qN)))) qN))) (qO (Cw (qv 6)))))))))))),?_⟩
 (try simp only[Kj,Kh,Ki])
 refine⟨λτ M'=>M'=M/\τ=sQ wk a b,?_,?_⟩
 .grind;exact⟨wk,rfl,ok,rfl⟩
 rintro τ M' ⟨rfl,rfl⟩;have k1:=EL.of ok o1;have k2:=EL.of ok o2;refine⟨λτ M1=>∃u,(Sub M' M1/\UR M1 r1.2.1 u)/\τ=sQ wk a b (some u),?_,?_⟩
 .grind;refine⟨wk,r1,rfl,f1,?_⟩;simp only[MM];grind;refine⟨k1.t.1,AY k1.t.2 (by decide),k1.few,λp0 p1 p2 m0 m1 m2 n1 n2 n3=>?_⟩;obtain⟨h1,h2⟩:=oV (g:=r1.2.1) m0 m1 m2 n1 n2 n3;exact⟨_,⟨h1,h2⟩,rfl⟩
 intro τ M1;ext1⟨u1,⟨sb1,six1⟩,e1'⟩;refine⟨λτ M2=>∃u,(Sub M' M2/\UR M2 r1.2.1 u1/\UR M2 r2.2.1 u)/\τ=sQ wk a b (some u1) (some u),?_,?_⟩
 .grind;refine⟨wk,r2,rfl,f2,?_⟩;simp only[MM];grind;refine⟨k2.t.1,AY k2.t.2 (by decide),k2.few,λp0 p1 p2 m0 m1 m2 n1 n2 n3=>?_⟩;obtain⟨h1,h2⟩:=oV (g:=r2.2.1) m0 m1 m2 n1 n2 n3;exact⟨_,⟨sb1.trans h1,six1.sub h1,h2⟩,rfl⟩
 intro τ M2;ext1⟨u2,⟨sb2,⟨a0,a1,a2,e1',A0,A1,A2⟩,⟨b0,b1,b2,e2',B0,B1,B2⟩⟩,e3'⟩;have mS:∀{x:Str} {xs ys:List Str},x∈La xs ys->x∈xs:=λh=>(B4.mp (GF.mp h)).1;have hS:∀{xs ys:List Str},xs.length<=12->(La xs ys).length<=12:=λh=>AY (VI λx hx=>(B4.mp hx).1) h
 have mU:∀{x:Str} {xs ys:List Str},x∈Lv xs ys->x∈xs\/x∈ys:=λh=>by
  rcases AH.mp (GF.mp h)with h|h
  .exact .inr (B4.mp h).1
  .exact .inl (B4.mp h).1
 have lU1:(Lv (GL r1.2.1) (GL r2.2.1)).length<=12:=AY (VI (zs:=wk.ws.map (·.1)) λx hx=>(mU (GF.mpr hx)).elim (λh=>(k1.b _ (.inl (GF.mp h))).1) λh=>(k2.b _ (.inl (GF.mp h))).1) (by unfold Wk.ws;rw[Ae,Ae];exact ok.b.1);have lU2:(Lv (GK r1.2.1) (GK r2.2.1)).length<=12:=AY (VI (zs:=wk.ds.map (·.1)) λx hx=>(mU (GF.mpr hx)).elim (λh=>(k1.d _ (GF.mp h)).1) λh=>(k2.d _ (GF.mp h)).1) (by rw[Ae];have:=ok.d.1;ext);have dB:∀{g x},EL wk g->x∈GL g->∃n,wk.ws.lookup x=some n/\1<=n/\n<=64:=λk hx=>(k.b _ (.inl (GF.mp hx))).2;have dL:∀{g x},EL wk g->x∈MP g->∃n,wk.ws.lookup x=some n/\1<=n/\n<=64:=λk hx=>(k.b _ (.inr (GF.mp hx))).2;have dD:∀{g x},EL wk g->x∈GK g->∃n,wk.ds.lookup x=some n/\1<=n/\n<=64:=λk hx=>(k.d _ (GF.mp hx)).2;have e0:=λz hz=>dB k1 (mS (x:=z) (xs:=GL r1.2.1) (ys:=GL r2.2.1) hz);have e1:=λz hz=>dD k1 (mS (x:=z) (xs:=GK r1.2.1) (ys:=GK r2.2.1) hz);have e2:=λz hz=>(mU (x:=z) (xs:=GL r1.2.1) (ys:=GL r2.2.1) hz).elim (dB k1) (dB k2);have e3:=λz hz=>(mU (x:=z) (xs:=GK r1.2.1) (ys:=GK r2.2.1) hz).elim (dD k1) (dD k2);refine⟨Pf wk a b a0 a1 a2 b0 b1 b2 M2 (mB wk r1.2.1 r2.2.1) 768,?_,?_⟩
 .grind;refine⟨GL r1.2.1,GL r2.2.1,OH A0,OH B0,k1.l.1,k2.l.1,?_⟩
  (try grind)
  exact⟨_,wk.ws,rfl,rfl,hS k1.l.1,e0,λp hp=>⟨p,⟨Sub.put hp,hp,DN,VL (hS k1.l.1) e0⟩,rfl⟩⟩
 rintro τ M3 ⟨p,j,rfl⟩;refine⟨Pf wk a b a0 a1 a2 b0 b1 b2 M2 (lZ wk r1.2.1 r2.2.1) 1536,?_,?_⟩
 .grind;refine⟨LZ j.2.2.1,GK r1.2.1,GK r2.2.1,OH (j.1 _ _ A2),OH (j.1 _ _ B2),k1.l.2.2,k2.l.2.2,?_⟩
  (try grind)
  exact⟨_,wk.ds,rfl,rfl,hS k1.l.2.2,e1,λp' h=>Yl j (by decide) h (VL (hS k1.l.2.2) e1) λM4 h=>⟨p,h,rfl⟩⟩
 clear j;rintro τ M3 ⟨p,j,rfl⟩;refine⟨Pf wk a b a0 a1 a2 b0 b1 b2 M2 (lY wk r1.2.1 r2.2.1) 2304,?_,?_⟩
 .grind;refine⟨LZ j.2.2.1,GL r1.2.1,GL r2.2.1,OH (j.1 _ _ A0),OH (j.1 _ _ B0),k1.l.1,k2.l.1,?_⟩
  (try grind)
  exact⟨_,wk.ws,rfl,rfl,lU1,e2,λp' h=>Yl j (by decide) h (VL lU1 e2) λM4 h=>⟨p,h,rfl⟩⟩
 clear j;rintro τ M3 ⟨p,j,rfl⟩;refine⟨Pf wk a b a0 a1 a2 b0 b1 b2 M2 (lX wk r1.2.1 r2.2.1) 3072,?_,?_⟩
 .grind;refine⟨LZ j.2.2.1,GK r1.2.1,GK r2.2.1,OH (j.1 _ _ A2),OH (j.1 _ _ B2),k1.l.2.2,k2.l.2.2,?_⟩
  (try grind)
  exact⟨_,wk.ds,rfl,rfl,lU2,e3,λp' h=>Yl j (by decide) h (VL lU2 e3) λM4 h=>⟨p,h,rfl⟩⟩
 clear j;rintro τ M3 ⟨p,j,rfl⟩;refine⟨Pf wk a b a0 a1 a2 b0 b1 b2 M2 (lW wk r1.2.1 r2.2.1) 3840,?_,?_⟩
 .grind;exact⟨LZ j.2.2.1,MP r1.2.1,wk.ws,OH (j.1 _ _ A1),rfl,k1.l.2.1,λz=>dL k1,λp' h=>Yl j (by decide) h (VL k1.l.2.1 λz=>dL k1) λM4 h=>⟨p,h,rfl⟩⟩
 clear j;rintro τ M3 ⟨p,j,rfl⟩;refine⟨Pf wk a b a0 a1 a2 b0 b1 b2 M2 (xM wk r1.2.1 r2.2.1) 4608,?_,?_⟩
 .grind;exact⟨LZ j.2.2.1,MP r2.2.1,wk.ws,OH (j.1 _ _ B1),rfl,k2.l.2.1,λz=>dL k2,λp' h=>Yl j (by decide) h (VL k2.l.2.1 λz=>dL k2) λM4 h=>⟨p,h,rfl⟩⟩
 clear j;intro τ M3;ext1⟨p,⟨sb3,hp,hM,-⟩,e1'⟩;grind;refine Ta (M:=put M' p (.lst (R1 wk.ws wk.ds r1.2.1 r2.2.1))) (λx o e=>?_) (q p ?_)
 .by_cases c:x=p
  .subst c;rw[DN]at e;rw[<- e];exact hM
  .rw[DY c]at e;exact sb3 _ _ (sb2 _ _ e)
 .cases e:M' p with
  |none=>rfl
  |some o=>rw[sb2 p o e]at hp;cases hp
noncomputable def bD (b:Str×Str×Nat):D:=.tup [.str b.1,.str b.2.1,.int b.2.2]
structure KA where
 o:Av
 q:Av
 m:Av
 d:Av
 b:Av
 e:Av
 f:Av
 g:Av
def Ld (s:Str):Prop:=s = "box"\/s = "door"\/s = "one"\/s = "other"
noncomputable def KA.at (A:KA)(s:Str):Av:=if s = "box" then A.b else if s = "door" then A.e else if s = "one" then A.f else A.g
noncomputable def LH (row:List (Str×Str×Nat))(ks:List Int)(s z:Str)(w:Nat):List Int:=(Bl w).map λp=>ks.getD (row.idxOf (s,z,p)) 2
noncomputable def HP (row:List (Str×Str×Nat))(ks:List Int)(E:Str->List (Str×Nat))(s:Str):List (Cd×D):=(E s).map λn=>(.inr n.1,Nm (LH row ks s n.1 n.2))
noncomputable def Jl (A:KA):List (Cd×D):=[(.inr "box",.ref A.b),(.inr "door",.ref A.e),(.inr "one",.ref A.f),(.inr "other",.ref A.g)]
noncomputable def Nq (A:KA):List (Str×D):=[("row",.ref A.q),("marks",.ref A.m),("spans",.ref A.d)]
theorem oF (A:KA):BS (Ak "row") (Nq A)=some (.ref A.q):=by
 unfold Nq;rw[Bu,show((Ak "row":Str) == ("row":Str))=true by nofun]
theorem QG (A:KA):BS (Ak "marks") (Nq A)=some (.ref A.m):=by
 unfold Nq;rw[Bu,show((Ak "marks":Str) == ("row":Str))=false by nofun,Bu,show((Ak "marks":Str) == ("marks":Str))=true by nofun]
theorem Yu (A:KA):BS (Ak "spans") (Nq A)=some (.ref A.d):=by
 unfold Nq;rw[Bu,show((Ak "spans":Str) == ("row":Str))=false by nofun,Bu,show((Ak "spans":Str) == ("marks":Str))=false by nofun,Bu,show((Ak "spans":Str) == ("spans":Str))=true by nofun]
theorem Q8 {M:Mp}{p:Av}{AQ:List (Cd×D)}(h:M p=some (.dic AQ)):Eu M (.ref p)=some AQ:=by simp[Eu,h]
structure FN (C:Av)(M:Mp)(A:KA)(E:Str->List (Str×Nat))(row:List (Str×Str×Nat))(ms ks:List Int):Prop where
 o:M A.o=some (.obj C (Nq A))
 q:M A.q=some (.lst (row.map bD))
 m:M A.m=some (.lst (ms.map D.int))
 d:M A.d=some (.dic (Jl A))
 s:∀s,Ld s->M (A.at s)=some (.dic (HP row ks E s))
 nd:[A.b,A.e,A.f,A.g].Nodup
 qm:A.q≠A.m
structure Nt (E:Str->List (Str×Nat))(row:List (Str×Str×Nat)):Prop where
 nd:row.Nodup
 k:∀b∈row,Ld b.1/\∃w,(b.2.1,w)∈E b.1/\b.2.2<w
 e:∀s,((E s).map (·.1)).Nodup/\(E s).length<=12/\∀n∈E s,1<=n.2/\n.2<=64
 l:row.length<=5000
def Jq (A:KA)(M M':Mp):Prop:=∀p,p∉[A.m,A.b,A.e,A.f,A.g]->M' p=M p
theorem Jq.refl (A:KA)(M:Mp):Jq A M M:=λ_ _=>rfl
theorem Jq.trans {A:KA}{M M1 M2:Mp}(h:Jq A M M1)(g:Jq A M1 M2):Jq A M M2:=λp hp=>(g p hp).trans (h p hp)
theorem gD (A:KA)(s:Str):A.at s∈[A.m,A.b,A.e,A.f,A.g]:=by
 unfold KA.at
 split
 .simp
 .split
  .simp
  .split<;>simp
theorem Up (A:KA):A.at "box" = A.b:=if_pos rfl
theorem UA (A:KA):A.at "door" = A.e:=by unfold KA.at;rw[if_neg (by nofun),if_pos rfl]
theorem Uq (A:KA):A.at "one" = A.f:=by unfold KA.at;rw[if_neg (by nofun),if_neg (by nofun),if_pos rfl]
theorem UF (A:KA):A.at "other" = A.g:=by unfold KA.at;rw[if_neg (by nofun),if_neg (by nofun),if_neg (by nofun)]
theorem nQ {A:KA}(nd:[A.b,A.e,A.f,A.g].Nodup)(hs:Ld s)(ht:Ld t)(h:A.at s=A.at t):s=t:=by
 simp only[DH,Bx,AX,or_false,not_or]at nd;obtain⟨⟨n1,n2,n3⟩,⟨n4,n5⟩,n6,-⟩:=nd;rcases hs with rfl|rfl|rfl|rfl<;>rcases ht with rfl|rfl|rfl|rfl<;>simp only[Up,UA,Uq,UF]at h<;>first|rfl|exact absurd h ‹_› | exact absurd h.symm ‹_›
theorem iw (A:KA):((Jl A).map (·.1)).Nodup:=by
 show([.inr "box",.inr "door",.inr "one",.inr "other"]:List Cd).Nodup;nofun
theorem VC {A:KA}{s:Str}(h:Ld s):DL (Jl A) (.inr s)=some (.ref (A.at s)):=by
 refine aE (iw A) ?_;rcases h with rfl|rfl|rfl|rfl<;>simp only[Up,UA,Uq,UF,Jl]<;>simp
def Tk (i:Nat)(m:Int)(ks ks':List Int):Prop:=ks'.getD i 2=m/\∀j,j≠i->ks'.getD j 2=ks.getD j 2
theorem ZI (row:List (Str×Str×Nat))(ks:List Int)(s z:Str)(w:Nat):(LH row ks s z w).length=w:=by unfold LH;rw[Ae,B3]
theorem ck {row:List (Str×Str×Nat)}(nd:row.Nodup)(h:row[i]? = some b):row.idxOf b=i:=by
 obtain⟨hi,e⟩:=Au.mp h;have hl:=Lr (AG h);have e2:=Pw hl;exact(JB nd).mp (e2.trans e.symm)
theorem nZ {row:List (Str×Str×Nat)}(h:row[i]? = some b)(ne:c≠b):row.idxOf c≠i:=λe=>by
 obtain⟨hi,e1⟩:=Au.mp h;have hl:row.idxOf c<row.length:=by ext
 have e2:=Pw hl;exact ne (by rw[<- e1,<- e2];congr 1)
theorem jc (nd:row.Nodup)(c:Tk i m ks ks'){p w:Nat}(h:row[i]? = some (s,z,p))(hp:p<w):LH row ks' s z w=(LH row ks s z w).set p m:=by
 refine Fj λj=>?_;unfold LH;rw[P2,AL,AL,Ae,B3];by_cases e:p=j
 .subst e;rw[if_pos rfl,if_pos hp,EA hp];show some (ks'.getD (row.idxOf (s,z,p)) 2)=_;rw[ck nd h,c.1]
 .rw[if_neg e];rcases Fg j w with hj|hj
  .rw[EA hj];show some (ks'.getD (row.idxOf (s,z,j)) 2)=some (ks.getD (row.idxOf (s,z,j)) 2);rw[c.2 _ (nZ h λe2=>e (by cases e2;rfl))]
  .rw[BJ (by rw[B3];exact hj)];rfl
theorem sA {row:List (Str×Str×Nat)}{ks ks':List Int}{i:Nat}{m:Int}(c:Tk i m ks ks'){s z:Str}{p:Nat}(h:row[i]? = some (s,z,p)){s' z':Str}(ne:¬(s'=s/\z'=z))(w:Nat):LH row ks' s' z' w=LH row ks s' z' w:=by
 unfold LH;refine DS λj _=>?_;exact c.2 _ (nZ h λe2=>ne (by cases e2;exact⟨rfl,rfl⟩))
theorem ve (c:Tk i m ks ks')(h:row[i]? = some (s,z,p))(ne:s'≠s):HP row ks' E s'=HP row ks E s':=by
 unfold HP;refine DS λn _=>?_;rw[sA c h (λe=>ne e.1)]
theorem hZ {w:Nat}(nd:((E s).map (·.1)).Nodup)(h:(z,w)∈E s):DL (HP row ks E s) (.inr z)=some (Nm (LH row ks s z w)):=by
 refine aE ?_ (AB.mpr ⟨(z,w),h,rfl⟩);unfold HP;rw[CP];have e:EV ((λx:Cd×D=>x.1) ∘ λn:Str×Nat=>((.inr n.1:Cd),Nm (LH row ks s n.1 n.2))) (E s)=((E s).map (·.1)).map F0:=by rw[CP];rfl
 rw[e];unfold F7 at nd ⊢;rw[Db];exact nd.imp λhab e=>hab (F5 e)
theorem mh (rn:row.Nodup)(c:Tk i m ks ks'){p w:Nat}(h:row[i]? = some (s,z,p))(hp:p<w)(nd:((E s).map (·.1)).Nodup)(hz:(z,w)∈E s):Ih (HP row ks E s) (.inr z) (Nm ((LH row ks s z w).set p m))=HP row ks' E s:=by
 have hany:((HP row ks E s).any λkv=>decide (kv.1=.inr z))=true:=Fc.mpr ⟨_,AB.mpr ⟨(z,w),hz,rfl⟩,decide_eq_true rfl⟩;unfold Ih;rw[if_pos hany];unfold HP;rw[CP];refine DS λn hn=>?_;show(if (F0 n.1:Cd)=.inr z then _ else _)=_;by_cases e:n.1=z
 .have e2:n=(z,w):=by
   obtain⟨i1,h1⟩:=E7.mp hn;obtain⟨i2,h2⟩:=E7.mp hz;have g1:((E s).map (·.1))[i1]? = some z:=by rw[AL,h1,<- e];rfl
   have g2:((E s).map (·.1))[i2]? = some z:=by rw[AL,h2];rfl
   obtain⟨l1,f1⟩:=Au.mp g1;obtain⟨l2,f2⟩:=Au.mp g2;have:=(JB nd).mp (f1.trans f2.symm);subst this;exact Ba (h1.symm.trans h2)
  subst e2;rw[if_pos rfl,jc rn c h hp]
 .rw[if_neg (λe2=>e (F5 e2)),sA c h (λe2=>e e2.2)]
theorem c9 {C:Av}{M:Mp}{A:KA}{E:Str->List (Str×Nat)}{row:List (Str×Str×Nat)}{ms ks ks':List Int}{i:Nat}{m:Int}{so z:Str}{pl:Nat}(kn:FN C M A E row ms ks)(hs:Ld so)(c:Tk i m ks ks')(h:row[i]? = some (so,z,pl)):FN C (put M (A.at so) (.dic (HP row ks' E so))) A E row ms ks'/\Jq A M (put M (A.at so) (.dic (HP row ks' E so))):=by
 have Q9:=kn.s so hs
 have n1:∀{x:Av} {o:MO},M x=some o->(∀AQ,o≠.dic AQ)->x≠A.at so:=λ{x o} hx hn e=>by
  rw[e,Q9]at hx;cases hx;exact hn _ rfl
 have nd:A.d≠A.at so:=λe=>by
  have hd:=kn.d;rw[e,Q9]at hd;have e2:HP row ks E so=Jl A:=by injection hd with h;injection h
  unfold HP Jl at e2;cases hE:E so with
  |nil=>rw[hE]at e2;cases e2
  |cons n r=>rw[hE,AM]at e2;have e3:=congrArg LB (Py e2).1;unfold Nm at e3;cases e3
 refine⟨⟨by rw[DY (n1 kn.o (λ_ e=>nomatch e))];exact kn.o,by rw[DY (n1 kn.q (λ_ e=>nomatch e))];exact kn.q,by rw[DY (n1 kn.m (λ_ e=>nomatch e))];exact kn.m,by rw[DY nd];exact kn.d,λs' h'=>?_,kn.nd,kn.qm⟩,λx hx=>?_⟩
 .by_cases e:s'=so
  .subst e;rw[DN]
  .rw[DY (λe2=>e (nQ kn.nd h' hs e2)),kn.s s' h',ve c h e]
 .exact DY λe=>hx (e ▸ gD A so)
theorem oB {C:Av}{M:Mp}{A:KA}{E:Str->List (Str×Nat)}{row:List (Str×Str×Nat)}{ms ks:List Int}(kn:FN C M A E row ms ks)(ms':List Int):FN C (put M A.m (.lst (ms'.map D.int))) A E row ms' ks/\Jq A M (put M A.m (.lst (ms'.map D.int))):=by
 have no:A.o≠A.m:=λe=>by have h:=kn.o;rw[e,kn.m]at h;cases h
 have nd:A.d≠A.m:=λe=>by have h:=kn.d;rw[e,kn.m]at h;cases h
 have ns:∀s,Ld s->A.at s≠A.m:=λs hs e=>by have h:=kn.s s hs;rw[e,kn.m]at h;cases h
 refine⟨⟨by rw[DY no];exact kn.o,by rw[DY kn.qm];exact kn.q,DN,by rw[DY nd];exact kn.d,λs hs=>by rw[DY (ns s hs)];exact kn.s s hs,kn.nd,kn.qm⟩,λx hx=>DY λe=>hx (by rw[e];exact AA)⟩
theorem sL (ks:List Int)(m:Int):Tk ks.length m ks (ks++[m]):=by
 refine⟨by rw[Cg,C7 (AJ _),Jx];rfl,λj hj=>?_⟩;rw[Cg,Cg];rcases Fg j ks.length with h|h
 .rw[Es h]
 .rw[BJ (by rw[Ao];show ks.length+1<=j;ext),BJ h]
theorem xc (ks:List Int)(m:Int):Tk ks.length 2 (ks++[m]) ks:=by
 refine⟨by rw[Cg,BJ (AJ _)];rfl,λj hj=>((sL ks m).2 j hj).symm⟩
theorem Me {A:KA}{m:Str}(h1:(m == ("row":Str))=false)(h2:(m == ("marks":Str))=false)(h3:(m == ("spans":Str))=false):BS m (Nq A)=none:=by
 unfold Nq;rw[Bu,h1,Bu,h2,Bu,h3,List.lookup_nil]
theorem QZ {M:Mp}{p:Av}{xs:List D}(h:M p=some (.lst xs)):IJ M (.ref p)=some xs:=by simp[IJ,Bo,h]
noncomputable def Nn (s:Str)(acc:List (Str×Nat))(b:Str×Str×Nat):List (Str×Nat):=if b.1=s/\b.2.1∉acc.map (·.1)then acc++[(b.2.1,b.2.2+1)]else acc
noncomputable def Hk (row:List (Str×Str×Nat))(s:Str):List (Str×Nat):=row.foldl (Nn s) []
abbrev ZcH (C:Av)(ds:List D)(M:Mp)(Q:Eb):Prop:=Fq ds λx y=>∃(M0:Mp) (o q:Av) (E:Str->List (Str×Nat)) (row:List (Str×Str×Nat)),x=.ref o/\y=.ref q/\M=put M0 o (.obj C [])/\M0 o=none/\M0 q=some (.lst (row.map bD))/\Nt E row/\(∀s,Ld s->E s=Hk row s)/\∀M' (A:KA),A.o=o->A.q=q->FN C M' A E row [] []->(∀p∈[A.m,A.b,A.e,A.f,A.g],M0 p=none)->(∀p u,M0 p=some u->M' p=some u)->Q .non M'
theorem FN.dne (kn:FN C M A E row ms ks){s:Str}(hs:Ld s):A.d≠A.at s:=λe=>by
 have hd:=kn.d;rw[e,kn.s s hs]at hd;have e2:HP row ks E s=Jl A:=by injection hd with h;injection h
 unfold HP Jl at e2;cases hE:E s with
 |nil=>rw[hE]at e2;cases e2
 |cons n r=>rw[hE,AM]at e2;have e3:=congrArg LB (Py e2).1;unfold Nm at e3;cases e3
theorem xS {C:Av}{M:Mp}{A:KA}{E E':Str->List (Str×Nat)}{row:List (Str×Str×Nat)}{ms ks:List Int}{so:Str}(kn:FN C M A E row ms ks)(hs:Ld so)(h:∀s,s≠so->E' s=E s):FN C (L3.put M (A.at so) (.dic (HP row ks E' so))) A E' row ms ks:=by
 have Q9:=kn.s so hs
 have n1:∀{x:Av} {o:MO},M x=some o->(∀AQ,o≠.dic AQ)->x≠A.at so:=λ{x o} hx hn e=>by
  rw[e,Q9]at hx;cases hx;exact hn _ rfl
 refine⟨by rw[DY (n1 kn.o (λ_ e=>nomatch e))];exact kn.o,by rw[DY (n1 kn.q (λ_ e=>nomatch e))];exact kn.q,by rw[DY (n1 kn.m (λ_ e=>nomatch e))];exact kn.m,by rw[DY (kn.dne hs)];exact kn.d,λs' h'=>?_,kn.nd,kn.qm⟩;by_cases e:s'=so
 .subst e;rw[DN]
 .rw[DY (λe2=>e (nQ kn.nd h' hs e2)),kn.s s' h'];unfold HP;rw[h s' e]
theorem mO {C:Av}{M:Mp}{A:KA}{E E':Str->List (Str×Nat)}{row:List (Str×Str×Nat)}{ms ks:List Int}(kn:FN C M A E row ms ks)(h:∀s,Ld s->E' s=E s):FN C M A E' row ms ks:=⟨kn.o,kn.q,kn.m,kn.d,λs hs=>by rw[kn.s s hs];unfold HP;rw[h s hs],kn.nd,kn.qm⟩
theorem jd (row:List (Str×Str×Nat))(s z:Str)(w:Nat):LH row [] s z w=AE w 2:=by
 unfold LH;rw[List.eq_replicate_iff,Ae,B3];refine⟨rfl,λm hm=>?_⟩;obtain⟨j,-,rfl⟩:=AB.mp hm;rfl
theorem qK (s:Str):∀(l:List (Str×Str×Nat)) (acc:List (Str×Nat)),(l.foldl (Nn s) acc).length<=acc.length+l.length
 |[],acc=>AJ _
 |b::l,acc=>by
  refine AY (qK s l (Nn s acc b)) ?_
  have:(Nn s acc b).length<=acc.length+1:=by
   unfold Nn;split
   .rw[Ao];exact AJ _
   .ext
  rw[AO];ext
theorem o5 {row:List (Str×Str×Nat)}{i:Nat}{b:Str×Str×Nat}(h:row[i]? = some b)(s:Str):Hk (row.take (i+1)) s=Nn s (Hk (row.take i) s) b:=by
 unfold Hk;rw[A3,h,JW];rfl
theorem qP :DL (HP row ks E s) (.inr z)=none↔z∉(E s).map (·.1):=by
 unfold DL HP;rw[Ms,Jt];constructor
 .intro h hz;obtain⟨n,hn,rfl⟩:=AB.mp hz;exact h _ (AB.mpr ⟨n,hn,rfl⟩) (decide_eq_true rfl)
 .intro h kv hkv c;obtain⟨n,hn,rfl⟩:=AB.mp hkv;exact h (AB.mpr ⟨n,hn,F5 (of_decide_eq_true c)⟩)
theorem zL {row:List (Str×Str×Nat)}{E E':Str->List (Str×Nat)}{s z:Str}{p:Nat}(h:z∉(E s).map (·.1))(e:E' s=E s++[(z,p)]):Ih (HP row [] E s) (.inr z) (Nm (AE p 2))=HP row [] E' s:=by
 have hn:¬((HP row [] E s).any λkv=>decide (kv.1=.inr z))=true:=λc=>by
  obtain⟨kv,hkv,ek⟩:=Fc.mp c;obtain⟨n,hn,rfl⟩:=AB.mp hkv;exact h (AB.mpr ⟨n,hn,F5 (of_decide_eq_true ek)⟩)
 unfold Ih;rw[if_neg hn];unfold HP;rw[e,AI,AM,CY,jd]
theorem dj (x y:D):putO (Ak "marks") x (putO (Ak "row") y [])=([("row",y),("marks",x)]:List (Str×D)):=by
 simp only[putO,show¬(Ak "row" = Ak "marks") by nofun,if_false]
theorem iu (x y z:D):putO (Ak "spans") z ([("row",y),("marks",x)]:List (Str×D))=([("row",y),("marks",x),("spans",z)]:List (Str×D)):=by
 simp only[putO,show¬(("row":Str)=Ak "spans") by nofun,show¬(("marks":Str)=Ak "spans") by nofun,if_false]
theorem eX {M:Mp}{p:Av}{xs:List D}(h:M p=some (.lst xs)):Bo M (.ref p)=some xs:=by simp[Bo,h]
theorem Jv {M:Mp}{p x:Av}{u:MO}(hp:M p=none)(hx:M x=some u):x≠p:=λe=>by rw[e,hp]at hx;cases hx
section
theorem ZcL:Om T T.x49 3 (ZcH T.C_Known):=by
 refine CM.p2 T.x49.d.F ["self", "row", "sort", "name", "place"] λx y M Q hr nN h=>?_;obtain⟨M0,o,rq,E,row,e1',e2',e3',m0,mq,kr,he,q⟩:_:=h;refine⟨_,(qC (gK T.cl_Known T.na_Known_row (qv 0) (qv 1)) (qC (gK T.cl_Known T.na_Known_marks (qv 0) (KQ qN)) (qC (gK T.cl_Known T.na_Known_spans (qv 0) (T8 Bn J0 Bn J0 Bn J0 Bn J0)) (qO (MC AS rfl (PJ (qv 1)) (Us (is:=[2,3,4]) rfl (Ko (JM (i:=2) nN rfl (BH rfl)) (Ko (JM (i:=3) nN rfl (BH rfl)) (Ko (JM (i:=4) nN rfl (BH rfl)) Rb)))) (qO (E2 (eS (Gz (Ly hr) (GU T.cl_Known T.na_Known_spans (qv 0)) (qv 2) (λ_ _=>rfl)) (qA (qv 3) (qA (As T.x21.d (Zdy T) nofun (qA (BE GN (qv 4) Ai) qN)) qN)))))))))),?_⟩;right;rw[DN,Hl,R7];refine⟨by decide,λm hm=>?_⟩;have nm:m≠o:=λe=>by rw[e,DN]at hm;cases hm
 rw[DY nm]at hm;rw[DY (Bg nm),DN,Hl];refine⟨Hb (by decide),?_⟩;rw[nr];have no:rq≠o:=Jv m0 mq;have nq:rq≠m:=Jv hm mq
 have f1:∀x u,M0 x=some u->put (put (put M0 o (MO.obj T.C_Known (putO (Ak "row") (D.ref rq) []))) m (MO.lst [])) o (MO.obj T.C_Known (putO (Ak "marks") (D.ref m) (putO (Ak "row") (D.ref rq) []))) x=some u:=λx u h=>by
  rw[DY (Jv m0 h),DY (Jv hm h),DY (Jv m0 h)];exact h
 have f2:put (put (put M0 o (MO.obj T.C_Known (putO (Ak "row") (D.ref rq) []))) m (MO.lst [])) o (MO.obj T.C_Known (putO (Ak "marks") (D.ref m) (putO (Ak "row") (D.ref rq) []))) o=_:=DN;have f3:put (put (put M0 o (MO.obj T.C_Known (putO (Ak "row") (D.ref rq) []))) m (MO.lst [])) o (MO.obj T.C_Known (putO (Ak "marks") (D.ref m) (putO (Ak "row") (D.ref rq) []))) m=some (.lst []):=by rw[DY nm,DN]
 generalize put (put (put M0 o (MO.obj T.C_Known (putO (Ak "row") (D.ref rq) []))) m (MO.lst [])) o (MO.obj T.C_Known (putO (Ak "marks") (D.ref m) (putO (Ak "row") (D.ref rq) [])))=M1 at f1 f2 f3 ⊢;intro d hd;grind;intro b hb e he1 f hf g hg;have s1:Sub M1 (put M1 d (.dic [])):=Sub.put hd;have s2:Sub _ (put (put M1 d (.dic [])) b (.dic [])):=Sub.put hb;have s3:Sub _ (put (put (put M1 d (.dic [])) b (.dic [])) e (.dic [])):=Sub.put he1;have s4:Sub _ (put (put (put (put M1 d (.dic [])) b (.dic [])) e (.dic [])) f (.dic [])):=Sub.put hf;have s5:Sub _ (put (put (put (put (put M1 d (.dic [])) b (.dic [])) e (.dic [])) f (.dic [])) g (.dic [])):=Sub.put hg;have s15:=s1.trans (s2.trans (s3.trans (s4.trans s5)));have kd:=s2.trans (s3.trans (s4.trans s5)) d _ DN;have kb:=s3.trans (s4.trans s5) b _ DN;have ke:=s4.trans s5 e _ DN;have kf:=s5 f _ DN;have kg:put (put (put (put (put M1 d (.dic [])) b (.dic [])) e (.dic [])) f (.dic [])) g (.dic []) g=some (.dic []):=DN;have n1:b≠e:=Jv he1 DN;have n2:b≠f:=Jv hf (s3 b _ DN);have n3:b≠g:=Jv hg (s3.trans s4 b _ DN);have n4:e≠f:=Jv hf DN;have n5:e≠g:=Jv hg (s4 e _ DN);have n6:f≠g:=Jv hg DN;have d1:d≠b:=Jv hb DN;have d2:d≠e:=Jv he1 (s2 d _ DN);have d3:d≠f:=Jv hf (s2.trans s3 d _ DN);have d4:d≠g:=Jv hg (s2.trans (s3.trans s4) d _ DN)
 have nn:∀{N:Mp} {x:Av},Sub M1 N->N x=none->M0 x=none:=λ{N x} s h=>by
  cases h2:M0 x with
  |none=>rfl
  |some u=>rw[s x u (f1 x u h2)]at h;cases h
 have dn:=nn (Sub.refl M1) hd;have bn:=nn s1 hb;have en:=nn (s1.trans s2) he1;have fn:=nn (s1.trans (s2.trans s3)) hf;have gn:=nn (s1.trans (s2.trans (s3.trans s4))) hg;clear nn;have f1:=λx u h=>s15 x u (f1 x u h);have f2:=s15 _ _ f2;have f3:=s15 _ _ f3;clear hd hb he1 hf hg s1 s2 s3 s4 s5 s15;generalize put (put (put (put (put M1 d (.dic [])) b (.dic [])) e (.dic [])) f (.dic [])) g (.dic [])=M8 at *;refine⟨kd,by nofun,?_⟩;have od:o≠d:=λh=>by rw[h,kd]at f2;cases f2
 have mne:∀{x},M8 x=some (.dic [])->m≠x:=λ{x} h h2=>by rw[<- h2,f3]at h;cases h
 have one:∀{x},M8 x=some (.dic [])->x≠o:=λ{x} h h2=>by rw[h2,f2]at h;cases h
 have rqv:=f1 rq _ mq;have qne:∀{x},M8 x=some (.dic [])->rq≠x:=λ{x} h h2=>by rw[<- h2,rqv]at h;cases h
 rw[DY od,f2,Hl,dj,iu];refine⟨Hb (Hb (by decide)),?_⟩
 have kn0:FN T.C_Known (put (put M8 d (.dic (Jl ⟨o,rq,m,d,b,e,f,g⟩))) o (.obj T.C_Known (Nq ⟨o,rq,m,d,b,e,f,g⟩))) ⟨o,rq,m,d,b,e,f,g⟩ (Hk (row.take 0)) row [] []:=by
  refine⟨DN,by rw[DY no,DY (qne kd)];exact rqv,by rw[DY nm,DY (mne kd)];exact f3,by rw[DY (Bg od),DN],λs hs=>?_,by simp only[DH,Bx,AX,or_false,not_or];exact⟨⟨n1,n2,n3⟩,⟨n4,n5⟩,n6,λh=>h,JQ⟩,nq⟩;rcases hs with rfl|rfl|rfl|rfl
  .rw[Up,DY (one kb),DY (Bg d1)];exact kb
  .rw[UA,DY (one ke),DY (Bg d2)];exact ke
  .rw[Uq,DY (one kf),DY (Bg d3)];exact kf
  .rw[UF,DY (one kg),DY (Bg d4)];exact kg
 have f9:∀x u,M0 x=some u->put (put M8 d (.dic (Jl ⟨o,rq,m,d,b,e,f,g⟩))) o (.obj T.C_Known (Nq ⟨o,rq,m,d,b,e,f,g⟩)) x=some u:=λx u h=>by
  rw[DY (Jv m0 h),DY (Jv dn h)];exact f1 x u h
 change CH (Bo (put (put M8 d (.dic (Jl ⟨o,rq,m,d,b,e,f,g⟩))) o (.obj T.C_Known (Nq ⟨o,rq,m,d,b,e,f,g⟩))) (.ref rq)) λxs=>UV xs _ _ _ _ _ (put (put M8 d (.dic (Jl ⟨o,rq,m,d,b,e,f,g⟩))) o (.obj T.C_Known (Nq ⟨o,rq,m,d,b,e,f,g⟩)));generalize put (put M8 d (.dic (Jl ⟨o,rq,m,d,b,e,f,g⟩))) o (.obj T.C_Known (Nq ⟨o,rq,m,d,b,e,f,g⟩))=M9 at kn0 f9 ⊢;replace q:=λM'=>q M' ⟨o,rq,m,d,b,e,f,g⟩ rfl rfl;obtain⟨A,ea⟩:∃A:KA,A=⟨o,rq,m,d,b,e,f,g⟩:=⟨_,rfl⟩;rw[<- ea]at kn0 q
 have an:∀s,M0 (A.at s)=none:=λs=>by
  rw[ea];unfold KA.at
  split
  .exact bn
  .split
   .exact en
   .split
    .exact fn
    .exact gn
 have fz:∀p∈[A.m,A.b,A.e,A.f,A.g],M0 p=none:=by
  rw[ea];intro p hp;simp only[Bx,AX,or_false]at hp;rcases hp with rfl|rfl|rfl|rfl|rfl
  .exact hm
  .exact bn
  .exact en
  .exact fn
  .exact gn
 have eo:o=A.o:=by rw[ea]
 have eq:rq=A.q:=by rw[ea]
 rw[eo,eq];rw[eX kn0.q,Cn];refine⟨λi τ M'=>(FN T.C_Known M' A (Hk (row.take i)) row [] []/\∀x u,M0 x=some u->M' x=some u)/\∃x y z,τ=[some (.ref A.o),some (.ref A.q),x,y,z],⟨⟨kn0,f9⟩,_,_,_,rfl⟩,λi τ M' h=>eX h.1.1.q,?_,?_⟩
 .intro i x τ M' hx;ext1⟨⟨kn,fr⟩,u1,u2,u3,e1'⟩;rw[AL]at hx;obtain⟨bt,hbt,rfl⟩:=EN.mp hx;obtain⟨so,z,pl⟩:=bt;obtain⟨hs,wd,hw,hp⟩:=kr.k _ (AG hbt);unfold bD;grind;rw[kn.o,Hl,Yu,Cn,Q8 kn.d,Cn,VC hs,Cn,Tc,kn.s so hs,Uu];have hw2:=((kr.e so).2.2 _ hw).2;change wd<=64 at hw2;change pl<wd at hp;refine⟨⟨by ext,by ext⟩,?_⟩;rw[show((pl:Int)+1).toNat=pl+1 by ext];unfold L4;rw[Tc,mV];grind;rw[kn.s so hs,Uu];have en1:=λs=>o5 hbt s;refine⟨?_,λdd hdd=>?_,λhnn=>?_⟩
  .have l1:=qK so (row.take i) [];rw[AW]at l1;have l2:=kr.l;unfold HP Hk;rw[Ae];refine Fh (m:=5000) ?_ (by decide);change _<=0+_ at l1;ext
  .refine⟨⟨mO kn λs _=>?_,fr⟩,_,_,_,rfl⟩;rw[en1];unfold Nn;rw[if_neg];rintro⟨c1,c2⟩;change so=s at c1;subst c1;rw[qP.mpr c2]at hdd;cases hdd
  .have hz:=qP.mp hnn;rw[zL (E':=Hk (row.take (i+1))) hz (by rw[en1];unfold Nn;rw[if_pos ⟨rfl,hz⟩])];refine⟨⟨xS kn hs λs c=>?_,λx u h=>?_⟩,_,_,_,rfl⟩
   .rw[en1];unfold Nn;rw[if_neg (λc2=>c c2.1.symm)]
   .rw[DY (Jv (an so) h)];exact fr x u h
 .intro τ M';ext1⟨⟨kn,fr⟩,u1,u2,u3,e1'⟩;rw[Ae,Bw]at kn;exact Dn.of (q M' (mO kn he) fz fr)
end
abbrev z9 (C:Av)(ds:List D)(M:Mp)(Q:Eb):Prop:=Kw ds λx y z=>∃(A:KA) (E:Str->List (Str×Nat)) (row:List (Str×Str×Nat)) (ms ks ks':List Int) (i:Nat) (m:Int),x=.ref A.o/\y=.int i/\z=.int m/\Nt E row/\FN C M A E row ms ks/\i<row.length/\Mk m/\LA ks/\Tk i m ks ks'/\∀M',FN C M' A E row ms ks'->Jq A M M'->Q .non M'
section
theorem vF:Om T T.x55 2 (z9 T.C_Known):=by
 refine CM.p3 T.x55.d.F ["self", "number", "mark", "bit", "named"] λx y z M Q hr nN h=>?_;obtain⟨A,E,row,ms,ks,ks',i,m,e1',e2',e3',kr,kn,hi,hm,hk,hc,q⟩:_:=h;have hb:row[i]? = some row[i]:=Ag hi;generalize row[i]=b at hb;obtain⟨so,z,pl⟩:=b;obtain⟨hs4,wd,hz,hpl⟩:=kr.k _ (AG hb);have hb2:GY (row.map bD) (i:Int)=some (bD (so,z,pl)):=Oc (by rw[AL,hb];rfl);obtain⟨en,el,ew⟩:=kr.e so;refine⟨_,(qC (CA 3 nN (Bc E1 (GU T.cl_Known T.na_Known_row (qv 0)) (qv 1))) (qC (CA 4 nN (Gz (Ly hr) (GU T.cl_Known T.na_Known_spans (qv 0)) (Bc BA (qv 3) Ai) (λ_ _=>rfl))) (qO (VH (Ly hr) (qv 4) (Bc BA (qv 3) Ai) (As T.x22.d (z5 T) nofun (qA (Gz (Ly hr) (qv 4) (Bc BA (qv 3) Ai) (λ_ _=>rfl)) (qA (Bc BA (qv 3) Ai) (qA (qv 2) qN)))) rfl)))),?_⟩
 have s64:YD (LH row ks so z wd):=by
  refine⟨λv hv=>?_,by rw[ZI];exact(ew _ hz).1,by rw[ZI];exact(ew _ hz).2⟩;obtain⟨j,_,rfl⟩:=AB.mp hv;rw[Cg];cases e:ks[row.idxOf (so,z,j)]? with
  |none=>exact .inr (.inr rfl)
  |some v=>exact hk v (AG e)
 obtain⟨w1,w2⟩:=c9 (m:=m) kn hs4 hc hb;rw[<- mh kr.nd hc hb hpl en hz]at w1 w2;right;rw[kn.o,Hl,oF,Cn,OH kn.q,Cn,hb2,Cn,Hl,Yu,Cn];simp only[bD];grind;rw[Q8 kn.d,Cn,VC hs4,Cn]
 (try grind)
 rw[Q8 (kn.s so hs4),Cn,hZ en hz,Cn]
 (try grind)
 refine⟨_,pl,m,rfl,rfl,rfl,s64,by rw[ZI];exact hpl,hm,?_⟩
 (try grind)
 rw[kn.s so hs4];exact⟨B5 (by unfold HP;rw[Ae];ext),Dn.of (q _ w1 w2)⟩
end
theorem nP {M:Mp}{p:Av}{xs:List D}{y:D}{Q:Eb}(h:M p=some (.lst xs)):Jn (.ref p) [y] M Q=(xs.length<Am/\Q .non (put M p (.lst (xs++[y])))):=by
 unfold Jn;rw[Tc,gB,h]
abbrev Zed (C:Av)(ds:List D)(M:Mp)(Q:Eb):Prop:=Fq ds λx z=>∃(A:KA) (E:Str->List (Str×Nat)) (row:List (Str×Str×Nat)) (ms:List Int) (m:Int),x=.ref A.o/\z=.int m/\Nt E row/\FN C M A E row ms ms/\ms.length<row.length/\Mk m/\LA ms/\∀M',FN C M' A E row (ms++[m]) (ms++[m])->Jq A M M'->Q .non M'
section
theorem wB:Om T T.x50 3 (Zed T.C_Known):=by
 refine CM.p2 T.x50.d.F ["self", "mark"] λx z M Q hr nN h=>?_;obtain⟨A,E,row,ms,m,e1',e2',kr,kn,hl,hm,hk,q⟩:_:=h;refine⟨_,(qC (E2 (E9 T.cl_Known T.x55.d (vF T) nofun (qv 0) (qA (BW Kb T.B.len BP (qA (GU T.cl_Known T.na_Known_marks (qv 0)) qN)) (qA (qv 1) qN)))) (qO (E2 (L7 AZ Br Bq Rh (GU T.cl_Known T.na_Known_marks (qv 0)) (qA (qv 1) qN))))),?_⟩;right;rw[kn.o,Hl];refine⟨Me (by nofun) (by nofun) (by nofun),?_⟩;rw[Hl,QG,Cn,QZ kn.m,Cn];refine⟨A,E,row,ms,ms,ms++[m],ms.length,m,rfl,by rw[Ae],rfl,kr,kn,hl,hm,hk,sL ms m,λM' kn' ko=>?_⟩;rw[kn'.o,Hl,QG,Cn,nP kn'.m];obtain⟨a,b⟩:=oB kn' (ms++[m]);rw[AI]at a b;have h5:=kr.l;have:(6000:Nat)<=Am:=by decide
 exact⟨LZ kn'.m,by rw[Ae];ext,Dn.of (q _ a (ko.trans b))⟩
end
abbrev Zdn (C:Av)(ds:List D)(M:Mp)(Q:Eb):Prop:=GJ ds λx=>∃(A:KA) (E:Str->List (Str×Nat)) (row:List (Str×Str×Nat)) (ms:List Int) (m:Int),x=.ref A.o/\Nt E row/\FN C M A E row (ms++[m]) (ms++[m])/\ms.length<row.length/\LA (ms++[m])/\∀M',FN C M' A E row ms ms->Jq A M M'->Q .non M'
section
theorem jY:Om T T.x51 3 (Zdn T.C_Known):=by
 refine CM.p1 T.x51.d.F ["self"] λx M Q hr nN h=>?_;obtain⟨A,E,row,ms,m,e1',kr,kn,hl,hk,q⟩:_:=h;refine⟨_,(qC (E2 (RK AZ PySem.F.slot_list_pop PySem.F.type_list_pop di (GU T.cl_Known T.na_Known_marks (qv 0)))) (qO (E2 (E9 T.cl_Known T.x55.d (vF T) nofun (qv 0) (qA (BW Kb T.B.len BP (qA (GU T.cl_Known T.na_Known_marks (qv 0)) qN)) (qA Ai qN)))))),?_⟩;right;rw[kn.o,Hl,QG,Cn,fq,kn.m];refine⟨LZ kn.m,ms.map D.int,.int m,by rw[AI];rfl,?_⟩;obtain⟨a,b⟩:=oB kn ms;rw[a.o,Hl];refine⟨Me (by nofun) (by nofun) (by nofun),?_⟩;rw[Hl,QG,Cn,QZ a.m,Cn];exact⟨A,E,row,ms,ms++[m],ms,ms.length,2,rfl,by rw[Ae],rfl,kr,a,hl,.inr (.inr rfl),hk,xc ms m,λM' kn' ko=>Dn.of (q M' kn' (b.trans ko))⟩
end
noncomputable def HF (n:Nat)(ms:List Int):List Int:=(ms++AE (n-ms.length) 0).take n
theorem Yt {a b:List Int}(ha:LA a)(hb:LA b):LA (a++b):=λm hm=>(AH.mp hm).elim (ha m) (hb m)
theorem iG (n:Nat):LA (AE n 0):=λm hm=>.inl (EC hm)
theorem sB {a:List Int}(h:LA a)(n:Nat):LA (a.take n):=λm hm=>h m (Ov hm)
theorem ZR (h:LA ms)(n):LA (HF n ms):=sB (Yt h (iG _)) n
theorem Yr (n)(ms):(HF n ms).length=n:=by
 unfold HF;rw[AW,Ao,Ca];ext
abbrev Ρ (C:Av)(ds:List D)(M:Mp)(Q:Eb):Prop:=Fq ds λx y=>∃(A:KA) (E:Str->List (Str×Nat)) (row:List (Str×Str×Nat)) (ms:List Int) (n:Nat),x=.ref A.o/\y=.int n/\Nt E row/\FN C M A E row ms ms/\LA ms/\n<=row.length/\ms.length<=row.length/\∀M',FN C M' A E row (HF n ms) (HF n ms)->Jq A M M'->Q .non M'
section
theorem vG:Om T T.x52 4 (Ρ T.C_Known):=by
 refine CM.p2 T.x52.d.F ["self", "many"] λx z M Q hr nN h=>?_;obtain⟨A,E,row,ms,n,e1',e2',kr,kn,hk,hn,hl,q⟩:_:=h;refine⟨_,(Ec (VR AS (AV Lx (BW Kb T.B.len BP (qA (GU T.cl_Known T.na_Known_marks (qv 0)) qN)) (qv 1)) (qO (E2 (E9 T.cl_Known T.x50.d (wB T) nofun (qv 0) (qA Ai qN))))) (qO (VR AS (AV JK (BW Kb T.B.len BP (qA (GU T.cl_Known T.na_Known_marks (qv 0)) qN)) (qv 1)) (qO (E2 (KP T.cl_Known T.x51.d (jY T) nofun (qv 0))))))),?_⟩
 (try simp only[Kj,Kh,Ki])
 refine⟨λτ M'=>(FN T.C_Known M' A E row (ms++AE (n-ms.length) 0) (ms++AE (n-ms.length) 0)/\Jq A M M')/\τ=[some (.ref A.o),some (.int n)],?_,?_⟩
 .refine⟨λk τ M'=>∃j,(k=n-(ms.length+j)/\j<=n-ms.length/\FN T.C_Known M' A E row (ms++AE j 0) (ms++AE j 0)/\Jq A M M')/\τ=[some (.ref A.o),some (.int n)],⟨_,0,⟨rfl,C9 _,by rw[I8,C1];exact kn,Jq.refl A M⟩,rfl⟩,?_⟩;intro k τ M' hI';refine Al λG' kk'=>?_;obtain⟨j,⟨e1',hj,kn',ko⟩,e2'⟩:=hI';refine kk' ?_;clear kk';subst e1' e2';grind;rw[kn'.o,Hl,QG,Cn,QZ kn'.m,Cn]
  (try grind)
  rw[Ca];refine Cv (λc=>?_) λc=>?_
  .refine⟨Me (by nofun) (by nofun) (by nofun),A,E,row,ms++AE j 0,0,rfl,rfl,kr,kn',by rw[Ao,Ca];ext,.inl rfl,Yt hk (iG j),λM2 k2 o2=>⟨n-(ms.length+(j+1)),by ext,j+1,rfl,by ext,?_,ko.trans o2⟩⟩;rw[Ot,<- Bm];exact k2
  .have e:j=n-ms.length:=by ext
   subst e;exact⟨kn',ko⟩
 rintro τ M' ⟨⟨kn',ko⟩,rfl⟩;have e1:(ms++AE (n-ms.length) 0).length=max n ms.length:=by rw[Ao,Ca];ext
 have hk1:LA (ms++AE (n-ms.length) 0):=Yt hk (iG _);unfold HF at q;generalize ms++AE (n-ms.length) 0=ms1 at kn' e1 hk1 q;refine⟨λk τ M2=>(n+k<=ms1.length/\FN T.C_Known M2 A E row (ms1.take (n+k)) (ms1.take (n+k))/\Jq A M' M2)/\τ=[some (.ref A.o),some (.int n)],⟨ms1.length-n,⟨by ext,by rw[CB (by ext)];exact kn',Jq.refl A M'⟩,rfl⟩,?_⟩;intro k τ M2 hI';refine Al λG' kk'=>?_;obtain⟨⟨hk2,kn2,ko2⟩,e1'⟩:=hI';refine kk' ?_;clear kk';subst e1';grind;rw[kn2.o,Hl,QG,Cn,QZ kn2.m,Cn]
 (try grind)
 rw[AW];refine Cv (λc=>?_) λc=>?_
 .obtain⟨k',rfl⟩:∃k',k=k'+1:=⟨k-1,by ext⟩;have hlt:n+k' < ms1.length:=by ext
  have e:ms1.take (n+(k'+1))=ms1.take (n+k')++[ms1[n+k']'hlt]:=JV hlt;have hm:=sB hk1 (n+(k'+1));rw[e]at kn2 hm;exact⟨Me (by nofun) (by nofun) (by nofun),A,E,row,ms1.take (n+k'),_,rfl,kr,kn2,by rw[AW];ext,hm,λM3 k3 o3=>⟨k',by ext,by ext,k3,ko2.trans o3⟩⟩
 .have e:k=0:=by ext
  subst e;exact Dn.of (q M2 kn2 (ko.trans ko2))
end
noncomputable def Zk (ms:List Int):Sn:=(ms.length,Lb ms,LJ ms)
noncomputable def Q7 (row:List (Str×Str×Nat))(ks:List Int)(E:Str->List (Str×Nat))(s x:Str):Sn:=((E s).lookup x).elim n0 λw=>Zk (LH row ks s x w)
noncomputable def Zq (row:List (Str×Str×Nat))(ks:List Int)(E:Str->List (Str×Nat))(so:Str):YE:=⟨Q7 row ks E "box",Q7 row ks E so,Q7 row ks E "door"⟩
noncomputable def gM (row:List (Str×Str×Nat))(ks:List Int)(E:Str->List (Str×Nat))(so:Str)(t:Tm):Int:=eW (t.rs (Zq row ks E so)).2.1 (t.rs (Zq row ks E so)).2.2
structure VY (E:Str->List (Str×Nat))(so:Str)(bs es:List (Str×Int))(t:Tm):Prop where
 w:Wd bs es t 1
 n:t.deep<=12
 b:∀x,Tm.box x∈t.leaves->∃w:Nat,bs.lookup x=some (w:Int)/\(x,w)∈E "box"
 l:∀x,Tm.late x∈t.leaves->∃w:Nat,bs.lookup x=some (w:Int)/\(x,w)∈E so
 d:∀x,Tm.door x∈t.leaves->∃w:Nat,es.lookup x=some (w:Int)/\(x,w)∈E "door"
theorem oE :∀{l:List (Str×α)},(l.map (·.1)).Nodup->(z,v)∈l->l.lookup z=some v
 |[],_,h=>nomatch h
 |p::l,nd,h=>by
  rw[AM,DH]at nd;rw[Bu];rcases AU.mp h with e|h
  .subst e;simp
  .have ne:z≠p.1:=λe=>nd.1 (e ▸ DR h);rw[show(z == p.1)=false by simpa using ne];exact oE nd.2 h
theorem df (kr:Nt E row)(ks:List Int){w:Nat}(h:(z,w)∈E s):Q7 row ks E s z=Zk (LH row ks s z w):=by
 unfold Q7;rw[oE (kr.e s).1 h];rfl
theorem zK {w:Nat}(h:ms.length=w)(h1:1<=w)(h2:w<=64):Rg (Zk ms)/\(Zk ms).1=w:=by
 have l1:=mQ ms;have l2:=mN ms;refine⟨⟨?_,⟨Te ms,?_⟩,⟨Td ms,?_⟩⟩,?_⟩
 .show(1:Int)<=ms.length/\(ms.length:Int)<=64;ext
 .show Lb ms<2^(ms.length:Int).toNat
  rw[BN];exact l1
 .show LJ ms<2^(ms.length:Int).toNat
  rw[BN];exact l2
 .show(ms.length:Int)=w;rw[h]
theorem VY.dt {E:Str->List (Str×Nat)}{row:List (Str×Str×Nat)}(kr:Nt E row)(g:VY E so bs es t):DT (HP row ks E "box") (HP row ks E so) (HP row ks E "door") bs es (Zq row ks E so) t:=by
 have go:∀{s x:Str} {w:Nat},(x,w)∈E s->(Rg (Q7 row ks E s x)/\(Q7 row ks E s x).1=w)/\DL (HP row ks E s) (.inr x)=some (G5 (Q7 row ks E s x)):=λ{s x w} h=>by
  have e:=(kr.e s).2.2 _ h;rw[df kr ks h];exact⟨zK (ZI ..) e.1 e.2,hZ (kr.e s).1 h⟩
 refine⟨λx hx=>?_,λx hx=>?_,λx hx=>?_⟩
 .obtain⟨w,h1,h2⟩:=g.b x hx;exact⟨_,h1,go h2⟩
 .obtain⟨w,h1,h2⟩:=g.l x hx;exact⟨_,h1,go h2⟩
 .obtain⟨w,h1,h2⟩:=g.d x hx;exact⟨_,h1,go h2⟩
abbrev Zc5 (C:Av)(ds:List D)(M:Mp)(Q:Eb):Prop:=Kw ds λx y z=>∃(A:KA) (E:Str->List (Str×Nat)) (row:List (Str×Str×Nat)) (ms:List Int) (t:Tm) (so:Str) (bs es:List (Str×Int)),x=.ref A.o/\y=t.D/\z=.str so/\Ld so/\Nt E row/\FN C M A E row ms ms/\LA ms/\VY E so bs es t/\Q (.int (gM row ms E so t)) M
section
theorem wI:Om T T.x58 19 (Zc5 T.C_Known):=by
 refine CM.p3 T.x58.d.F ["self", "guard", "sort"] λx y z M Q hr nN h=>?_;obtain⟨A,E,row,ms,t,so,bs,es,e1',e2',e3',hs,kr,kn,hk,gd,q⟩:_:=h;refine⟨_,(qO (Cw (Bc E1 (As T.x20.d (zb T) nofun (qA (As T.x23.d (tY T 12) nofun (qA (qv 1) (qA (BR (qA (Gz (Ly hr) (GU T.cl_Known T.na_Known_spans (qv 0)) Bn (λ_ _=>rfl)) (qA (Gz (Ly hr) (GU T.cl_Known T.na_Known_spans (qv 0)) (qv 2) (λ_ _=>rfl)) (qA (Gz (Ly hr) (GU T.cl_Known T.na_Known_spans (qv 0)) Bn (λ_ _=>rfl)) qN)))) qN))) qN)) Ai))),?_⟩;right;rw[kn.o,Hl,Yu,Cn,Q8 kn.d,Cn]
 (try grind)
 rw[VC (.inl rfl),Cn,Yu,Cn,Q8 kn.d,Cn,VC hs,Cn,Cn,Q8 kn.d,Cn,VC (.inr (.inl rfl)),Cn];have e1:=(fZ gd.w (gd.dt (ks:=ms) kr)).1
 (try grind)
 refine⟨_,_,_,_,_,_,bs,es,Zq row ms E so,rfl,⟨Q8 (kn.s "box" (.inl rfl)),Q8 (kn.s so hs),Q8 (kn.s "door" (.inr (.inl rfl)))⟩,gd.n,⟨1,gd.w⟩,gd.dt kr,_,rfl,e1.2,λp hp=>?_⟩;exact Ta (Sub.put hp) q
end
structure YJ (E:Str->List (Str×Nat))(bs es:List (Str×Int))(t u:Tm):Prop where
 a:VY E "one" bs es t
 b:VY E "other" bs es u
abbrev ZbZ (C:Av)(ds:List D)(M:Mp)(Q:Eb):Prop:=Fq ds λx y=>∃(A:KA) (E:Str->List (Str×Nat)) (row:List (Str×Str×Nat)) (ms:List Int) (t u:Tm) (bs es:List (Str×Int)),x=.ref A.o/\y=.tup [t.D,u.D]/\Nt E row/\FN C M A E row ms ms/\LA ms/\YJ E bs es t u/\Q (.tup [.int (gM row ms E "one" t),.int (gM row ms E "other" u)]) M
section
theorem wK:Om T T.x57 20 (ZbZ T.C_Known):=by
 refine CM.p2 T.x57.d.F ["self", "guards"] λx y M Q hr nN h=>?_;obtain⟨A,E,row,ms,t,u,bs,es,e1',e2',kr,kn,hk,gd,q⟩:_:=h;refine⟨_,(qO (Cw (BR (qA (E9 T.cl_Known T.x58.d (wI T) nofun (qv 0) (qA (Bc BA (qv 1) Ai) (qA Bn qN))) (qA (E9 T.cl_Known T.x58.d (wI T) nofun (qv 0) (qA (Bc BA (qv 1) Ai) (qA Bn qN))) qN))))),?_⟩;right;rw[kn.o,Hl];refine⟨Me (by nofun) (by nofun) (by nofun),A,E,row,ms,t, "one",bs,es,rfl,rfl,rfl,.inr (.inr (.inl rfl)),kr,kn,hk,gd.a,?_⟩
 (try grind)
 refine⟨Me (by nofun) (by nofun) (by nofun),A,E,row,ms,u, "other",bs,es,rfl,rfl,rfl,.inr (.inr (.inr rfl)),kr,kn,hk,gd.b,?_⟩
 (try grind)
 exact Dn.of q
end
noncomputable def QY (row:List (Str×Str×Nat))(E:Str->List (Str×Nat))(t u:Tm)(ms:List Int):Bool:=decide (gM row ms E "one" t=0\/gM row ms E "other" u=0\/(gM row ms E "one" t=1/\gM row ms E "other" u=1))
abbrev Zc4 (C:Av)(ds:List D)(M:Mp)(Q:Eb):Prop:=Kw ds λx n y=>∃(A:KA) (E:Str->List (Str×Nat)) (row:List (Str×Str×Nat)) (ms:List Int) (t u:Tm) (bs es:List (Str×Int)) (k:Nat),x=.ref A.o/\n=.int k/\y=.tup [t.D,u.D]/\Nt E row/\FN C M A E row ms ms/\LA ms/\YJ E bs es t u/\k<=row.length/\ms.length<=row.length/\∀M',FN C M' A E row (HF k ms) (HF k ms)->Jq A M M'->Q (.bl (QY row E t u (HF k ms))) M'
section
theorem wJ:Om T T.x54 21 (Zc4 T.C_Known):=by
 refine CM.p3 T.x54.d.F ["self", "many", "guards", "held"] λx n y M Q hr nN h=>?_;obtain⟨A,E,row,ms,t,u,bs,es,k,e1',e2',e3',kr,kn,hk,gd,h1,h2,q⟩:_:=h;refine⟨_,(qC (E2 (E9 T.cl_Known T.x52.d (vG T) nofun (qv 0) (qA (qv 1) qN))) (qC (CA 3 nN (E9 T.cl_Known T.x57.d (wK T) nofun (qv 0) (qA (qv 2) qN))) (qO (Cw (xB (NX XR Ai (qv 3) (by with_unfolding_all rfl)) (T7 (NX (fT (Uj hr)) (qv 3) (BR (qA Ai (qA Ai qN)))))))))),?_⟩;right;rw[kn.o,Hl];refine⟨Me (by nofun) (by nofun) (by nofun),A,E,row,ms,k,rfl,rfl,kr,kn,hk,h1,h2,λM' kn' ko=>?_⟩
 (try grind)
 rw[kn'.o,Hl];refine⟨Me (by nofun) (by nofun) (by nofun),A,E,row,_,t,u,bs,es,rfl,rfl,kr,kn',ZR hk k,gd,?_⟩
 (try grind)
 have z:=q M' kn' ko;unfold QY at z;refine Cv (λc=>?_) λc=>?_
 .rw[decide_eq_true (c.elim .inl λh=>.inr (.inl h))]at z;exact Dn.of z
 .rw[<- Bool.decide_and];rw[decide_eq_decide.mpr ⟨λh=>h.elim (λh=>absurd (.inl h) c) λh=>h.elim (λh=>absurd (.inr h) c) id,λh=>.inr (.inr h)⟩]at z;exact Dn.of z
end
theorem ZH (h:ms.length<=n):HF n ms=ms++AE (n-ms.length) 0:=by
 unfold HF;exact CB (by rw[Ao,Ca];ext)
theorem pz (ms:List Int):HF ms.length ms=ms:=by rw[ZH (AJ _),Jx,I8,C1]
theorem Yq {a b:Nat}{ms:List Int}(ha:ms.length<=a)(hb:ms.length<=b):HF b (HF a ms)=HF b ms:=by
 rw[ZH hb];unfold HF;have e:(ms++AE (a-ms.length) (0:Int)).take a=ms++AE (a-ms.length) 0:=ZH ha;rw[e,Ao,Ca,Bm,List.replicate_append_replicate,List.take_append,CB hb,List.take_replicate];congr 2
 ext
noncomputable def Vn (st:Nat->Bool)(b L:Nat):Nat->Nat->Nat->Nat×Nat
 |0,lo,hi=>(lo,hi)
 |f+1,lo,hi=>if st hi=true then(lo,hi)else Vn st b L f (hi+1) (min (b+2*(hi+1-b)) L)
noncomputable def Vr (st:Nat->Bool):Nat->Nat->Nat->Nat
 |0,_,hi=>hi
 |f+1,lo,hi=>if lo<hi then(if st ((lo+hi) / 2)=true then Vr st f lo ((lo+hi) / 2)else Vr st f ((lo+hi) / 2+1) hi)else hi
noncomputable def Zp (st:Nat->Bool)(b L:Nat):Nat:=Vr st (L+1) (Vn st b L (L+1) b b).1 (Vn st b L (L+1) b b).2
abbrev Zee (C:Av)(ds:List D)(M:Mp)(Q:Eb):Prop:=Fq ds λx y=>∃(A:KA) (E:Str->List (Str×Nat)) (row:List (Str×Str×Nat)) (ms:List Int) (t u:Tm) (bs es:List (Str×Int)) (st:Nat->Bool),x=.ref A.o/\y=.tup [t.D,u.D]/\Nt E row/\FN C M A E row ms ms/\LA ms/\YJ E bs es t u/\ms.length<=row.length/\(∀k,QY row E t u (HF k ms)=st k)/\st row.length=true/\∀M' N,Zp st ms.length row.length=N->ms.length<=N->N<=row.length->st N=true->FN C M' A E row (HF N ms) (HF N ms)->Jq A M M'->Q .non M'
section
theorem Zel:Om T T.x53 22 (Zee T.C_Known):=by
 refine CM.p2 T.x53.d.F ["self", "guards", "begin", "low", "high", "middle"] λx y M Q hr nN h=>?_;obtain⟨A,E,row,ms,t,u,bs,es,st,e1',e2',kr,kn,hk,gd,n1,hst,hL,q⟩:_:=h;have r5:=kr.l;refine⟨_,(qC (CA 2 nN (BW Kb T.B.len BP (qA (GU T.cl_Known T.na_Known_marks (qv 0)) qN))) (qC (CA 3 nN (qv 2)) (qC (CA 4 nN (qv 2)) (Ec (VR AS (LF (Ir (E9 T.cl_Known T.x54.d (wJ T) nofun (qv 0) (qA (qv 4) (qA (qv 1) qN))))) (qC (CA 3 nN (BE GN (qv 4) Ai)) (qO (CA 4 nN (BW (xO rfl) T.B.min boot_min (qA (BE GN (qv 2) (BE OK Ai (BE O9 (qv 3) (qv 2)))) (qA (BW Kb T.B.len BP (qA (GU T.cl_Known T.na_Known_row (qv 0)) qN)) qN))))))) (Ec (VR AS (AV Lx (qv 3) (qv 4)) (qC (CA 5 nN (BE OL (BE GN (qv 3) (qv 4)) Ai)) (qO (DD (Ir (E9 T.cl_Known T.x54.d (wJ T) nofun (qv 0) (qA (qv 5) (qA (qv 1) qN)))) (qO (CA 4 nN (qv 5))) (qO (CA 3 nN (BE GN (qv 5) Ai))))))) (qO (E2 (E9 T.cl_Known T.x52.d (vG T) nofun (qv 0) (qA (qv 4) qN))))))))),?_⟩;right;rw[kn.o,Hl,QG,Cn,QZ kn.m,Cn,Ae]
 (try grind)
 generalize hG:D.tup [t.D,u.D]=G;unfold Zp at q;generalize hP:Vn st ms.length row.length (row.length+1) ms.length ms.length=P0 at q;refine⟨λτ M'=>∃lo hi c:Nat,((ms.length<=lo/\lo<=hi/\hi<=row.length/\P0=(lo,hi)/\st hi=true)/\(ms.length<=c/\c<=row.length)/\FN T.C_Known M' A E row (HF c ms) (HF c ms)/\Jq A M M')/\τ=[some (.ref A.o),some G,some (.int ms.length),some (.int lo),some (.int hi),none],?_,?_⟩
 .refine⟨λk τ M'=>∃lo hi c:Nat,((ms.length<=lo/\lo<=hi/\hi<=row.length/\row.length-hi+1<=k/\Vn st ms.length row.length k lo hi=P0)/\(ms.length<=c/\c<=row.length)/\FN T.C_Known M' A E row (HF c ms) (HF c ms)/\Jq A M M')/\τ=[some (.ref A.o),some G,some (.int ms.length),some (.int lo),some (.int hi),none],⟨row.length+1,ms.length,ms.length,ms.length,⟨⟨AJ _,AJ _,n1,by ext,hP⟩,⟨AJ _,n1⟩,by rw[pz];exact kn,Jq.refl A M⟩,rfl⟩,?_⟩;intro k τ M' hI';refine Al λG' kk'=>?_;obtain⟨lo,hi,c,⟨⟨h1,h3,h4,hf,hu⟩,⟨c1,c2⟩,kn',ko⟩,e1'⟩:=hI';refine kk' ?_;clear kk';subst e1';obtain⟨k,rfl⟩:∃k',k=k'+1:=⟨k-1,by ext⟩;rw[Vn]at hu;grind;rw[kn'.o,Hl];subst hG;refine⟨Me (by nofun) (by nofun) (by nofun),A,E,row,_,t,u,bs,es,hi,rfl,rfl,rfl,kr,kn',ZR hk c,gd,h4,by rw[Yr];exact c2,λM2 k2 o2=>?_⟩;rw[Yq c1 (by ext)]at k2;rw[Yq c1 (by ext),hst];cases es0:st hi with
  |true=>
   rw[es0,if_pos rfl]at hu
   (try grind)
   exact⟨lo,hi,hi,⟨⟨h1,h3,h4,hu.symm,es0⟩,⟨by ext,h4⟩,k2,ko.trans o2⟩,rfl⟩
  |false=>
   rw[es0,if_neg Aj]at hu
   have hlt:hi<row.length:=by
    rcases Fg hi row.length with h|h
    .exact h
    .rw[show hi=row.length by ext,hL]at es0;cases es0
   (try grind)
   have ho:(min (ms.length+2*(hi+1-ms.length)) row.length:Nat)=(if (row.length:Int)<ms.length+2*(hi+1-ms.length)then(row.length:Int)else ms.length+2*(hi+1-ms.length)):=by
    split<;>ext
   refine⟨?_,?_⟩
   .exact .inl ⟨by ext,by ext⟩
   rw[k2.o,Hl,oF,Cn,QZ k2.q,Cn,Ae,<- ho];exact⟨k,by ext,hi+1,min (ms.length+2*(hi+1-ms.length)) row.length,hi,⟨⟨by ext,by ext,by ext,by ext,hu⟩,⟨by ext,h4⟩,k2,ko.trans o2⟩,rfl⟩
 intro τ M';ext1⟨lo,hi,c,⟨⟨h1,h3,h4,hp,hs⟩,⟨c1,c2⟩,kn',ko⟩,e1'⟩;subst hp;dsimp only at q;generalize hR:Vr st (row.length+1) lo hi=N at q;refine⟨λτ M'=>∃c:Nat,((ms.length<=c/\c<=row.length)/\FN T.C_Known M' A E row (HF c ms) (HF c ms)/\Jq A M M'/\ms.length<=N/\N<=row.length/\st N=true)/\∃x,τ=[some (.ref A.o),some G,some (.int ms.length),some (.int N),some (.int N),x],?_,?_⟩
 .refine⟨λk τ M'=>∃lo hi c:Nat,((ms.length<=lo/\lo<=hi/\hi<=row.length/\hi-lo+1<=k/\Vr st k lo hi=N/\st hi=true)/\(ms.length<=c/\c<=row.length)/\FN T.C_Known M' A E row (HF c ms) (HF c ms)/\Jq A M M')/\∃x,τ=[some (.ref A.o),some G,some (.int ms.length),some (.int lo),some (.int hi),x],⟨_,lo,hi,c,⟨⟨h1,h3,h4,by ext,hR,hs⟩,⟨c1,c2⟩,kn',ko⟩,_,rfl⟩,?_⟩;clear hs hR hP c1 c2 kn' ko h1 h3 h4;intro k τ M';ext1⟨lo,hi,c,⟨⟨h1,h3,h4,hf,hu,hs⟩,⟨c1,c2⟩,kn',ko⟩,x,e1'⟩;obtain⟨k,rfl⟩:∃k',k=k'+1:=⟨k-1,by ext⟩;rw[Vr]at hu;grind;subst hG;refine Cv (λc=>?_) λc=>?_
  .have clt:lo<hi:=by ext
   rw[if_pos clt]at hu;have em:((lo:Int)+hi) / 2=((lo+hi) / 2:Nat):=by ext
   rw[em];refine⟨by unfold Sl;ext,?_⟩;rw[kn'.o,Hl];refine⟨Me (by nofun) (by nofun) (by nofun),A,E,row,_,t,u,bs,es,(lo+hi) / 2,rfl,rfl,rfl,kr,kn',ZR hk _,gd,by ext,by rw[Yr];exact c2,λM2 k2 o2=>?_⟩;rw[Yq c1 (by ext)]at k2;rw[Yq c1 (by ext),hst];cases es0:st ((lo+hi) / 2)with
   |true=>
    rw[es0,if_pos rfl]at hu
    (try grind)
    exact⟨k,by ext,lo,(lo+hi) / 2,(lo+hi) / 2,⟨⟨h1,by ext,by ext,by ext,hu,es0⟩,⟨by ext,by ext⟩,k2,ko.trans o2⟩,_,rfl⟩
   |false=>
    rw[es0,if_neg Aj]at hu
    (try grind)
    exact⟨k,by ext,(lo+hi) / 2+1,hi,(lo+hi) / 2,⟨⟨by ext,by ext,h4,by ext,hu,hs⟩,⟨by ext,by ext⟩,k2,ko.trans o2⟩,_,rfl⟩
  .have e:lo=hi:=by ext
   rw[if_neg (by ext)]at hu;subst hu;subst e;exact⟨_,⟨⟨c1,c2⟩,kn',ko,h1,h4,hs⟩,_,rfl⟩
 intro τ M2;ext1⟨c',⟨⟨c1',c2'⟩,kn2,ko2,N1,N2,sN⟩,x,e1'⟩;grind;rw[kn2.o,Hl];refine⟨Me (by nofun) (by nofun) (by nofun),A,E,row,_,N,rfl,rfl,kr,kn2,ZR hk _,N2,by rw[Yr];exact c2',λM3 k3 o3=>?_⟩;rw[Yq c1' N1]at k3;exact Dn.of (q M3 N rfl N1 N2 sN k3 (ko2.trans o3))
end
abbrev Τ (C:Av)(ds:List D)(M:Mp)(Q:Eb):Prop:=GJ ds λx=>∃(A:KA) (E:Str->List (Str×Nat)) (row:List (Str×Str×Nat)) (a:List Int) (k:Nat),x=.ref A.o/\Nt E row/\FN C M A E row (a++AE k 1) (a++AE k 1)/\LA a/\(a++AE k 1).length<=row.length/\((a=[]/\∀M',FN C M' A E row [] []->Jq A M M'->Q (.bl false) M')\/∃b,a=b++[0]/\∀M',FN C M' A E row (b++[1]) (b++[1])->Jq A M M'->Q (.bl true) M')
theorem qG (k:Nat):LA (AE k 1):=λm hm=>.inr (.inl (EC hm))
theorem lQ (xs:List Int)(m:Int):GY ((xs++[m]).map D.int) (-1)=some (.int m):=by
 rw[AI];exact qg _ _
section
theorem Δ:Om T T.x56 4 (Τ T.C_Known):=by
 refine CM.p1 T.x56.d.F ["self"] λx M Q hr nN h=>?_;obtain⟨A,E,row,a,k,e1',kr,kn,hk,hl,q⟩:_:=h;refine⟨_,(Ec (VR AS ((oR (AV JK (BW Kb T.B.len BP (qA (GU T.cl_Known T.na_Known_marks (qv 0)) qN)) Ai) (pV (AV Cm (Bc E1 (GU T.cl_Known T.na_Known_marks (qv 0)) (Q0 ZB Ai)) Ai)))).pt (qO (E2 (KP T.cl_Known T.x51.d (jY T) nofun (qv 0))))) (qC (DD (AV Cm (BW Kb T.B.len BP (qA (GU T.cl_Known T.na_Known_marks (qv 0)) qN)) Ai) (qO (Cw Vq)) qE) (qC (E2 (KP T.cl_Known T.x51.d (jY T) nofun (qv 0))) (qC (E2 (E9 T.cl_Known T.x50.d (wB T) nofun (qv 0) (qA Ai qN))) (qO (Cw Vq)))))),?_⟩
 (try simp only[Kj,Kh,Ki])
 refine⟨λτ M'=>(FN T.C_Known M' A E row a a/\Jq A M M')/\τ=[some (.ref A.o)],?_,?_⟩
 .refine⟨λj τ M'=>(j<=k/\FN T.C_Known M' A E row (a++AE j 1) (a++AE j 1)/\Jq A M M')/\τ=[some (.ref A.o)],⟨k,⟨AJ _,kn,Jq.refl A M⟩,rfl⟩,?_⟩;intro j τ M';ext1⟨⟨hj,kn',ko⟩,e1'⟩;grind;rw[kn'.o,Hl,QG,Cn,QZ kn'.m,Cn];rw[Ae];refine Cv (λc=>?_) λc=>?_
  .rw[Hl,QG,Cn,eX kn'.m,Cn];cases j with
   |zero=>
    rw[I8,C1]at c kn' ⊢;rcases q with⟨rfl,-⟩|⟨b,rfl,-⟩
    .exact absurd c (by simp)
    rw[lQ,Cn]
    (try grind)
    exact⟨kn',ko⟩
   |succ j=>
    rw[Ot,<- Bm]at c kn' ⊢;rw[lQ,Cn]
    (try grind)
    rw[kn'.o,Hl];exact⟨Me (by nofun) (by nofun) (by nofun),A,E,row,_,1,rfl,kr,kn',by rw[Ao,Ca]at hl ⊢;ext,Yt (Yt hk (qG j)) (qG 1),λM2 k2 o2=>⟨j,by ext,by ext,k2,ko.trans o2⟩⟩
  .have e:a++AE j 1=[]:=AC (by ext);rw[e]at kn';rw[(List.append_eq_nil_iff.mp e).1];exact⟨kn',ko⟩
 rintro τ M' ⟨⟨kn',ko⟩,rfl⟩;grind;rw[kn'.o,Hl,QG,Cn,QZ kn'.m,Cn]
 (try grind)
 rcases q with⟨rfl,q⟩|⟨b,rfl,q⟩
 .exact Dn.of (q M' kn' ko)
 .rw[if_neg (by rw[Ao];show¬((b.length+1:Nat):Int)=0;ext)];have l1:b.length<row.length:=by rw[Ao,Ao]at hl;change b.length+1+_<=_ at hl;ext
  refine⟨Me (by nofun) (by nofun) (by nofun),A,E,row,b,0,rfl,kr,kn',l1,hk,λM2 k2 o2=>?_⟩;rw[k2.o,Hl];exact⟨Me (by nofun) (by nofun) (by nofun),A,E,row,b,1,rfl,rfl,kr,k2,l1,.inr (.inl rfl),λm hm=>hk m (BB _ hm),λM3 k3 o3=>Dn.of (q M3 k3 ((ko.trans o2).trans o3))⟩
end
noncomputable def RT (row:List (Str×Str×Nat))(ms:List Int)(E:Str->List (Str×Nat))(s:Str):List (Str×Int):=(E s).map λn=>(n.1,Lb (LH row ms s n.1 n.2))
abbrev Zck (C:Av)(ds:List D)(M:Mp)(Q:Eb):Prop:=Fq ds λx y=>∃(A:KA) (E:Str->List (Str×Nat)) (row:List (Str×Str×Nat)) (ms:List Int) (s:Str),x=.ref A.o/\y=.str s/\Ld s/\Nt E row/\M A.o=some (.obj C (Nq A))/\M A.d=some (.dic (Jl A))/\M (A.at s)=some (.dic (HP row ms E s))/\(Q (.dic (EO (RT row ms E s))) (Lc M (A.at s))\/∀p M',(M p=none\/p=A.at s)->M' p=some (.dic (EO (RT row ms E s)))->(∀x u,M x=some u->x≠A.at s->M' x=some u)->Q (.ref p) M')
section
theorem aR:Om T T.x60 3 (Zck T.C_Known):=by
 refine CM.p2 T.x60.d.F ["self", "sort", "named"] λx y M Q hr nN h=>?_;obtain⟨A,E,row,ms,so,e1',e2',hs,kr,k1,k2,k3,q⟩:_:=h;refine⟨_,(qC (gL (i:=2) nN rfl (I0 rfl) (L6 (Gz (Ly hr) (GU T.cl_Known T.na_Known_spans (qv 0)) (qv 1) (λ_ _=>rfl)))) (qO (Cw (Ey (ql rfl) T.B.dict Wc (qA (RJ (caps:=[("named",2)]) (j:=2) ⟨rfl,by rfl,by rfl,by rfl,rfl,by rfl,by nofun⟩ rfl rfl (I0 (BH rfl)) (by decide) (by decide) (λ_ _ _ _ _ _ _=>(BR (qA (qv 0) (qA (Bc BA (Gz (Ly hr) (qv 1) (qv 0) (λ_ _=>rfl)) Ai) qN))))) qN))))),?_⟩;right;rw[k1,Hl,Yu,Cn,Q8 k2,Cn,VC hs,Cn]
 (try grind)
 rw[k3]
 (try grind)
 have e12:=(kr.e so).2.1
 have ek:EV (λp:Cd×D=>kD p.1) (HP row ms E so)=(E so).map λn=>.str n.1:=by
  unfold HP;rw[CP];rfl
 rw[ek];refine F4.of (ks:=E so) (g:=λn=>.str n.1) (f:=λn=>.tup [.str n.1,.int (Lb (LH row ms so n.1 n.2))]) (HD (by ext)) trivial (λn hn R r=>?_) ?_
 .walk_at "cap";rw[hZ (kr.e so).1 hn,Cn];unfold Nm
  (try grind)
  exact r
 refine⟨EO (RT row ms E so),?_,HD (by unfold EO RT;rw[Ae,Ae];ext),?_⟩
 .simp[Gj,EO,RT,kD]
 rw[jK _ (iU _ (by unfold RT;rw[CP];exact(kr.e so).1))];refine q.imp (λq=>Dn.of q) λq p hp=>Dn.of (q p _ ?_ DN λx u h hx=>?_)
 .by_cases e:p=A.at so
  .exact .inr e
  .unfold Lc at hp;rw[if_neg e]at hp;exact .inl hp
 .have:x≠p:=λe=>by
   unfold Lc at hp;rw[<- e,if_neg hx,h]at hp;cases hp
  rw[DY this];unfold Lc;rw[if_neg hx];exact h
end
noncomputable def Uf (row:List (Str×Str×Nat))(ms:List Int)(E:Str->List (Str×Nat))(s:Str):D:=.dic (EO (RT row ms E s))
noncomputable def Ka (row:List (Str×Str×Nat))(ms:List Int)(E:Str->List (Str×Nat)):D:=.tup [.str "both",Uf row ms E "box",Uf row ms E "door",Uf row ms E "one",Uf row ms E "other"]
def X8 (p:Av)(row:List (Str×Str×Nat))(ms:List Int)(E:Str->List (Str×Nat)):D:=.tup [.str "both",.ref p,Uf row ms E "door",Uf row ms E "one",Uf row ms E "other"]
abbrev Zc6 (C:Av)(ds:List D)(M:Mp)(Q:Eb):Prop:=GJ ds λx=>∃(A:KA) (E:Str->List (Str×Nat)) (row:List (Str×Str×Nat)) (ms:List Int),x=.ref A.o/\Nt E row/\FN C M A E row ms ms/\∀p M',(M p=none\/p=A.b)->M' p=some (.dic (EO (RT row ms E "box")))->(∀x u,M x=some u->x∉[A.b,A.e,A.f,A.g]->M' x=some u)->Q (X8 p row ms E) M'
theorem Mg {M:Mp}{p q:Av}(h:p≠q):Lc M q p=M p:=if_neg h
theorem FN.one {C:Av}{M:Mp}{A:KA}{E:Str->List (Str×Nat)}{row:List (Str×Str×Nat)}{ms ks:List Int}(kn:FN C M A E row ms ks){s:Str}(hs:Ld s):A.o≠A.at s:=λe=>by
 have hd:=kn.o;rw[e,kn.s s hs]at hd;cases hd
section
theorem Zc9:Om T T.x59 4 (Zc6 T.C_Known):=by
 refine CM.p1 T.x59.d.F ["self"] λx M Q hr nN h=>?_;obtain⟨A,E,row,ms,e1',kr,kn,q⟩:_:=h;refine⟨_,(qO (Cw (BR (qA Bn (qA (E9 T.cl_Known T.x60.d (aR T) nofun (qv 0) (qA Bn qN)) (qA (E9 T.cl_Known T.x60.d (aR T) nofun (qv 0) (qA Bn qN)) (qA (E9 T.cl_Known T.x60.d (aR T) nofun (qv 0) (qA Bn qN)) (qA (E9 T.cl_Known T.x60.d (aR T) nofun (qv 0) (qA Bn qN)) qN)))))))),?_⟩;have sb:Ld "box":=.inl rfl;have sd:Ld "door":=.inr (.inl rfl);have so:Ld "one":=.inr (.inr (.inl rfl));have st:Ld "other":=.inr (.inr (.inr rfl));have nd:=kn.nd;simp only[DH,Bx,AX,or_false,not_or]at nd;obtain⟨⟨n1,n2,n3⟩,⟨n4,n5⟩,n6,-⟩:_:=nd;have o1:=kn.one sb;have o2:=kn.one sd;have o3:=kn.one so;have d1:=kn.dne sb;have d2:=kn.dne sd;have d3:=kn.dne so;have k1:=kn.s _ sb;have k2:=kn.s _ sd;have k3:=kn.s _ so;have k4:=kn.s _ st;simp only[Up,UA,Uq,UF]at o1 o2 o3 d1 d2 d3 k1 k2 k3 k4;have no:∀{B:KA},BS (Ak "low_words") (Nq B)=none:=λ{B}=>Me (by nofun) (by nofun) (by nofun);right;rw[kn.o,Hl];refine⟨no,A,E,row,ms, "box",rfl,rfl,sb,kr,kn.o,kn.d,by rw[Up];exact k1,.inr λp M1 hp pp g1=>?_⟩;rw[Up]at hp g1;have np:∀{x:Av} {u:MO},M x=some u->x≠A.b->p≠x:=λ{x u} h hx e=>hp.elim (λz=>by rw[e,h]at z;cases z) λz=>hx (e ▸ z);have pe:=np k2 (Bg n1);have pf:=np k3 (Bg n2);have pg:=np k4 (Bg n3);have mo:=g1 _ _ kn.o o1;have md:=g1 _ _ kn.d d1;have m2:=g1 _ _ k2 (Bg n1);have m3:=g1 _ _ k3 (Bg n2);have m4:=g1 _ _ k4 (Bg n3);rw[mo,Hl];refine⟨no,A,E,row,ms, "door",rfl,rfl,sd,kr,mo,md,by rw[UA];exact m2,.inl ?_⟩;rw[UA,Mg o2,mo,Hl];refine⟨no,A,E,row,ms, "one",rfl,rfl,so,kr,by rw[Mg o2];exact mo,by rw[Mg d2];exact md,by rw[Uq,Mg (Bg n4)];exact m3,.inl ?_⟩;rw[Uq,Mg o3,Mg o2,mo,Hl];refine⟨no,A,E,row,ms, "other",rfl,rfl,st,kr,by rw[Mg o3,Mg o2];exact mo,by rw[Mg d3,Mg d2];exact md,by rw[UF,Mg (Bg n6),Mg (Bg n5)];exact m4,.inl ?_⟩;rw[UF];refine Dn.of (q p _ hp (by rw[Mg pg,Mg pf,Mg pe];exact pp) λx u h hx=>?_);simp only[Bx,AX,or_false,not_or]at hx;rw[Mg hx.2.2.2,Mg hx.2.2.1,Mg hx.2.1];exact g1 x u h hx.1
end
def QM (ms:List Int):Prop:=∀m∈ms,m=0\/m=1
theorem mP:∀{ms:List Int},QM ms->Lb ms=LJ ms
 |[],_=>rfl
 |m::ms,h=>by
  rw[i8,ki,mP λx hx=>h x (Aw _ hx)];rcases h m AA with rfl|rfl<;>rfl
noncomputable def GD (s z:Str)(w:Nat):List (Str×Str×Nat):=(Bl w).map λi=>(s,z,w-1-i)
theorem rb (s z:Str)(w:Nat):(GD s z w).length=w:=by unfold GD;rw[Ae,B3]
theorem Z0 {w:Nat} :b∈GD s z w↔b.1=s/\b.2.1=z/\b.2.2<w:=by
 constructor
 .intro h;obtain⟨i,hi,rfl⟩:=AB.mp h;have hi:=Ct.mp hi;exact⟨rfl,rfl,by show w-1-i<w;ext⟩
 .rintro⟨rfl,rfl,h⟩;refine AB.mpr ⟨w-1-b.2.2,Ct.mpr (by ext),?_⟩;rw[show w-1-(w-1-b.2.2)=b.2.2 by ext]
theorem qi (s z:Str)(w:Nat):(GD s z w).Nodup:=by
 unfold GD F7;rw[Db];refine Ww (λ{i j} hi hj h c=>?_) List.pairwise_lt_range;have hi:=Ct.mp hi;have hj:=Ct.mp hj;have:=congrArg (λx:Str×Str×Nat=>x.2.2) c;change w-1-i=w-1-j at this;ext
theorem iL :∀(l:List (Str×Str×Nat)) (acc:List (Str×Nat)),(∀b∈l,¬(b.1=t/\b.2.1∉acc.map (·.1)))->l.foldl (Nn t) acc=acc
 |[],acc,_=>rfl
 |b::l,acc,h=>by
  rw[CC,show Nn t acc b=acc from if_neg (h b AA)];exact iL l acc λb hb=>h b (Aw _ hb)
theorem ma {w:Nat}(acc:List (Str×Nat))(hw:1<=w):(GD s z w).foldl (Nn t) acc=if s=t/\z∉acc.map (·.1)then acc++[(z,w)]else acc:=by
 by_cases h:s=t/\z∉acc.map (·.1)
 .rw[if_pos h];obtain⟨n,rfl⟩:∃n,w=n+1:=⟨w-1,by ext⟩;unfold GD;rw[Em,AM,CC]
  have e:Nn t acc (s,z,n+1-1-0)=acc++[(z,n+1)]:=by
   unfold Nn;rw[if_pos h];rfl
  rw[e];refine iL _ _ λb hb c=>c.2 ?_;obtain⟨i,hi,rfl⟩:=AB.mp hb;show z∈(acc++[(z,n+1)]).map (·.1);simp
 .rw[if_neg h];refine iL _ _ λb hb c=>h ?_;obtain⟨h1,h2,-⟩:=Z0.mp hb;rw[h1,h2]at c;exact c
noncomputable def EQ (g:List (Str×Str×Nat)):List (Str×Str×Nat):=g.flatMap λp=>GD p.1 p.2.1 p.2.2
noncomputable def Mc (p:Str×Str×Nat):Str×Str:=(p.1,p.2.1)
noncomputable def Q3 (g:List (Str×Str×Nat))(s:Str):List (Str×Nat):=(g.filter λp=>decide (p.1=s)).map (·.2)
theorem gH {s:Str}:∀(g:List (Str×Str×Nat)) (acc:List (Str×Nat)),(∀p∈g,1<=p.2.2/\(p.1=s->p.2.1∉acc.map (·.1)))->(g.map Mc).Nodup->(EQ g).foldl (Nn s) acc=acc++Q3 g s
 |[],acc,_,_=>(C1 acc).symm
 |p::g,acc,h,nd=>by
  obtain⟨h1,h2⟩:=h p AA;rw[AM,DH]at nd;show(GD p.1 p.2.1 p.2.2++EQ g).foldl (Nn s) acc=_;rw[JW,ma _ h1];unfold Q3;by_cases e:p.1=s
  .rw[if_pos ⟨e,h2 e⟩,QW,if_pos (decide_eq_true e),AM];rw[gH g (acc++[(p.2.1,p.2.2)]) (λq hq=>⟨(h q (Aw _ hq)).1,λeq hm=>?_⟩) nd.2,Bm]
   .rfl
   .rw[AI]at hm;rcases AH.mp hm with hm|hm
    .exact(h q (Aw _ hq)).2 eq hm
    .have e2:q.2.1=p.2.1:=by simpa using hm
     exact nd.1 (AB.mpr ⟨q,hq,by unfold Mc;rw[eq,e,e2]⟩)
  .rw[if_neg (λc=>e c.1),QW,if_neg (by simpa using e)];exact gH g acc (λq hq=>h q (Aw _ hq)) nd.2
theorem iF :b∈EQ g↔∃w,(b.1,b.2.1,w)∈g/\b.2.2<w:=by
 constructor
 .intro h;obtain⟨p,hp,hb⟩:=QS.mp h;obtain⟨e1,e2,e3⟩:=Z0.mp hb;exact⟨p.2.2,by rw[e1,e2];exact hp,e3⟩
 .rintro⟨w,h,hw⟩;exact QS.mpr ⟨_,h,Z0.mpr ⟨rfl,rfl,hw⟩⟩
theorem oN:∀(g:List (Str×Str×Nat)),(g.map Mc).Nodup->(EQ g).Nodup
 |[],_=>JQ
 |p::g,nd=>by
  rw[AM,DH]at nd;show(GD p.1 p.2.1 p.2.2++EQ g).Nodup;rw[Gs];refine⟨qi ..,oN g nd.2,λa ha b hb e=>nd.1 ?_⟩;subst e;obtain⟨e1,e2,-⟩:=Z0.mp ha;obtain⟨w,hw,-⟩:=iF.mp hb;exact AB.mpr ⟨_,hw,by unfold Mc;rw[e1,e2]⟩
theorem pT:∀(g:List (Str×Str×Nat)),(∀p∈g,p.2.2<=64)->(EQ g).length<=64*g.length
 |[],_=>AJ _
 |p::g,h=>by
  have:=pT g λq hq=>h q (Aw _ hq);have:=h p AA;show(GD p.1 p.2.1 p.2.2++EQ g).length<=_;rw[Ao,rb,AO];ext
theorem Ys {g:List (Str×Str×Nat)}{s z:Str}{w:Nat}:(z,w)∈Q3 g s↔(s,z,w)∈g:=by
 unfold Q3;constructor
 .intro h;obtain⟨p,hp,e⟩:=AB.mp h;obtain⟨h1,h2⟩:=B4.mp hp;have h2:=of_decide_eq_true h2;rw[<- e,<- h2];exact h1
 .exact λh=>AB.mpr ⟨_,B4.mpr ⟨h,decide_eq_true rfl⟩,rfl⟩
structure US (g:List (Str×Str×Nat)):Prop where
 nd:(g.map Mc).Nodup
 w:∀p∈g,Ld p.1/\1<=p.2.2/\p.2.2<=64
 l:g.length<=72
 e:∀s,(Q3 g s).length<=12
theorem US.en {g:List (Str×Str×Nat)}(h:US g)(s:Str):Hk (EQ g) s=Q3 g s:=by
 unfold Hk;rw[gH g [] (λp hp=>⟨(h.w p hp).2.1,λ_ hm=>by cases hm⟩) h.nd,GQ]
theorem US.kr {g:List (Str×Str×Nat)}(h:US g):Nt (Hk (EQ g)) (EQ g):=by
 refine⟨oN g h.nd,λb hb=>?_,λs=>?_,?_⟩
 .obtain⟨w,hw,hl⟩:=iF.mp hb;exact⟨(h.w _ hw).1,w,by rw[h.en];exact Ys.mpr hw,hl⟩
 .rw[h.en];refine⟨?_,h.e s,λn hn=>(h.w _ ((Ys).mp hn)).2⟩;have nd:=h.nd;unfold Q3;unfold F7 at nd ⊢;rw[Db,Db];rw[Db]at nd;refine(KN _ nd).imp_of_mem λ{a b} ha hb hab e=>hab ?_;have e1:=of_decide_eq_true (B4.mp ha).2;have e2:=of_decide_eq_true (B4.mp hb).2;unfold Mc;rw[e1,e2,e]
 .have:=pT g λp hp=>(h.w p hp).2.2;have:=h.l;ext
theorem uw {ws:List (Str×Nat)}(h:ws.lookup x=some n):(x,n)∈ws:=by
 induction ws with
 |nil=>cases h
 |cons p ws ih=>
  rw[Bu]at h;split at h
  .next e=>cases h;rw[eq_of_beq e];exact AA
  .exact Aw _ (ih h)
theorem pb (h:US g)(hb:QM ms)(hl:ms.length=(EQ g).length){w:Nat}(hz:(z,w)∈Hk (EQ g) s):QM (LH (EQ g) ms s z w):=λm hm=>by
 obtain⟨j,hj,rfl⟩:=AB.mp hm;have hj:=Ct.mp hj;rw[h.en]at hz;have mem:(s,z,j)∈EQ g:=iF.mpr ⟨w,Ys.mp hz,hj⟩;have hi:(EQ g).idxOf (s,z,j)<ms.length:=by rw[hl];exact Lr mem
 rw[Cg,Ag hi];exact hb _ (JA hi)
theorem pd {g:List (Str×Str×Nat)}(h:US g){ms:List Int}(hb:QM ms)(hl:ms.length=(EQ g).length){bs es:List (Str×Int)}{t u:Tm}(gd:YJ (Hk (EQ g)) bs es t u):QY (EQ g) (Hk (EQ g)) t u ms=true:=by
 have kn:∀s x,GO (Q7 (EQ g) ms (Hk (EQ g)) s x):=λs x=>by
  unfold Q7;cases e:(Hk (EQ g) s).lookup x with
  |none=>rfl
  |some w=>exact mP (pb h hb hl (uw e))
 have bit:∀so t,VY (Hk (EQ g)) so bs es t->gM (EQ g) ms (Hk (EQ g)) so t=0\/gM (EQ g) ms (Hk (EQ g)) so t=1:=λso t gk=>by
  have k:=(fZ gk.w (gk.dt h.kr)).2 λx=>⟨kn "box" x,kn so x,kn "door" x⟩;unfold gM eW;rw[k,if_pos rfl];ext
 unfold QY;refine decide_eq_true ?_;rcases bit "one" t gd.a with e|e
 .exact .inl e
 .rcases bit "other" u gd.b with f|f
  .exact .inr (.inl f)
  .exact .inr (.inr ⟨e,f⟩)
noncomputable def sg (s:Str)(ws:List (Str×Int))(ss:List Str):List (Str×Str×Nat):=ss.map λz=>(s,z,((ws.lookup z).getD 0).toNat)
noncomputable def CV (ws ds:List (Str×Int))(g1 g2:Tm):List (Str×Str×Nat):=sg "box" ws (La (GL g1) (GL g2))++sg "door" ds (La (GK g1) (GK g2))++sg "box" ws (Lv (GL g1) (GL g2))++sg "door" ds (Lv (GK g1) (GK g2))++sg "one" ws (MP g1)++sg "other" ws (MP g2)
theorem qL (s)(ws:List (Str×Int)):∀ss,(∀z∈ss,∃w,ws.lookup z=some w/\1<=w/\w<=64)->Ev s ws ss=(EQ (sg s ws ss)).map bD
 |[],_=>rfl
 |z::ss,h=>by
  obtain⟨w,e,w1,w2⟩:=h z AA;have ih:=qL s ws ss λz hz=>h z (Aw _ hz);show KY s z ((ws.lookup z).getD 0)++Ev s ws ss=(GD s z ((ws.lookup z).getD 0).toNat++EQ (sg s ws ss)).map bD;rw[AI,ih,e];congr 1
  unfold KY GD;rw[CP];refine DS λi hi=>?_;have hi:=Ct.mp hi;have hi:i<w.toNat:=hi;show D.tup [.str s,.str z,.int (w-1-i)]=D.tup [.str s,.str z,.int ((w.toNat-1-i:Nat):Int)];rw[show((w.toNat-1-i:Nat):Int)=w-1-i by ext]
theorem jp (a b):EQ (a++b)=EQ a++EQ b:=OX
theorem oI :p∈sg s ws ss↔p.2.1∈ss/\p=(s,p.2.1,((ws.lookup p.2.1).getD 0).toNat):=by
 unfold sg;constructor
 .intro h;obtain⟨z,hz,rfl⟩:=AB.mp h;exact⟨hz,rfl⟩
 .exact λh=>AB.mpr ⟨_,h.1,h.2.symm⟩
theorem QB :x∈La xs ys↔x∈xs/\x∈ys:=by
 unfold La;rw[GF,FC,decide_eq_true_eq]
theorem QC :x∈Lv xs ys↔(x∈ys/\x∉xs)\/(x∈xs/\x∉ys):=by
 unfold Lv;rw[GF,D7,FC,FC,decide_eq_true_eq,decide_eq_true_eq]
section
variable {wk:Wk}{g1 g2:Tm}
theorem pW (h:p∈CV wk.ws wk.ds g1 g2):(p.1 = "box"/\p.2.1∈La (GL g1) (GL g2)\/p.1 = "door"/\p.2.1∈La (GK g1) (GK g2)\/p.1 = "box"/\p.2.1∈Lv (GL g1) (GL g2)\/p.1 = "door"/\p.2.1∈Lv (GK g1) (GK g2)\/p.1 = "one"/\p.2.1∈MP g1\/p.1 = "other"/\p.2.1∈MP g2)/\p.2.2=(((if p.1 = "door" then wk.ds else wk.ws).lookup p.2.1).getD 0).toNat:=by
 have nb:¬(Ak "box" = "door"):=by nofun
 have no:¬(Ak "one" = "door"):=by nofun
 have nt:¬(Ak "other" = "door"):=by nofun
 simp only[CV,D7,oI]at h;rcases h with((((⟨h,e⟩|⟨h,e⟩)|⟨h,e⟩)|⟨h,e⟩)|⟨h,e⟩)|⟨h,e⟩
 .rw[e];exact⟨.inl ⟨rfl,h⟩,by rw[if_neg nb]⟩
 .rw[e];exact⟨.inr (.inl ⟨rfl,h⟩),by rw[if_pos rfl]⟩
 .rw[e];exact⟨.inr (.inr (.inl ⟨rfl,h⟩)),by rw[if_neg nb]⟩
 .rw[e];exact⟨.inr (.inr (.inr (.inl ⟨rfl,h⟩))),by rw[if_pos rfl]⟩
 .rw[e];exact⟨.inr (.inr (.inr (.inr (.inl ⟨rfl,h⟩)))),by rw[if_neg no]⟩
 .rw[e];exact⟨.inr (.inr (.inr (.inr (.inr ⟨rfl,h⟩)))),by rw[if_neg nt]⟩
theorem rB (k1:EL wk g1)(k2:EL wk g2)(h:p∈CV wk.ws wk.ds g1 g2):Ld p.1/\p.2.1∈(if p.1 = "door" then wk.ds else wk.ws).map (·.1)/\∃n,(if p.1 = "door" then wk.ds else wk.ws).lookup p.2.1=some n/\1<=n/\n<=64:=by
 have nb:¬(Ak "box" = "door"):=by nofun
 have no:¬(Ak "one" = "door"):=by nofun
 have nt:¬(Ak "other" = "door"):=by nofun
 have B:∀{g x},EL wk g->x∈GL g->x∈wk.ws.map (·.1)/\∃n,wk.ws.lookup x=some n/\1<=n/\n<=64:=λk hx=>k.b _ (.inl (GF.mp hx));have L:∀{g x},EL wk g->x∈MP g->x∈wk.ws.map (·.1)/\∃n,wk.ws.lookup x=some n/\1<=n/\n<=64:=λk hx=>k.b _ (.inr (GF.mp hx));have O:∀{g x},EL wk g->x∈GK g->x∈wk.ds.map (·.1)/\∃n,wk.ds.lookup x=some n/\1<=n/\n<=64:=λk hx=>k.d _ (GF.mp hx);obtain⟨h,-⟩:=pW h;rcases h with⟨e,h⟩|⟨e,h⟩|⟨e,h⟩|⟨e,h⟩|⟨e,h⟩|⟨e,h⟩<;>rw[e]
 .rw[if_neg nb];exact⟨.inl rfl,B k1 (QB.mp h).1⟩
 .rw[if_pos rfl];exact⟨.inr (.inl rfl),O k1 (QB.mp h).1⟩
 .rw[if_neg nb];exact⟨.inl rfl,(QC.mp h).elim (λc=>B k2 c.1) λc=>B k1 c.1⟩
 .rw[if_pos rfl];exact⟨.inr (.inl rfl),(QC.mp h).elim (λc=>O k2 c.1) λc=>O k1 c.1⟩
 .rw[if_neg no];exact⟨.inr (.inr (.inl rfl)),L k1 h⟩
 .rw[if_neg nt];exact⟨.inr (.inr (.inr rfl)),L k2 h⟩
theorem ot (k1:EL wk g1)(k2:EL wk g2):R1 wk.ws wk.ds g1 g2=(EQ (CV wk.ws wk.ds g1 g2)).map bD:=by
 have go:=qL;have B:∀{g x},EL wk g->x∈GL g->∃n,wk.ws.lookup x=some n/\1<=n/\n<=64:=λk hx=>(k.b _ (.inl (GF.mp hx))).2;have L:∀{g x},EL wk g->x∈MP g->∃n,wk.ws.lookup x=some n/\1<=n/\n<=64:=λk hx=>(k.b _ (.inr (GF.mp hx))).2;have O:∀{g x},EL wk g->x∈GK g->∃n,wk.ds.lookup x=some n/\1<=n/\n<=64:=λk hx=>(k.d _ (GF.mp hx)).2;unfold R1 CV;rw[go "box" wk.ws _ λz h=>B k1 (QB.mp h).1,go "door" wk.ds _ λz h=>O k1 (QB.mp h).1,go "box" wk.ws _ λz h=>(QC.mp h).elim (λc=>B k2 c.1) λc=>B k1 c.1,go "door" wk.ds _ λz h=>(QC.mp h).elim (λc=>O k2 c.1) λc=>O k1 c.1,go "one" wk.ws _ λz h=>L k1 h,go "other" wk.ws _ λz h=>L k2 h];simp only[jp,AI]
theorem ip (s)(ws)(ss:List Str):(sg s ws ss).map Mc=ss.map λz=>(s,z):=by
 unfold sg;rw[CP];rfl
theorem Vy (s:Str){ss:List Str}(h:ss.Nodup):(ss.map λz=>(s,z)).Nodup:=by
 unfold F7 at h ⊢;rw[Db];exact h.imp λh e=>h (congrArg LB e)
theorem iK (ok:wk.Ok)(k1:EL wk g1)(k2:EL wk g2):US (CV wk.ws wk.ds g1 g2):=by
 have n1:¬(Ak "box" = "door"):=by nofun
 have n2:¬(Ak "box" = "one"):=by nofun
 have n3:¬(Ak "box" = "other"):=by nofun
 have n4:¬(Ak "door" = "one"):=by nofun
 have n5:¬(Ak "door" = "other"):=by nofun
 have n6:¬(Ak "one" = "other"):=by nofun
 have n7:¬(Ak "door" = "box"):=λe=>n1 e.symm;have sn:∀xs ys,(La xs ys).Nodup:=λxs ys=>Rc _;have un:∀xs ys,(Lv xs ys).Nodup:=λxs ys=>Rc _;have lw:(wk.ws.map (·.1)).length<=12:=by unfold Wk.ws;rw[Ae,Ae];exact ok.b.1
 have ld:(wk.ds.map (·.1)).length<=12:=by rw[Ae];have:=ok.d.1;ext
 have nd:((CV wk.ws wk.ds g1 g2).map Mc).Nodup:=by
  unfold CV;simp only[AI,ip];have app:∀{a b:List (Str×Str)},a.Nodup->b.Nodup->(∀x∈a,x∉b)->(a++b).Nodup:=λha hb h=>Bt.mpr ⟨ha,hb,λx hx y hy e=>h x hx (e ▸ hy)⟩
  have mm:∀{s:Str} {ss:List Str} {x:Str×Str},x∈ss.map (λz=>(s,z))↔x.1=s/\x.2∈ss:=λ{s ss x}=>by
   rw[AB];exact⟨λ⟨z,hz,e⟩=>by rw[<- e];exact⟨rfl,hz⟩,λ⟨h1,h2⟩=>⟨x.2,h2,by rw[<- h1]⟩⟩
  refine app (app (app (app (app (Vy _ (sn _ _)) (Vy _ (sn _ _)) ?_) (Vy _ (un _ _)) ?_) (Vy _ (un _ _)) ?_) (Vy _ (Rc _)) ?_) (Vy _ (Rc _)) ?_
  .intro x h h';exact n1 ((mm.mp h).1.symm.trans (mm.mp h').1)
  .intro x h h';obtain⟨e,m⟩:=mm.mp h';rcases AH.mp h with h|h
   .obtain⟨-,m'⟩:=mm.mp h;obtain⟨a,b⟩:=QB.mp m';rcases QC.mp m with⟨-,c⟩|⟨-,c⟩
    .exact c a
    .exact c b
   .exact n1 (e.symm.trans (mm.mp h).1)
  .intro x h h';obtain⟨e,m⟩:=mm.mp h';rcases AH.mp h with h|h
   .rcases AH.mp h with h|h
    .exact n7 (e.symm.trans (mm.mp h).1)
    .obtain⟨-,m'⟩:=mm.mp h;obtain⟨a,b⟩:=QB.mp m';rcases QC.mp m with⟨-,c⟩|⟨-,c⟩
     .exact c a
     .exact c b
   .exact n7 (e.symm.trans (mm.mp h).1)
  .intro x h h';have e:=(mm.mp h').1;simp only[D7,mm]at h;rcases h with((h|h)|h)|h
   .exact n2 (h.1.symm.trans e)
   .exact n4 (h.1.symm.trans e)
   .exact n2 (h.1.symm.trans e)
   .exact n4 (h.1.symm.trans e)
  .intro x h h';have e:=(mm.mp h').1;simp only[D7,mm]at h;rcases h with(((h|h)|h)|h)|h
   .exact n3 (h.1.symm.trans e)
   .exact n5 (h.1.symm.trans e)
   .exact n3 (h.1.symm.trans e)
   .exact n5 (h.1.symm.trans e)
   .exact n6 (h.1.symm.trans e)
 have es:∀s,(Q3 (CV wk.ws wk.ds g1 g2) s).length<=12:=λs=>by
  have e1:((Q3 (CV wk.ws wk.ds g1 g2) s).map (·.1)).Nodup:=by
   unfold Q3;unfold F7 at nd ⊢;rw[Db,Db];rw[Db]at nd;refine(KN _ nd).imp_of_mem λ{a b} ha hb hab e=>hab ?_;have e1:=of_decide_eq_true (B4.mp ha).2;have e2:=of_decide_eq_true (B4.mp hb).2;unfold Mc;rw[e1,e2,e]
  have e2:=UC _ ((if s = "door" then wk.ds else wk.ws).map (·.1)) e1 λx hx=>by
   obtain⟨n,hn,rfl⟩:=AB.mp hx;exact(rB k1 k2 ((Ys (s:=s) (z:=n.1) (w:=n.2)).mp hn)).2.1
  rw[Ae]at e2;refine AY e2 ?_;split
  .exact ld
  .exact lw
 have sl:∀s ws ss,(sg s ws ss).length=ss.length:=λs ws ss=>Ae ..;refine⟨nd,λp hp=>?_,?_,es⟩
 .obtain⟨h1,-,n,e,n1,n2⟩:=rB k1 k2 hp;rw[(pW hp).2,e];exact⟨h1,by show 1<=n.toNat;ext,by show n.toNat<=64;ext⟩
 .have mU:∀{xs ys zs:List Str},(∀x∈xs,x∈zs)->(∀x∈ys,x∈zs)->(Lv xs ys).length<=zs.length:=λh1 h2=>UC _ _ (un _ _) λx hx=>(QC.mp hx).elim (λc=>h2 x c.1) λc=>h1 x c.1;have mS:∀{xs ys zs:List Str},(∀x∈xs,x∈zs)->(La xs ys).length<=zs.length:=λh1=>UC _ _ (sn _ _) λx hx=>h1 x (QB.mp hx).1;have b1:∀x∈GL g1,x∈wk.ws.map (·.1):=λx hx=>(k1.b _ (.inl (GF.mp hx))).1;have b2:∀x∈GL g2,x∈wk.ws.map (·.1):=λx hx=>(k2.b _ (.inl (GF.mp hx))).1;have d1:∀x∈GK g1,x∈wk.ds.map (·.1):=λx hx=>(k1.d _ (GF.mp hx)).1;have d2:∀x∈GK g2,x∈wk.ds.map (·.1):=λx hx=>(k2.d _ (GF.mp hx)).1;have c1:=mS (ys:=GL g2) b1;have c2:=mS (ys:=GK g2) d1;have c3:=mU b1 b2;have c4:=mU d1 d2;have c5:=k1.l.2.1;have c6:=k2.l.2.1;unfold CV;simp only[Ao,sl];ext
theorem gh (ok:wk.Ok)(o1:Oe wk.ws wk.ds g1 1)(o2:Oe wk.ws wk.ds g2 1):YJ (Hk (EQ (CV wk.ws wk.ds g1 g2))) wk.ws wk.ds g1 g2:=by
 have k1:=EL.of ok o1;have k2:=EL.of ok o2;have pc:=iK ok k1 k2
 have go:∀{s x:Str} {ws:List (Str×Int)} {ss:List Str} {n:Int},sg s ws ss ⊆ CV wk.ws wk.ds g1 g2->x∈ss->ws.lookup x=some n->1<=n->∃w:Nat,ws.lookup x=some (w:Int)/\(x,w)∈Hk (EQ (CV wk.ws wk.ds g1 g2)) s:=λ{s x ws ss n} hs hx e h1=>by
  refine⟨n.toNat,by rw[e,show((n.toNat:Nat):Int)=n by ext],?_⟩;rw[pc.en];exact Ys.mpr (hs (oI.mpr ⟨hx,by show(s,x,n.toNat)=_;rw[e];rfl⟩))
 have s1:sg "box" wk.ws (La (GL g1) (GL g2)) ⊆ CV wk.ws wk.ds g1 g2:=λp hp=>by simp[CV,hp]
 have s2:sg "door" wk.ds (La (GK g1) (GK g2)) ⊆ CV wk.ws wk.ds g1 g2:=λp hp=>by simp[CV,hp]
 have s3:sg "box" wk.ws (Lv (GL g1) (GL g2)) ⊆ CV wk.ws wk.ds g1 g2:=λp hp=>by simp[CV,hp]
 have s4:sg "door" wk.ds (Lv (GK g1) (GK g2)) ⊆ CV wk.ws wk.ds g1 g2:=λp hp=>by simp[CV,hp]
 have s5:sg "one" wk.ws (MP g1) ⊆ CV wk.ws wk.ds g1 g2:=λp hp=>by simp[CV,hp]
 have s6:sg "other" wk.ws (MP g2) ⊆ CV wk.ws wk.ds g1 g2:=λp hp=>by simp[CV,hp]
 have nB:∀{g:Tm} {x:Str},Tm.box x∈g.leaves->x∈g.names "box":=λh=>Ci.mpr ⟨_,h,by simp[Tm.nameOf]⟩;have nL:∀{g:Tm} {x:Str},Tm.late x∈g.leaves->x∈g.names "late":=λh=>Ci.mpr ⟨_,h,by simp[Tm.nameOf]⟩;have nD:∀{g:Tm} {x:Str},Tm.door x∈g.leaves->x∈g.names "door":=λh=>Ci.mpr ⟨_,h,by simp[Tm.nameOf]⟩;refine⟨⟨o1.2,o1.1.2,λx h=>?_,λx h=>?_,λx h=>?_⟩,⟨o2.2,o2.1.2,λx h=>?_,λx h=>?_,λx h=>?_⟩⟩
 .obtain⟨-,n,e,h1,-⟩:=k1.b x (.inl (nB h));by_cases m:x∈GL g2
  .exact go s1 (QB.mpr ⟨GF.mpr (nB h),m⟩) e h1
  .exact go s3 (QC.mpr (.inr ⟨GF.mpr (nB h),m⟩)) e h1
 .obtain⟨-,n,e,h1,-⟩:=k1.b x (.inr (nL h));exact go s5 (GF.mpr (nL h)) e h1
 .obtain⟨-,n,e,h1,-⟩:=k1.d x (nD h);by_cases m:x∈GK g2
  .exact go s2 (QB.mpr ⟨GF.mpr (nD h),m⟩) e h1
  .exact go s4 (QC.mpr (.inr ⟨GF.mpr (nD h),m⟩)) e h1
 .obtain⟨-,n,e,h1,-⟩:=k2.b x (.inl (nB h));by_cases m:x∈GL g1
  .exact go s1 (QB.mpr ⟨m,GF.mpr (nB h)⟩) e h1
  .exact go s3 (QC.mpr (.inl ⟨GF.mpr (nB h),m⟩)) e h1
 .obtain⟨-,n,e,h1,-⟩:=k2.b x (.inr (nL h));exact go s6 (GF.mpr (nL h)) e h1
 .obtain⟨-,n,e,h1,-⟩:=k2.d x (nD h);by_cases m:x∈GK g1
  .exact go s2 (QB.mpr ⟨m,GF.mpr (nD h)⟩) e h1
  .exact go s4 (QC.mpr (.inl ⟨GF.mpr (nD h),m⟩)) e h1
end
noncomputable def Zi (ms:List Int):Option (List Int):=match ms.reverse.dropWhile (λm=>decide (m=1))with
 |[]=>none
 |_::r=>some (r.reverse++[1])
noncomputable def Oa (c:List Int×Int):D:=.tup [.tup (c.1.map D.int),.int c.2]
noncomputable def Q6 (N:List Int->Nat)(g g':List Int->Int)(bt:List Int->D):Nat->List Int->List (List Int×Int)->D
 |0,_,_=>.tup [.str "unsure"]
 |f+1,ms,cs=>
  let ks:=HF (N ms) ms
  if g ks=1/\g' ks=1 then bt ks
  else if f=0 then .tup [.str "unsure"]
  else match Zi ks with
   |none=>.tup [.str "never",.lst ((cs++[(ks,if g ks=0 then 0 else 1)]).map Oa)]
   |some ms'=>Q6 N g g' bt f ms' (cs++[(ks,if g ks=0 then 0 else 1)])
noncomputable def XT (row:List (Str×Str×Nat))(t u:Tm)(ms:List Int):Nat:=Zp (λk=>QY row (Hk row) t u (HF k ms)) ms.length row.length
noncomputable def OG (row:List (Str×Str×Nat))(t u:Tm):D:=Q6 (XT row t u) (λms=>gM row ms (Hk row) "one" t) (λms=>gM row ms (Hk row) "other" u) (λms=>Ka row ms (Hk row)) 65 [] []
noncomputable def MU:D->Str
 |.tup (.str s::_)=>s
 |_=>""
def Sd (M M':Mp)(v d:D):Prop:=(v=d/\MU d≠"both")\/∃p AQ l,M p=none/\M' p=some (.dic AQ)/\v=.tup (.str "both"::.ref p::l)/\d=.tup (.str "both"::.dic AQ::l)
abbrev Zf0:Ee:=λds M Q=>Kw ds λx y z=>GI y λa=>GI z λb=>∃(wk:Wk) (r1 r2:Str×Tm×List (Str×Tm)),x=wk.D/\wk.Ok/\wk.rs.find? (Fs a)=some r1/\wk.rs.find? (Fs b)=some r2/\∀M' v,(∀p o,M p=some o->M' p=some o)->Sd M M' v (OG (EQ (CV wk.ws wk.ds r1.2.1 r2.2.1)) r1.2.1 r2.2.1)->Q v M'
theorem oC {C:Av}{M:Mp}{A:KA}{E:Str->List (Str×Nat)}{row:List (Str×Str×Nat)}{ms ks:List Int}{c:Av}{v:MO}(kn:FN C M A E row ms ks)(h:∀x∈[A.o,A.q,A.m,A.d,A.b,A.e,A.f,A.g],x≠c):FN C (L3.put M c v) A E row ms ks:=by
 have hs:∀ s,A.at s≠c:=λs=>h _ (by
  have:=gD A s;simp only [Bx,AX,or_false] at this ⊢;rcases this with e|e|e|e|e<;>simp [e])
 exact⟨by rw[DY (h _ (by simp))];exact kn.o,by rw[DY (h _ (by simp))];exact kn.q,by rw[DY (h _ (by simp))];exact kn.m,by rw[DY (h _ (by simp))];exact kn.d,λs' h'=>by rw[DY (hs s')];exact kn.s s' h',kn.nd,kn.qm⟩
theorem FN.off {C:Av}{M:Mp}{A:KA}{E:Str->List (Str×Nat)}{row:List (Str×Str×Nat)}{ms ks:List Int}{c:Av}(kn:FN C M A E row ms ks)(hc:M c=none):∀x∈[A.o,A.q,A.m,A.d,A.b,A.e,A.f,A.g],x≠c:=λx hx=>by
 have k1:=kn.s "box" (.inl rfl);have k2:=kn.s "door" (.inr (.inl rfl));have k3:=kn.s "one" (.inr (.inr (.inl rfl)));have k4:=kn.s "other" (.inr (.inr (.inr rfl)));rw[Up]at k1;rw[UA]at k2;rw[Uq]at k3;rw[UF]at k4;simp only[Bx,AX,or_false]at hx;rcases hx with rfl|rfl|rfl|rfl|rfl|rfl|rfl|rfl
 .exact Jv hc kn.o
 .exact Jv hc kn.q
 .exact Jv hc kn.m
 .exact Jv hc kn.d
 .exact Jv hc k1
 .exact Jv hc k2
 .exact Jv hc k3
 .exact Jv hc k4
theorem gZ {ms:List Int}(h:QM ms):LA ms:=λm hm=>(h m hm).elim .inl λe=>.inr (.inl e)
theorem qB {n:Nat}{ms:List Int}(h:QM ms)(hn:ms.length<=n):QM (HF n ms):=λm hm=>by
 rw[ZH hn]at hm;rcases AH.mp hm with e|e
 .exact h m e
 .exact .inl (EC e)
theorem qS:∀{r:List Int},QM r->∃k,(r=AE k 1/\r.dropWhile (λm=>decide (m=1))=[])\/∃t,r=AE k 1++0::t/\r.dropWhile (λm=>decide (m=1))=0::t
 |[],_=>⟨0,.inl ⟨rfl,rfl⟩⟩
 |x::r,h=>by
  rcases h x AA with rfl|rfl
  .exact⟨0,.inr ⟨r,rfl,rfl⟩⟩
  .obtain⟨k,c⟩:=qS λm hm=>h m (Aw _ hm);rcases c with⟨e,d⟩|⟨t,e,d⟩
   .exact⟨k+1,.inl ⟨by rw[DQ,<- e],by rw[OZ];exact d⟩⟩
   .exact⟨k+1,.inr ⟨t,by rw[DQ,D5,<- e],by rw[OZ];exact d⟩⟩
theorem s9 {ms:List Int}(h:QM ms):∃a k,ms=a++AE k 1/\((a=[]/\Zi ms=none)\/∃b,a=b++[0]/\Zi ms=some (b++[1])):=by
 obtain⟨k,c⟩:=qS λm hm=>h m (QR.mp hm);unfold Zi;rcases c with⟨e,d⟩|⟨t,e,d⟩
 .exact⟨[],k,by rw[<- Oq ms,e,Nd];rfl,.inl ⟨rfl,by rw[d]⟩⟩
 .exact⟨t.reverse++[0],k,by rw[<- Oq ms,e,List.reverse_append,Nd,Gr],.inr ⟨_,rfl,by rw[d]⟩⟩
theorem ba (cs:List (List Int×Int))(ks:List Int)(v:Int):EV Oa cs++[D.tup [D.tup (EV D.int ks),D.int v]]=EV Oa (cs++[(ks,v)]):=by rw[AI];rfl
section
theorem vL:Od T T.x61 24 Zf0:=by
 refine CM.p3 T.x61.d.F ["works", "one", "other", "guards", "known", "cubes", "held"] λx y z M Q hr nN h1=>?_;obtain⟨a,rfl,h2⟩:=Et h1;obtain⟨b,e1',wk,r1,r2,e2',ok,e1,e2,q⟩:_:=Et h2;have o1:=(VN ok e1).2.g;have o2:=(VN ok e2).2.g;have ea:=ot (EL.of ok o1) (EL.of ok o2);have pc:=iK ok (EL.of ok o1) (EL.of ok o2);have gd:=gh ok o1 o2;have kr:=pc.kr;have hL:∀ms,QM ms->ms.length<=(EQ (CV wk.ws wk.ds r1.2.1 r2.2.1)).length->QY (EQ (CV wk.ws wk.ds r1.2.1 r2.2.1)) (Hk (EQ (CV wk.ws wk.ds r1.2.1 r2.2.1))) r1.2.1 r2.2.1 (HF (EQ (CV wk.ws wk.ds r1.2.1 r2.2.1)).length ms)=true:=λms hb hl=>pd pc (qB hb hl) (Yr ..) gd;clear pc;generalize hrow:EQ (CV wk.ws wk.ds r1.2.1 r2.2.1)=row at q ea gd kr hL;unfold OG at q;have en:∀s,Ld s->Hk row s=Hk row s:=λ_ _=>rfl;obtain⟨E,hE⟩:∃E,Hk row=E:=⟨_,rfl⟩;have hN:∀ms,XT row r1.2.1 r2.2.1 ms=Zp (λk=>QY row E r1.2.1 r2.2.1 (HF k ms)) ms.length row.length:=λms=>by rw[<- hE];rfl
 generalize XT row r1.2.1 r2.2.1=N at q hN;rw[hE]at gd kr hL q;have en:∀s,Ld s->E s=Hk row s:=λ_ _=>by rw[hE]
 clear hE;refine⟨_,(qC (CA 3 nN (BR (qA (Bc BA (As T.x43.d (VX T) nofun (qA (qv 0) (qA (qv 1) qN))) Ai) (qA (Bc BA (As T.x43.d (VX T) nofun (qA (qv 0) (qA (qv 2) qN))) Ai) qN)))) (qC (CA 4 nN (XD T.mk_Known T.x49.d (ZcL T) nofun T.mgc_Known (qA (As T.x45.d (Η T) nofun (qA (qv 0) (qA (qv 1) (qA (qv 2) qN)))) qN))) (qC (CA 5 nN (KQ qN)) (qO (VR AS (Ir Vq) (qC (E2 (E9 T.cl_Known T.x53.d (Zel T) nofun (qv 4) (qA (qv 3) qN))) (qC (CA 6 nN (E9 T.cl_Known T.x57.d (wK T) nofun (qv 4) (qA (qv 3) qN))) (qC (DD (AV (fT (Uj hr)) (qv 6) (BR (qA Ai (qA Ai qN)))) (qO (Cw (KP T.cl_Known T.x59.d (Zc9 T) nofun (qv 4)))) qE) (qC (E2 (L7 AZ Br Bq Rh (qv 5) (qA (BR (qA (Ey VE T.B.tuple EZ (qA (GU T.cl_Known T.na_Known_marks (qv 4)) qN)) (qA (eR (qv 6) (qA Ai qN)) qN))) qN))) (qC (DD (AV JK (BW Kb T.B.len BP (qA (qv 5) qN)) (Iu T.m_MOST_CUBES)) (qO (Cw (BR (qA Bn qN)))) qE) (qO (DD (LF (Ir (KP T.cl_Known T.x56.d (Δ T) nofun (qv 4)))) (qO (Cw (BR (qA Bn (qA (L6 (qv 5)) qN))))) qE)))))))))))),?_⟩;clear h1 h2;right;refine⟨wk,r1,rfl,e1,?_⟩;unfold MM;grind;refine⟨wk,r2,rfl,e2,?_⟩;grind;refine⟨wk,r1,r2,rfl,ok,e1,e2,λp hp o ho=>?_⟩;rw[ea]at ho ⊢;refine⟨put M p (.lst (row.map bD)),o,p,E,row,rfl,rfl,rfl,ho,DN,kr,en,λM1 A ao aq kn fz fr=>?_⟩;subst ao;generalize r1.2.1=t at gd hL q hN ⊢;generalize r2.2.1=u at gd hL q hN ⊢;grind;intro c hc;have off:=kn.off hc
 have kp:∀x u,M x=some u->x≠c/\x∉[A.m,A.b,A.e,A.f,A.g]/\M1 x=some u:=λx v h=>by
  have h0:put M p (.lst (row.map bD)) x=some v:=by rw[DY (Jv hp h)];exact h
  have h1:=fr x v h0;exact⟨Jv hc h1,λhx=>(nomatch (fz x hx).symm.trans h0),h1⟩
 have kc:c∉[A.m,A.b,A.e,A.f,A.g]:=λhx=>off c (by simp only[Bx,AX,or_false]at hx ⊢;rcases hx with e | e | e | e | e<;>simp[e]) rfl;generalize hG:D.tup [t.D,u.D]=G;refine⟨λk τ M'=>∃ms cs x,((k+cs.length=64)/\QM ms/\ms.length<=row.length/\FN T.C_Known M' A E row ms ms/\M' c=some (.lst (cs.map Oa))/\(∀x u,M x=some u->M' x=some u)/\∀M' v,(∀p o,M p=some o->M' p=some o)->Sd M M' v (Q6 N (λms=>gM row ms E "one" t) (λms=>gM row ms E "other" u) (λms=>Ka row ms E) (k+1) ms cs)->Q v M')/\τ=[some wk.D,some (.str a),some (.str b),some G,some (.ref A.o),some (.ref c),x],⟨64,[],[],_,⟨rfl,λm hm=>(nomatch hm),C9 _,oC kn off,DN,λx v h=>by rw[DY (kp x v h).1];exact(kp x v h).2.2,q⟩,rfl⟩,?_⟩;intro k τ M' hI';refine Al λG' kk'=>?_;obtain⟨ms,cs,x,⟨hk,hb,hl,kn',hcs,hs,hq⟩,e1'⟩:=hI';refine kk' ?_;clear kk';subst e1';grind;rw[kn'.o,Hl];subst hG;refine⟨Me (by nofun) (by nofun) (by nofun),A,E,row,ms,t,u,wk.ws,wk.ds,λk=>QY row E t u (HF k ms),rfl,rfl,kr,kn',gZ hb,gd,hl,λ_=>rfl,hL ms hb hl,λM2 N0 eN n1 n2 n3 k2 o2=>?_⟩;rw[<- hN]at eN;subst eN;have b2:=qB (n:=N ms) hb n1;grind;rw[k2.o,Hl];refine⟨Me (by nofun) (by nofun) (by nofun),A,E,row,_,t,u,wk.ws,wk.ds,rfl,rfl,kr,k2,gZ b2,gd,?_⟩;grind;have hc2:M2 c=some (.lst (cs.map Oa)):=by rw[o2 c kc];exact hcs
 have hs2:∀x u,M x=some u->M2 x=some u:=λx v h=>by rw[o2 x (kp x v h).2.1];exact hs x v h
 rw[Q6]at hq;generalize hks:HF (N ms) ms=ks at k2 b2 hq ⊢;have lk:ks.length<=row.length:=by rw[<- hks,Yr];exact n2
 have j0:¬(gM row ks E "one" t=1/\gM row ks E "other" u=1)->¬gM row ks E "one" t=0->gM row ks E "other" u=0:=λc1 c2=>by
  have z:QY row E t u (HF (N ms) ms)=true:=n3;rw[hks]at z;rcases of_decide_eq_true z with z|z|z
  .exact absurd z c2
  .exact z
  .exact absurd z c1
 refine Cv (λc1=>?_) λc1=>?_
 .rw[if_pos c1]at hq;refine⟨Me (by nofun) (by nofun) (by nofun),A,E,row,ks,rfl,kr,k2,λp0 M' hp0 hM' hk'=>Dn.of (hq M' _ (λx v h=>?_) (.inr ⟨p0,_,_,?_,hM',rfl,rfl⟩))⟩
  .have nx:=(kp x v h).2.1;exact hk' x v (hs2 x v h) λhx=>nx (Aw _ hx)
  .cases e:M p0 with
   |none=>rfl
   |some u0=>
    rcases hp0 with h|h
    .rw[hs2 p0 u0 e]at h;cases h
    .exact absurd (by rw[h];simp) (kp p0 u0 e).2.1
 .rw[if_neg c1]at hq;refine⟨LZ hc2,?_⟩;rw[QG,Cn,QZ k2.m,Cn];obtain⟨a2,kk,ek,tr⟩:=s9 b2;have lc:(cs.map Oa).length<Am:=B5 (by rw[Ae];ext)
  obtain⟨v0,hv,ev⟩:∃v:Int,(v=0/\gM row ks E "one" t=0\/v=1/\gM row ks E "one" t≠0/\gM row ks E "other" u=0)/\(if gM row ks E "one" t=0 then(0:Int)else 1)=v:=by
   by_cases z:gM row ks E "one" t=0
   .exact⟨0,.inl ⟨rfl,z⟩,if_pos z⟩
   .exact⟨1,.inr ⟨rfl,z,j0 c1 z⟩,if_neg z⟩
  rw[ev]at hq;refine⟨_,_,rfl,v0,hv,?_⟩;rw[nP hc2,ba];refine⟨lc,?_⟩;have k3:=oC (v:=.lst (EV Oa (cs++[(ks,v0)]))) k2 off;have c3:put M2 c (.lst (EV Oa (cs++[(ks,v0)]))) c=_:=DN;have s3:∀x u,M x=some u->put M2 c (.lst (EV Oa (cs++[(ks,v0)]))) x=some u:=λx v h=>by rw[DY (kp x v h).1];exact hs2 x v h
  generalize put M2 c (.lst (EV Oa (cs++[(ks,v0)])))=M3 at k3 c3 s3 ⊢;rw[QZ c3,Cn,Ae,Ao];refine Cv (λd=>?_) λd=>?_
  .rw[if_pos (by change(64:Int)<((cs.length+1:Nat):Int)at d;ext)]at hq;exact Dn.of (hq M3 _ s3 (.inl ⟨rfl,by nofun⟩))
  .have k0:¬k=0:=by change¬(64:Int)<((cs.length+1:Nat):Int)at d;ext
   rw[if_neg k0]at hq;rw[k3.o,Hl];rw[ek]at k3;have lk2:=lk;have mk2:=b2;rw[ek]at lk2 mk2;rw[Ao]at lk2;refine⟨Me (by nofun) (by nofun) (by nofun),A,E,row,a2,kk,rfl,kr,k3,gZ λm hm=>mk2 m (BB _ hm),lk2,?_⟩;rcases tr with⟨ta,tt⟩|⟨b1,ta,tt⟩
   .rw[tt]at hq;refine .inl ⟨ta,λM4 k4 o4=>?_⟩;rw[o4 c kc,c3];refine Dn.of (hq _ _ (λx v h=>?_) (.inl ⟨rfl,show("never":Str)≠"both" by nofun⟩));rw[Mg (kp x v h).1,o4 x (kp x v h).2.1];exact s3 x v h
   .rw[tt]at hq;refine .inr ⟨b1,ta,λM4 k4 o4=>⟨k-1,by ext,b1++[1],cs++[(ks,v0)],_,⟨by rw[Ao];change k-1+(cs.length+1)=64;ext,λm hm=>?_,?_,k4,by rw[o4 c kc];exact c3,λx v h=>by rw[o4 x (kp x v h).2.1];exact s3 x v h,?_⟩,rfl⟩⟩
    .rcases AH.mp hm with hm|hm
     .exact mk2 m (BB _ (by rw[ta];exact BB _ hm))
     .exact .inr (AN.mp hm)
    .rw[ta,Ao]at lk2;rw[Ao];change b1.length+1+_<=_ at lk2;change b1.length+1<=_;ext
    .rw[show k-1+1=k by ext];exact hq
end
abbrev xm:Ee:=λds M Q=>Fq ds λx y=>GI y λz=>∃(wk:Wk) (r:Str×Tm×List (Str×Tm)),x=wk.D/\wk.rs.find? (Fs z)=some r/\r.2.2.length<=6/\∀p,M p=none->Q (.ref p) (put M p (.lst ((O5 (r.2.2.map (·.1))).map D.str)))
theorem we:Od T T.x62 2 xm:=by
 refine CM.p2 T.x62.d.F ["works", "name"] λx y M Q hr nN h1=>?_;obtain⟨z,e1',wk,r,e2',hf,hl,q⟩:_:=Et h1;refine⟨_,(qO (Cw (BW re T.B.sorted boot_sorted (qA (GV (caps:=[]) ⟨rfl,by rfl,by rfl,by rfl,rfl,by rfl,by nofun⟩ rfl (QD (Bc BA (As T.x43.d (VX T) nofun (qA (qv 0) (qA (qv 1) qN))) Ai)) (λ_ _ _ _ _ _=>(Bc BA (qv 0) Ai))) qN)))),?_⟩;right;refine⟨wk,r,rfl,hf,?_⟩;simp only[MM];grind;refine F4.of (g:=LX) (f:=λw=>.str w.1) (HD (by ext)) trivial (λw hw R q=>?_) ?_
 .simp only[LX];walk_at "cap";exact q
 rw[show r.2.2.map (λw=>D.str w.1)=(r.2.2.map (·.1)).map D.str by rw[CP];rfl,QF,Cn];exact⟨by rw[Ae];ext,λp hp=>Dn.of (q p hp)⟩
theorem wo {xs ys:List Str}(h:∀x,x∈xs↔x∈ys):HE xs=HE ys:=
 GS (λa b _ _ p q=>ZV p q) (Di UJ VJ _) (Di UJ VJ _) ((F6 (Rc xs) (Rc ys)).mpr λa=>by rw[GF,GF];exact h a)
theorem ZG {xs zs:List Str}(h:∀x∈xs,x∈zs):(fm xs).length<=zs.length:=by
 rw[<- iA];exact UC _ _ (Rc xs) λx hx=>h x (GF.mp hx)
noncomputable def CF (f:Str)(g:Tm)(ts:List Tm):List Str:=g.names f++(ts.map (Tm.names f)).flatten
structure MX (zs:List Str)(g:Tm)(ts:List Tm):Prop where
 z:zs.length<=20
 l:ts.length<=6
 t:∀t∈g::ts,(t.deep<=12/\t.parts<=100)/\∀f,∀n∈t.names f,n∈zs
theorem MX.few {zs:List Str}{g t:Tm}{ts:List Tm}(h:MX zs g ts)(ht:t∈g::ts):∀f,G7 f->(fm (t.names f)).length<64:=λf _=>by
 have:=ZG ((h.t t ht).2 f);have:=h.z;ext
theorem sy {M M':Mp}{p:Av}{o:MO}(s:Sub M M'):Sub (put M p o) (put M' p o):=λb u e=>by
 by_cases h:b=p
 .subst h;rw[DN]at e ⊢;exact e
 .rw[DY h]at e ⊢;exact s b u e
abbrev Zf9:Ee:=λds M Q=>Fq ds λx y=>∃(r:Str×Tm×List (Str×Tm)) (k:Int) (f:Str) (zs:List Str),x=MM r/\y=.int k/\((k=0/\f = "box")\/(k=1/\f = "late"))/\MX zs r.2.1 (r.2.2.map (·.2))/\∀p,M p=none->Q (.ref p) (put M p (.lst ((HE (CF f r.2.1 (r.2.2.map (·.2)))).map D.str)))
theorem Θ:Od T T.x64 17 Zf9:=by
 refine CM.p2 T.x64.d.F ["rule", "number", "names", "write"] λx y M Q hr nN h=>?_;obtain⟨r,k,f,zs,e1',e2',hk,ok,q⟩:_:=h;refine⟨_,(Ec (CA 2 nN (Bc BA (As T.x17.d (ZW T) nofun (qA (Bc BA (qv 0) Ai) qN)) (qv 1))) (Ec (MC AS rfl (QD (Bc BA (qv 0) Ai)) (Pc (i:=3) nN rfl (BH rfl)) (qO (E2 (L7 AZ CO CN Tg (qv 2) (qA (Bc BA (As T.x17.d (ZW T) nofun (qA (Bc BA (qv 3) Ai) qN)) (qv 1)) qN))))) (qO (Cw (lF rfl T.B.sorted T.B.set (qv 2)))))),?_⟩
 (try simp only[Kj,Kh,Ki])
 have two:∀t,t∈r.2.1::r.2.2.map (·.2)->∀(M0:Mp) (R:D->Mp->Prop),(∀M1 p,Sub M0 M1->M0 p=none->M1 p=some (.lst ((HE (t.names f)).map D.str))->R (.ref p) M1)->(t.deep<=12/\t.parts<=1000/\(∀f,G7 f->(fm (t.names f)).length<64)/\∀p0 p1 p2,M0 p0=none->M0 p1=none->M0 p2=none->¬p1=p0->¬p2=p0->¬p2=p1->CH (GY [D.ref p0,.ref p1,.ref p2] k) λv=>R v (put (put (put M0 p0 (Mz "box" t)) p1 (Mz "late" t)) p2 (Mz "door" t))):=λt ht M0 R hR=>by
  refine⟨(ok.t t ht).1.1,AY (ok.t t ht).1.2 (by decide),ok.few ht,λp0 p1 p2 m0 m1 m2 n1 n2 n3=>?_⟩;have sb:Sub M0 (put (put (put M0 p0 (Mz "box" t)) p1 (Mz "late" t)) p2 (Mz "door" t)):=Sub.puts (Sub.puts (Sub.put m0) m1) m2;rcases hk with⟨rfl,rfl⟩|⟨rfl,rfl⟩
  .exact hR _ p0 sb m0 (by rw[DY (Bg n2),DY (Bg n1),DN];rfl)
  .exact hR _ p1 sb m1 (by rw[DY (Bg n3),DN];rfl)
 refine⟨λτ M2=>∃p,(Sub M M2/\M p=none/\M2 p=some (.lst ((HE (r.2.1.names f)).map D.str)))/\τ=[some (MM r),some (.int k),some (.ref p),none],?_,?_⟩
 .simp only[MM];grind;exact two r.2.1 AA M (λv M1=>∃p,(Sub M M1/\M p=none/\M1 p=some (.lst ((HE (r.2.1.names f)).map D.str)))/\[some (D.tup [.str r.1,r.2.1.D,.tup (r.2.2.map LX)]),some (.int k),some v,none]=[some (D.tup [.str r.1,r.2.1.D,.tup (r.2.2.map LX)]),some (.int k),some (.ref p),none]) λM1 p h1 h2 h3=>⟨p,⟨h1,h2,h3⟩,rfl⟩
 intro τ M2;ext1⟨p,⟨sb,hp,hM⟩,e1'⟩;have hz:=ok.z;have hl:=ok.l;rw[Ae]at hl
 have srl:∀t∈r.2.1::r.2.2.map (·.2),(HE (t.names f)).length<=20:=λt ht=>by
  rw[iA];exact AY (ZG ((ok.t t ht).2 f)) hz
 refine⟨λτ M3=>∃(l:List Str) (v:Option D),(Sub M M3/\M3 p=some (.lst (l.map D.str))/\l.length<=140/\∀n,n∈l↔n∈CF f r.2.1 (r.2.2.map (·.2)))/\τ=[some (MM r),some (.int k),some (.ref p),v],?_,?_⟩
 .simp only[MM];grind;refine⟨λi τ M3=>∃(l:List Str) (v:Option D),(Sub M M3/\M3 p=some (.lst (l.map D.str))/\l.length<=20+20*i/\∀n,n∈l↔n∈CF f r.2.1 ((r.2.2.take i).map (·.2)))/\τ=[some (MM r),some (.int k),some (.ref p),v],⟨HE (r.2.1.names f),none,⟨sb,hM,srl _ AA,λn=>by rw[GF];simp[CF]⟩,rfl⟩,λ_ _ _ _=>trivial,?_,?_⟩
  .intro i d τ M3 hd;ext1⟨l,v,⟨sb,hM,hll,hmem⟩,e1'⟩;obtain⟨w0,hw0,rfl⟩:=Pb hd;obtain⟨hi,_⟩:=Au.mp hw0;have hin:w0.2∈r.2.1::r.2.2.map (·.2):=Aw _ (DR (AG hw0));have et:r.2.2.take (i+1)=r.2.2.take i++[w0]:=by rw[A3,hw0];rfl
   simp only[LX];grind;refine⟨LZ hM,two w0.2 hin M3 (λv M1=>Ga (.ref p) [v] M1 λ_ M1=>∃(l:List Str) (v:Option D),(Sub M M1/\M1 p=some (.lst (l.map D.str))/\l.length<=20+20*(i+1)/\∀n,n∈l↔n∈CF f r.2.1 ((r.2.2.take (i+1)).map (·.2)))/\[some (MM r),some (.int k),some (.ref p),some (D.tup [.str w0.1,w0.2.D])]=[some (MM r),some (.int k),some (.ref p),v]) λM1 p1 h1 h2 h3=>?_⟩;have h4:=srl _ hin;rw[nW (h1 p _ hM) (OH h3)];refine⟨HD (by rw[Ae,Ae];ext),l++HE (w0.2.names f),_,⟨Sub.puts (sb.trans h1) hp,by rw[DN,AI],by rw[Ao];ext,λn=>?_⟩,rfl⟩;rw[D7,hmem,GF,et];simp[CF,or_assoc]
  .intro τ M3;ext1⟨l,v,⟨h1,h2,h3,h4⟩,e1'⟩;rw[Ae]at h3 h4;rw[Bw]at h4;exact⟨l,v,⟨h1,h2,by ext,h4⟩,rfl⟩
 intro τ M3;ext1⟨l,v,⟨sb,hM,hll,hmem⟩,e1'⟩;grind;rw[OH hM,Cn,QF,Cn]
 have few:(fm l).length<=20:=AY (ZG (zs:=zs) λx hx=>by
  have:=(hmem x).mp hx;unfold CF at this;rcases AH.mp this with h|h
  .exact(ok.t _ AA).2 f x h
  .obtain ⟨ns,hns,hx⟩:=Ku.mp h;obtain ⟨t,ht,rfl⟩:=AB.mp hns;exact (ok.t t (Aw _ ht)).2 f x hx) hz
 refine⟨by have:1000<A9:=(by decide);ext,by ext,λa ha=>?_⟩
 have haM:M a=none:=by
  cases e:M a with
  |none=>rfl
  |some o=>rw[sb a o e]at ha;cases ha
 rw[wo hmem];exact Ta (sy sb) (q a haM)
abbrev ZeZ:Ee:=λds M Q=>Fq ds λx y=>GI y λz=>∃(wk:Wk) (r:Str×Tm×List (Str×Tm)) (zs:List Str),x=wk.D/\wk.rs.find? (Fs z)=some r/\MX zs r.2.1 (r.2.2.map (·.2))/\∀p,M p=none->Q (.ref p) (put M p (.lst ((HE (CF "box" r.2.1 (r.2.2.map (·.2)))).map D.str)))
theorem Μ:Od T T.x63 18 ZeZ:=by
 refine CM.p2 T.x63.d.F ["works", "name"] λx y M Q hr nN h1=>?_;obtain⟨z,e1',wk,r,zs,e2',hf,ok,q⟩:_:=Et h1;refine⟨_,(qO (Cw (As T.x64.d (Θ T) nofun (qA (As T.x43.d (VX T) nofun (qA (qv 0) (qA (qv 1) qN))) (qA Ai qN))))),?_⟩;right;exact⟨wk,r,rfl,hf,r,0, "box",zs,rfl,rfl,.inl ⟨rfl,rfl⟩,ok,λp hp=>Dn.of (q p hp)⟩
theorem qM (xs:List Str):(O5 xs).length=xs.length:=(Ez _ _).length_eq
theorem lH (h:M p=some (.lst xs)):Bo M (.ref p)=some xs:=by simp[Bo,h]
theorem qV (N:List Int->Nat)(g g':List Int->Int)(row:List (Str×Str×Nat))(E:Str->List (Str×Nat)):∀(f:Nat) (ms:List Int) (cs:List (List Int×Int)),∃s l,Q6 N g g' (λms=>Ka row ms E) f ms cs=.tup (.str s::l)
 |0,_,_=>⟨_,_,rfl⟩
 |f+1,ms,cs=>by
  rw[Q6];split
  .exact⟨_,_,rfl⟩
  .split
   .exact⟨_,_,rfl⟩
   .split
    .exact⟨_,_,rfl⟩
    .exact qV N g g' row E f _ _
noncomputable def IM (f:Str)(r1 r2:Str×Tm×List (Str×Tm)):List Str:=La (O5 (r1.2.2.map (·.1))) (HE (CF f r2.2.1 (r2.2.2.map (·.2))))
noncomputable def R0 (wk:Wk)(r1 r2:Str×Tm×List (Str×Tm)):Bool:=!(IM "box" r1 r2).isEmpty && !decide (MU (OG (EQ (CV wk.ws wk.ds r1.2.1 r2.2.1)) r1.2.1 r2.2.1) = "never")
theorem Wk.Ok.rd {wk:Wk}(ok:wk.Ok){r:Str×Tm×List (Str×Tm)}(h:r∈wk.rs):MX (wk.ws.map (·.1)++wk.ds.map (·.1)) r.2.1 (r.2.2.map (·.2)):=by
 have rk:=(ok.r.2 r h).2
 have go:∀{t:Tm} {n:Int},Oe wk.ws wk.ds t n->(t.deep<=12/\t.parts<=100)/\∀f,∀n∈t.names f,n∈wk.ws.map (·.1)++wk.ds.map (·.1):=λ{t n} h=>by
  refine⟨⟨h.1.2,h.1.1⟩,λf x hx=>?_⟩;obtain⟨l,hl,e⟩:=Ci.mp hx;obtain⟨a,ha⟩:=h.2.leaf l hl;cases l with
  |box y=>
   have e:(if f = "box" then some y else none)=some x:=e;split at e
   .cases e;cases ha with
    |box c=>exact BB _ (VO c)
    |over _ ho=>exact absurd rfl (Tm.over_len ho).2
   .cases e
  |late y=>
   have e:(if f = "late" then some y else none)=some x:=e;split at e
   .cases e;cases ha with
    |late c=>exact BB _ (VO c)
    |over _ ho=>exact absurd rfl (Tm.over_len ho).2
   .cases e
  |door y=>
   have e:(if f = "door" then some y else none)=some x:=e;split at e
   .cases e;cases ha with
    |door c=>exact AR _ (VO c)
    |over _ ho=>exact absurd rfl (Tm.over_len ho).2
   .cases e
  |_=>cases e
 refine⟨?_,by rw[Ae];exact rk.l,λt ht=>?_⟩
 .unfold Wk.ws;have:=ok.b.1;have:=ok.d.1;rw[Ao,Ae,Ae,Ae];ext
 .rcases AU.mp ht with rfl|ht
  .exact go rk.g
  .obtain⟨w,hw,rfl⟩:=AB.mp ht;obtain⟨n,-,tk⟩:=rk.w w hw;exact go tk
theorem jb {wk:Wk}(ok:wk.Ok)(h:r∈wk.rs)(f:Str)(hf:f = "box"\/f = "late"):(HE (CF f r.2.1 (r.2.2.map (·.2)))).length<=12:=by
 have lw:(wk.ws.map (·.1)).length<=12:=by unfold Wk.ws;rw[Ae,Ae];exact ok.b.1
 refine AY (UC _ (wk.ws.map (·.1)) (Rc _) λx hx=>?_) lw;have rk:=(ok.r.2 r h).2
 have go:∀{t:Tm} {n:Int},Oe wk.ws wk.ds t n->x∈t.names f->x∈wk.ws.map (·.1):=λ{t n} h hx=>by
  obtain⟨m,e⟩:=tM h.2 (x:=x) (by rcases hf with rfl|rfl<;>simp[hx]);exact VO e
 have hx:=GF.mp hx;unfold CF at hx;rcases AH.mp hx with hx|hx
 .exact go rk.g hx
 .obtain⟨ns,hns,hx⟩:=Ku.mp hx;obtain⟨t,ht,rfl⟩:=AB.mp hns;obtain⟨w,hw,rfl⟩:=AB.mp ht;obtain⟨n,-,tk⟩:=rk.w w hw;exact go tk hx
abbrev sr:Ee:=λds M Q=>Kw ds λx y z=>GI y λa=>GI z λb=>∃(wk:Wk) (r1 r2:Str×Tm×List (Str×Tm)),x=wk.D/\wk.Ok/\wk.rs.find? (Fs a)=some r1/\wk.rs.find? (Fs b)=some r2/\∀v M',Sub M M'->(R0 wk r1 r2=false/\v=.non\/R0 wk r1 r2=true/\∃z l x,IM "box" r1 r2=z::l/\v=.tup [.str z,x]/\Sd M M' x (OG (EQ (CV wk.ws wk.ds r1.2.1 r2.2.1)) r1.2.1 r2.2.1))->Q v M'
theorem qY:Od T T.x65 26 sr:=by
 refine CM.p3 T.x65.d.F ["works", "ahead", "behind", "boxes", "answer"] λx y z M Q hr nN h1=>?_;obtain⟨a,rfl,h2⟩:=Et h1;obtain⟨b,e1',wk,r1,r2,e2',ok,e1,e2,q⟩:_:=Et h2;clear h1 h2;have m1:=Gn e1;have m2:=Gn e2;have w6:=(ok.r.2 r1 m1).2.l;refine⟨_,(qC (CA 3 nN (As T.x46.d (jG T) nofun (qA (As T.x62.d (we T) nofun (qA (qv 0) (qA (qv 1) qN))) (qA (As T.x63.d (Μ T) nofun (qA (qv 0) (qA (qv 2) qN))) qN)))) (qC (DD (AV Cm (BW Kb T.B.len BP (qA (qv 3) qN)) Ai) (qO (Cw O6)) qE) (qC (CA 4 nN (As T.x61.d (vL T) nofun (qA (qv 0) (qA (qv 1) (qA (qv 2) qN))))) (qC (DD (AV Cm (Bc BA (qv 4) Ai) Bn) (qO (Cw O6)) qE) (qO (Cw (BR (qA (Bc E1 (qv 3) Ai) (qA (qv 4) qN))))))))),?_⟩;right;refine⟨wk,r1,rfl,e1,w6,λp hp=>?_⟩;refine⟨wk,r2,_,rfl,e2,ok.rd m2,λp' hp'=>?_⟩;have hne:p≠p':=λe=>by rw[e,DN]at hp';cases hp'
 have hM:M p'=none:=by rw[DY (Bg hne)]at hp';exact hp'
 have sb:=(Sub.put (o:=.lst ((O5 (r1.2.2.map (·.1))).map D.str)) hp).puts (o:=.lst ((HE (CF "box" r2.2.1 (r2.2.2.map (·.2)))).map D.str)) hM;refine⟨_,_,lH (by rw[DY hne,DN]),rfl,by rw[qM,Ae];ext,jb ok m2 "box" (.inl rfl),?_⟩;have cl:R0 wk r1 r2=(!(IM "box" r1 r2).isEmpty && !decide (MU (OG (EQ (CV wk.ws wk.ds r1.2.1 r2.2.1)) r1.2.1 r2.2.1) = "never")):=rfl;change if ((IM "box" r1 r2).length:Int)=0 then _ else _
 refine Cv (λc=>?_) λc=>?_
 .have:IM "box" r1 r2=[]:=AC (by ext);rw[this]at cl;exact Ta sb (q .non _ (Sub.refl _) (.inl ⟨cl,rfl⟩))
 refine⟨wk,r1,r2,rfl,ok,e1,e2,λM' v hM' hv=>?_⟩;have sb2:Sub M M':=sb.trans hM'
 have hv2:Sd M M' v (OG (EQ (CV wk.ws wk.ds r1.2.1 r2.2.1)) r1.2.1 r2.2.1):=by
  rcases hv with h|⟨p0,AQ,l,h0,h1,h2,h3⟩
  .exact .inl h
  .refine .inr ⟨p0,AQ,l,?_,h1,h2,h3⟩;cases e:M p0 with
   |none=>rfl
   |some u=>rw[sb p0 u e]at h0;cases h0
 obtain⟨w0,l0,e0,ew⟩:∃w0 l0,v=.tup (.str w0::l0)/\MU (OG (EQ (CV wk.ws wk.ds r1.2.1 r2.2.1)) r1.2.1 r2.2.1)=w0:=by
  rcases hv with⟨rfl,-⟩|⟨p0,AQ,l,-,-,h2,h3⟩
  .obtain⟨w0,l0,e0⟩:=qV (XT (EQ (CV wk.ws wk.ds r1.2.1 r2.2.1)) r1.2.1 r2.2.1) (λms=>gM (EQ (CV wk.ws wk.ds r1.2.1 r2.2.1)) ms (Hk (EQ (CV wk.ws wk.ds r1.2.1 r2.2.1))) "one" r1.2.1) (λms=>gM (EQ (CV wk.ws wk.ds r1.2.1 r2.2.1)) ms (Hk (EQ (CV wk.ws wk.ds r1.2.1 r2.2.1))) "other" r2.2.1) (EQ (CV wk.ws wk.ds r1.2.1 r2.2.1)) (Hk (EQ (CV wk.ws wk.ds r1.2.1 r2.2.1))) 65 [] [];have e0:OG (EQ (CV wk.ws wk.ds r1.2.1 r2.2.1)) r1.2.1 r2.2.1=.tup (.str w0::l0):=e0;exact⟨w0,l0,e0,by rw[e0];rfl⟩
  .exact⟨_,_,h2,by rw[h3];rfl⟩
 rw[ew]at cl;rw[e0]at hv2 ⊢;clear hv;grind;change if w0=Ak "never" then _ else CH (GY ((IM "box" r1 r2).map D.str) 0) _
 cases em:IM "box" r1 r2 with
 |nil=>exact absurd (by rw[em];rfl) c
 |cons z ml=>
  rw[em]at cl;refine Cv (λd=>?_) λd=>?_
  .rw[decide_eq_true d]at cl;exact Ta sb2 (q .non _ (Sub.refl _) (.inl ⟨cl,rfl⟩))
  .rw[decide_eq_false d]at cl;rw[show GY ((z::ml).map D.str) 0=some (.str z)from Oc (j:=0) rfl,Cn];exact Dn.of (q _ M' sb2 (.inr ⟨cl,z,ml,_,em,rfl,hv2⟩))
abbrev γ:Ee:=λds M Q=>Fq ds λx y=>Kk M x λ_=>EH y λk=>(0<=k/\k<=1000)/\∀z:Int,0<=z->Q (.int z) M
theorem Ti:Od T T.x66 1 γ:=by
 refine CM.p2 T.x66.d.F ["script", "k"] λx y M Q hr nN h1=>?_;obtain⟨ns,hls,hsq,h2⟩:=Yh h1;obtain⟨k,e1',⟨k0,k1⟩,q⟩:_:=CG h2;refine⟨_,(qC (DD (AV Lx (qv 1) (BW Kb T.B.len BP (qA (qv 0) qN))) (qO (Cw (BE Gm (Bc E1 (qv 0) (qv 1)) Ai))) qE) (qO (Cw (BE Gm (BE OK (BE OK (qv 1) (qv 1)) Ai) Ai)))),?_⟩;right;rw[hsq,hls];simp only[Cn,Ae];refine Cv (λc=>?_) λc=>⟨.inl ⟨by ext,by ext⟩,.inr ⟨by decide,by decide⟩,Dn.of (q _ (Cf _ (by decide)))⟩;obtain⟨o,ho,mo⟩:=Ym (xs:=ns.map D.int) (i:=k) k0 (by rw[Ae];exact c);obtain⟨z,hz,rfl⟩:=AB.mp mo;rw[ho];grind;exact Dn.of (q _ (Cf _ (by decide)))
abbrev ye:Ee:=λds M Q=>Fq ds λx y=>EH x λ_=>EH y λ_=>∀r:Int,0<=r->r<2147483629->Q (.int r) M
theorem Iw:Od T T.x67 1 ye:=by
 refine CM.p2 T.x67.d.F ["number", "salt", "mixed"] λx y M Q hr nN h1=>?_;obtain⟨n,rfl,h2⟩:=CG h1;obtain⟨k,rfl,q⟩:=CG h2;refine⟨_,(qC (CA 2 nN (BE Gm (BE GN (BE GN (BE OK (qv 0) Ai) (BE OK (qv 1) Ai)) Ai) Ai)) (qO (Cw (BE Gm (BE OK (qv 2) (qv 2)) Ai)))),?_⟩;right;have h0:=Cf (n*69621+k*16807+1013) (show(2147483647:Int)≠0 by decide);have h1:=BV (n*69621+k*16807+1013) (show(0:Int)<2147483647 by decide);exact⟨.inr ⟨by decide,by decide⟩,.inr ⟨by decide,by decide⟩,.inl ⟨by ext,by ext⟩,Dn.of (q _ (Cf _ (by decide)) (BV _ (by decide)))⟩
theorem sm:∀c:Nat,small c=true->c<128:=λc h=>by
 unfold small at h;simp at h;ext
theorem mE {z:Str}(h1:1<=z.length)(h8:z.length<=8)(h:∀c∈z.cps.toList,small c=true):GG z:=by
 refine⟨⟨?_,by ext⟩,?_⟩
 .unfold Zr;rw[<- Array.all_toList];exact C5.mpr λc hc=>decide_eq_true (sm c (h c hc))
 .unfold Gh;rw[BQ];exact⟨decide_eq_true ⟨h1,h8⟩,C5.mpr h⟩
theorem Qb {zs:List Str}{z:Str}(h:∀z∈zs,GG z)(hz:GG z):∀y∈zs++[z],GG y:=λy hy=>by
 rcases AH.mp hy with hy|hy
 .exact h y hy
 .rw[AN.mp hy];exact hz
theorem tL {x:Str}{l u:Option Int}{c:Nat}(h:c∈(Bi x l u).cps.toList):c∈x.cps.toList:=by
 unfold Bi at h;split at h
 .exact h
 .rw[OV]at h;obtain⟨i,_,e⟩:=Ci.mp h;rw[<- C0]at e;exact AG e
theorem rF {x:Str}{a b:Nat}(hab:a<=b)(hb:b<=x.length):(Bi x (some (a:Int)) (some (b:Int))).cps.toList=(x.cps.toList.drop a).take (b-a):=by
 have e:=Wh x hab hb;unfold Bi;split
 .next h=>
  rw[Wg hab hb,Ae,B3]at h;have hl:b-a=x.length:=by simpa using h
  have h0:a=0:=by ext
  have h1:b=x.length:=by ext
  subst h0;subst h1;rw[LQ,NI,CB (by rw[A8];exact AJ _)]
 .rw[<- e]
theorem sk {x:Str}{b:Nat}(hb:b<=x.length):(Bi x none (some (b:Int))).cps.toList=x.cps.toList.take b:=by
 have e:Bi x none (some (b:Int))=Bi x (some ((0:Nat):Int)) (some (b:Int)):=by
  unfold Bi;rw[Wi];rfl
 rw[e,rF (C9 _) hb,LQ,NI]
theorem xh {x:Str}{a:Nat}(ha:a<=x.length):(Bi x (some (a:Int)) none).cps.toList=x.cps.toList.drop a:=by
 have e:Bi x (some (a:Int)) none=Bi x (some (a:Int)) (some (x.length:Int)):=by
  unfold Bi;rw[Wj]
 rw[e,rF ha (AJ _),CB (by rw[FV,A8];exact AJ _)]
noncomputable def C4:Str:="abcdefghijklmnopqrstuvwxyz"
theorem ZfB:∀c∈C4.cps.toList,small c=true:=by nofun
theorem jH:C4.cps.toList.length=26:=by nofun
theorem R6 (c:_):(⟨#[c]⟩:Str).length=1:=rfl
theorem Qc {z:Str}{lo hi:Option Int}(h:z.length<=8):(Bi z lo hi).length<=8:=AY (bF z lo hi) h
def Hz (A B:Str)(n sv:Int)(j:Nat)(z:Str):Prop:=∃c,GY C4.cps.toList ((n%26+(0+(j:Int))*sv)%26)=some c/\((n / 13312%2=0/\z=A++⟨#[c]⟩++B)\/(¬n / 13312%2=0/\∃r:Str,z=r++⟨#[c]⟩))
theorem Yp (a b:Str):(a++b).cps.toList=a.cps.toList++b.cps.toList:=by
 show(a.cps++b.cps).toList=_;rw[FO]
theorem vn:C4.cps.toList.Nodup:=by nofun
theorem vm {i j:Int}{c:_}(hi:0<=i)(hj:0<=j)(h1:GY C4.cps.toList i=some c)(h2:GY C4.cps.toList j=some c)(i6:i<26)(j6:j<26):i=j:=by
 obtain⟨a,rfl⟩:∃a:Nat,i=(a:Int):=⟨i.toNat,by ext⟩;obtain⟨b,rfl⟩:∃b:Nat,j=(b:Int):=⟨j.toNat,by ext⟩;have la:a<C4.cps.toList.length:=by rw[jH];ext
 have lb:b<C4.cps.toList.length:=by rw[jH];ext
 rw[Oc (Ag la)]at h1;rw[Oc (Ag lb)]at h2;have:=(JB vn).mp ((Ba h1).trans (Ba h2).symm);ext
theorem xt {A B z:Str}{n sv:Int}{i j:Nat}(svi:∀(f i j:Int),0<=i->0<=j->i<26->j<26->(f+i*sv)%26=(f+j*sv)%26->i=j)(i6:i<26)(j6:j<26)(h1:Hz A B n sv i z)(h2:Hz A B n sv j z):i=j:=by
 obtain⟨c,ac,hc⟩:=h1;obtain⟨d,ad,hd⟩:=h2
 have e:c=d:=by
  rcases hc with⟨n1,rfl⟩|⟨n1,r,rfl⟩
  .rcases hd with⟨_,h⟩|⟨n2,_⟩
   .have:=congrArg (λs:Str=>s.cps.toList) h;simp only[Yp]at this;simpa using this
   .exact absurd n1 n2
  .rcases hd with⟨n2,_⟩|⟨_,r2,h⟩
   .exact absurd n2 n1
   .have:=congrArg (λs:Str=>s.cps.toList) h;simp only[Yp]at this;have:=(List.append_inj' this rfl).2;simpa using this
 subst e;have:=svi (n%26) (0+(i:Int)) (0+(j:Int)) (by ext) (by ext) (by ext) (by ext) (vm (by ext) (by ext) ac ad (by ext) (by ext));ext
theorem xu {A B:Str}{n sv:Int}{zs:List Str}(svi:∀(f i j:Int),0<=i->0<=j->i<26->j<26->(f+i*sv)%26=(f+j*sv)%26->i=j)(hl:zs.length<=26)(h:∀j z,zs[j]? = some z->Hz A B n sv j z):zs.Nodup:=by
 unfold F7;rw[List.pairwise_iff_getElem];intro i j hi hj hij e;have h1:=h i _ (Ag hi);have h2:=h j _ (Ag hj);rw[e]at h1;have:=xt svi (by ext) (by ext) h1 h2;ext
theorem vW {A B z:Str}{n sv:Int}{zs:List Str}{k:Nat}(hl:zs.length=k)(h:∀j z,zs[j]? = some z->Hz A B n sv j z)(hz:Hz A B n sv k z):∀j y,(zs++[z])[j]? = some y->Hz A B n sv j y:=λj y hy=>by
 by_cases e:j<zs.length
 .rw[Es e]at hy;exact h j y hy
 .rw[C7 (by ext)]at hy;by_cases e2:j=k
  .subst e2;rw[hl,Jx]at hy;cases hy;exact hz
  .rw[BJ (by simp;ext)]at hy;cases hy
abbrev Χ:Ee:=λds M Q=>Fq ds λx y=>EH x λn=>EH y λm=>(0<=n/\0<=m/\m<=26)/\∀zs:List Str,(zs.length:Int)=m->zs.Nodup->(∀z∈zs,GG z)->∀p,M p=none->Q (.ref p) (put M p (.lst (zs.map D.str)))
theorem Ζ:Od T T.x68 2 Χ:=by
 refine CM.p2 T.x68.d.F ["number", "many", "letters", "first", "step", "size", "at", "stem", "names", "k", "sign"] λx y M Q hr nN h1=>?_;obtain⟨n,rfl,h2⟩:=CG h1;obtain⟨m,e1',⟨n0,m0,m26⟩,q⟩:_:=CG h2;refine⟨_,(qC (gL (i:=2) nN rfl (I0 rfl) Bn) (qC (CA 3 nN (BE Gm (qv 0) Ai)) (qC (CA 4 nN (Bc E1 (Gb (gA (.int (.int (.int (.int (.int (.int (.int (.int .nil)))))))))) (BE Gm (BE OL (qv 0) Ai) Ai))) (qC (CA 5 nN (BE GN Ai (BE Gm (BE OL (qv 0) Ai) Ai))) (qC (CA 6 nN (BE Gm (BE OL (qv 0) Ai) (qv 5))) (qC (CA 7 nN (L7 PySem.F.plainAttrs_str Mr PySem.F.type_str_join i9 Bn (qA (GV (caps:=[("letters",2),("number",0)]) ⟨rfl,by rfl,by rfl,by rfl,rfl,by rfl,by nofun⟩ rfl (UN T.B.range (qA (qv 5) qN)) (λ_ _ _ _ _ _=>(Bc fY (qv 1) (BE Gm (As T.x67.d (Iw T) nofun (qA (qv 2) (qA (BE GN Ai (qv 0)) qN))) Ai)))) qN))) (qC (CA 8 nN (KQ qN)) (Ec (MC AS rfl (UN T.B.range (qA (qv 1) qN)) (Pc (i:=9) nN rfl (BH rfl)) (qC (CA 10 nN (Bc fY (qv 2) (BE Gm (BE GN (qv 3) (BE OK (qv 9) (qv 4))) Ai))) (qO (DD (AV Cm (BE Gm (BE OL (qv 0) Ai) Ai) Ai) (qO (E2 (L7 AZ Br Bq Rh (qv 8) (qA (BE jF (BE jF (JH nI (qv 7) Yn (UE (qv 6))) (qv 10)) (JH nI (qv 7) (UE (BE GN (qv 6) Ai)) Yn)) qN)))) (qO (E2 (L7 AZ Br Bq Rh (qv 8) (qA (BE jF (BE wa (Bc fY (qv 2) (qv 3)) (BE Gm (qv 9) Ai)) (qv 10)) qN)))))))) (qO (Cw (qv 8))))))))))),?_⟩;right;obtain⟨st,hst,mst⟩:=Ym (xs:=[D.int 1,.int 3,.int 5,.int 7,.int 9,.int 11,.int 15,.int 17]) (i:=n / 26%8) (by ext) (by show _<(8:Int);ext)
 obtain⟨sv,rfl,sv0,sv1,svi⟩:∃sv:Int,st=.int sv/\0<=sv/\sv<=17/\∀(f i j:Int),0<=i->0<=j->i<26->j<26->(f+i*sv)%26=(f+j*sv)%26->i=j:=by
  simp only[Bx,AX,or_false]at mst;rcases mst with rfl|rfl|rfl|rfl|rfl|rfl|rfl|rfl<;>exact⟨_,rfl,by decide,by decide,λf i j _ _ _ _ _=>by ext⟩
 rw[hst];simp only[Cn];generalize hsz:1+n / 208%8=sz;have z1:1<=sz:=by ext
 have z8:sz<=8:=by ext
 refine⟨⟨by decide,by decide⟩,⟨by decide,by decide⟩,⟨by decide,by decide⟩,by ext,⟨by ext,by ext⟩,?_⟩
 have letter:∀i:Int,0<=i->i<26->∃c,GY C4.cps.toList i=some c/\small c=true:=λi h0 h1=>by
  obtain⟨c,hc,mc⟩:=Ym (xs:=C4.cps.toList) (i:=i) h0 (by rw[jH];exact h1);exact⟨c,hc,ZfB c mc⟩
 refine⟨by rw[R8];exact HD (by ext),λi ys M'=>M'=M/\∃zs:List Str,ys=zs.map D.str/\zs.length=i/\Ii zs=i/\∀z∈zs,∀c∈z.cps.toList,small c=true,⟨rfl,[],rfl,rfl,rfl,(λ_ h=>nomatch h)⟩,?_,?_,?_⟩
 .intro i ys M';ext1⟨e1',zs,e2',hl,_,_⟩;exact⟨trivial,by rw[Ae];ext⟩
 .intro i x ys M' hx;ext1⟨e1',zs,e2',hl,hs,hc0⟩;obtain⟨hi,rfl⟩:=Th hx;unfold Gy;dsimp only;rw[if_pos rfl];walk_at "cap";intro r r0 r1;obtain⟨c,hc,sc⟩:=letter (r%26) (by ext) (by ext);change C4.length<=Am/\CH (GY C4.cps.toList (r%26)) _;rw[hc];refine⟨HD (by nofun),zs++[⟨#[c]⟩],by rw[AI];rfl,by rw[Ao,hl];rfl,?_,λz hz=>?_⟩
  rotate_left
  .rcases AH.mp hz with h|h
   .exact hc0 z h
   .rw[AN.mp h];intro c' hc';rw[show c'=c by simpa using hc'];exact sc
  unfold Ii at hs ⊢;rw[AI,List.sum_append,hs];rfl
 .intro ys M';ext1⟨e1',zs,e2',hl,hs,hc0⟩;rw[R8]at hl hs;rw[QF];simp only[Cn];refine⟨⟨rfl,by ext⟩,λstem hstem hsc p hp=>?_⟩
  have ssm:∀c∈stem.cps.toList,small c=true:=λc hc=>by
   obtain⟨z,hz,h⟩:=hsc c hc;exact hc0 z hz c h
  have hs8:stem.length<=8:=by ext
  have hsz2:(stem.length:Int)=sz:=by ext
  have Q9:=Cf (n / 1664) (show sz≠0 by ext);have lV:=BV (n / 1664) (show 0<sz by ext);generalize hA:Bi stem none (some (n / 1664%sz))=A;generalize hB:Bi stem (some (n / 1664%sz+1)) none=B;refine⟨λτ M2=>∃(zs:List Str) (v9 v10:Option D),τ=[some (.int n),some (.int m),some (.str C4),some (.int (n%26)),some (.int sv),some (.int sz),some (.int (n / 1664%sz)),some (.str stem),some (.ref p),v9,v10]/\M2=put M' p (.lst (zs.map D.str))/\(zs.length:Int)=m/\(∀z∈zs,GG z)/\∀j z,zs[j]? = some z->Hz A B n sv j z,?_,?_⟩
  .grind;refine⟨⟨by ext,by ext⟩,λk τ M2=>∃(zs:List Str) (v9 v10:Option D),τ=[some (.int n),some (.int m),some (.str C4),some (.int (n%26)),some (.int sv),some (.int sz),some (.int (n / 1664%sz)),some (.str stem),some (.ref p),v9,v10]/\M2=put M' p (.lst (zs.map D.str))/\zs.length=k/\(∀z∈zs,GG z)/\∀j z,zs[j]? = some z->Hz A B n sv j z,⟨[],none,none,rfl,rfl,rfl,(λ_ h=>nomatch h),λj z h=>by cases h⟩,λ_ _ _ _=>trivial,?_,?_⟩
   .intro k y τ M2 hy;ext1⟨zs,v9,v10,e1',e2',hl,hok,hw⟩;obtain⟨hk,rfl⟩:=Th hy;obtain⟨c,hc,sc⟩:=letter ((n%26+(0+(k:Int))*sv)%26) (by ext) (by ext);obtain⟨c2,hc2,sc2⟩:=letter (n%26) (by ext) (by ext);have one:∀z:Str,(zs.map D.str++[D.str z])=(zs++[z]).map D.str:=λz=>by rw[AI];rfl
    have lz:C4.length<=1000:=by nofun
    grind;rw[hc,hc2];simp only[Cn];have s1:=Qc (lo:=none) (hi:=some (n / 1664%sz)) hs8;have s2:=Qc (lo:=some (n / 1664%sz+1)) (hi:=none) hs8;refine⟨.inr ⟨by ext,by ext⟩,HD lz,⟨by decide,by decide⟩,Cv (λfl=>?_) λfl=>⟨HD lz,⟨by ext,by ext,by rw[R6];decide⟩,λr hr hrc=>?_⟩⟩
    .have nok:GG (A++⟨#[c]⟩++B):=by
      have lA:A.length=(n / 1664%sz).toNat/\B.length=stem.length-((n / 1664%sz).toNat+1):=by
       obtain⟨a,ha⟩:∃a:Nat,n / 1664%sz=(a:Int):=⟨(n / 1664%sz).toNat,by ext⟩;have tA:=sk (x:=stem) (b:=a) (by ext);have tB:=xh (x:=stem) (a:=a+1) (by ext);rw[ha]at hA hB;rw[hA]at tA;rw[show((a+1:Nat):Int)=(a:Int)+1 by ext,hB]at tB;have l1:=congrArg Eg tA;have l2:=congrArg Eg tB;rw[AW,A8,A8]at l1;rw[FV,A8,A8]at l2;have e1:A.length=min a stem.length:=l1;have e2:B.length=stem.length-(a+1):=l2;rw[ha];exact⟨by rw[e1];have:((a:Int)).toNat=a:=rfl;ext,e2⟩
      refine mE (by rw[Dp,Dp,R6];ext) (by rw[Dp,Dp,R6];ext) λx hx=>?_;rw[Yp,Yp]at hx;rcases AH.mp hx with h|h
      .rcases AH.mp h with h|h
       .rw[<- hA]at h;exact ssm x (tL h)
       .rw[show x=c by simpa using h];exact sc
      .rw[<- hB]at h;exact ssm x (tL h)
     refine⟨HD (by ext),HD (by rw[R6];ext),HD (by ext),HD (by rw[Dp,R6];ext),B5 (by ext),zs++[_],_,_,rfl,by rw[one],by rw[Ao,hl];rfl,Qb hok (by rw[hA,hB];exact nok),vW hl hw ⟨c,hc,.inl ⟨fl,by rw[hA,hB]⟩⟩⟩
    .have h4:((0+(k:Int))%4).toNat<=3:=by ext
     rw[R6,Nat.one_mul]at hr
     have nok:GG (r++⟨#[c]⟩):=mE (by rw[Dp,R6];ext) (by rw[Dp,R6];ext) λx hx=>by
      rw[Yp]at hx;rcases AH.mp hx with h|h
      .rw[show x=c2 by simpa using hrc x h];exact sc2
      .rw[show x=c by simpa using h];exact sc
     refine⟨HD (by rw[R6];ext),B5 (by ext),zs++[_],_,_,rfl,by rw[one],by rw[Ao,hl];rfl,Qb hok nok,vW hl hw ⟨c,hc,.inr ⟨fl,r,rfl⟩⟩⟩
   .intro τ M2;ext1⟨zs,v9,v10,e1',e2',hl,hok,hw⟩;rw[R8]at hl;exact⟨zs,v9,v10,rfl,rfl,by ext,hok,hw⟩
  .intro τ M2;ext1⟨zs,v9,v10,e1',e2',hl,hok,hw⟩;grind;exact Dn.of (q zs hl (xu svi (by ext) hw) hok p hp)
abbrev υ:Ee:=λds M Q=>Fq ds λx y=>EH x λn=>EH y λwd=>(0<=n/\1<=wd/\wd<=64)/\∀x:Int,0<=x->x<2^wd.toNat->Q (.int x) M
theorem vR:Od T T.x69 2 υ:=by
 refine CM.p2 T.x69.d.F ["number", "width", "far"] λx y M Q hr nN h1=>?_;obtain⟨n,rfl,h2⟩:=CG h1;obtain⟨wd,e1',⟨n0,w1,w64⟩,q⟩:_:=CG h2;refine⟨_,(qC (CA 2 nN (BE GN (BE OK (BE GN (BE OK (As T.x67.d (Iw T) nofun (qA (qv 0) (qA Ai qN))) Ai) (As T.x67.d (Iw T) nofun (qA (qv 0) (qA Ai qN)))) Ai) (BE Gm (qv 0) Ai))) (qO (Cw (BE Gm (Bc E1 (Gb (qA (qv 2) (qA (qv 2) (qA Ai (qA (BE O9 (BE Vv Ai (qv 1)) Ai) qN))))) (BE Gm (BE OL (qv 0) Ai) Ai)) (BE Vv Ai (qv 1)))))),?_⟩;right;simp only[Vb];have p0:(0:Int)<2^wd.toNat:=Lh (by decide);intro r r0 r1;refine⟨.inr ⟨by decide,by decide⟩,λr2 r20 r21=>⟨.inr ⟨by decide,by decide⟩,⟨by ext,by ext,by decide⟩,⟨by decide,by decide⟩,?_⟩⟩;generalize hx:[D.int ((r*2147483629+r2)*8+n%8),D.int ((r*2147483629+r2)*8+n%8),D.int 0,D.int (2^wd.toNat-1)]=xs;obtain⟨st,hst,mst⟩:=Ym (xs:=xs) (i:=n / 8%4) (by ext) (by rw[<- hx];show _<(4:Int);ext)
 obtain⟨sv,rfl⟩:∃sv:Int,st=.int sv:=by
  rw[<- hx]at mst;simp only[Bx,AX,or_false]at mst;rcases mst with rfl|rfl|rfl|rfl<;>exact⟨_,rfl⟩
 rw[hst];exact⟨⟨by ext,by ext,by decide⟩,p0,Dn.of (q _ (Cf _ (by ext)) (BV _ p0))⟩
def G4 (ex:Str×Int->List D)(ws:List (Str×Int)):List D:=ws.map λp=>.tup (.str p.1::.int p.2::ex p)
structure KZ (ws:List (Str×Int)):Prop where
 len:ws.length<=6
 wd:∀p∈ws,1<=p.2/\p.2<=64
 nd:(ws.map Io).Nodup
theorem iB {ex:Str×Int->List D}{ws:List (Str×Int)}:(G4 ex ws).length=ws.length:=by unfold G4;rw[Ae]
theorem ZZ {z:Str}{a:Int}:∀{ws:List (Str×Int)},(ws.map Io).Nodup->(z,a)∈ws->ws.lookup z=some a
 |[],_,h=>nomatch h
 |(y,b)::r,hn,h=>by
  rw[AM,DH]at hn;by_cases e:z=y
  .subst e;rcases AU.mp h with h|h
   .cases h;simp[BS]
   .exact absurd (AB.mpr ⟨_,h,rfl⟩) hn.1
  .have e':(z == y)=false:=by simpa using e
   rcases AU.mp h with h|h
   .cases h;exact absurd rfl e
   .rw[BS,e'];exact ZZ hn.2 h
theorem ZA {ex:Str×Int->List D}{ws:List (Str×Int)}(h:KZ ws){i:Int}(h0:0<=i)(h1:i<(ws.length:Int)):∃z a,GY (G4 ex ws) i=some (.tup (.str z::.int a::ex (z,a)))/\ws.lookup z=some a/\1<=a/\a<=64:=by
 obtain⟨v,hv,mv⟩:=Ym (xs:=G4 ex ws) h0 (by rw[iB];exact h1);obtain⟨⟨z,a⟩,mp,rfl⟩:=AB.mp mv;exact⟨z,a,hv,ZZ h.nd mp,(h.wd _ mp).1,(h.wd _ mp).2⟩
def pp:Nat->Nat
 |0=>3
 |d+1=>3*pp d+1
def ll:Nat->Nat
 |0=>2
 |d+1=>3*ll d
theorem gI:∀d,3<=pp d
 |0=>AJ _
 |d+1=>by have:=gI d;rw[pp];ext
theorem oG:∀d,2<=ll d
 |0=>AJ _
 |d+1=>by have:=oG d;rw[ll];ext
structure Fn (bs es:List (Str×Int))(d:Nat)(t:Tm)(a:Int):Prop where
 deep:t.deep<=2+2*d
 parts:t.parts<=pp d
 lvs:t.leaves.length<=ll d
 wd:Wd bs es t a
theorem Wd.one {bs es:List (Str×Int)}{t u:Tm}{a b:Int}(h:Wd bs es t a)(hk:u.kids=[t])(ho:u.over [a]=some b):Wd bs es u b:=.over (ws:=[a]) (λi k a' h1 h2=>by
 rw[hk]at h1
 match i,h1,h2 with
 | 0,h1,h2=>cases h1;cases h2;exact h) ho
theorem Wd.two {bs es:List (Str×Int)}{o:Fz}{t u:Tm}{a b c:Int}(h:Wd bs es t a)(g:Wd bs es u b)(ho:(Tm.bin o t u).over [a,b]=some c):Wd bs es (.bin o t u) c:=.over (ws:=[a,b]) (λi k a' h1 h2=>by
 match i,h1,h2 with
 |0,h1,h2=>cases h1;cases h2;exact h
 | 1,h1,h2=>cases h1;cases h2;exact g) ho
theorem Wd.three {bs es:List (Str×Int)}{s t u:Tm}{a:Int}(f:Wd bs es s 1)(h:Wd bs es t a)(g:Wd bs es u a):Wd bs es (.pick s t u) a:=.over (ws:=[1,a,a]) (λi k a' h1 h2=>by
 match i,h1,h2 with
 |0,h1,h2=>cases h1;cases h2;exact f
 |1,h1,h2=>cases h1;cases h2;exact h
 | 2,h1,h2=>cases h1;cases h2;exact g) (by simp [Tm.over])
theorem Fn.up {bs es:List (Str×Int)}{d:Nat}{t:Tm}{a:Int}(h:Fn bs es d t a):Fn bs es (d+1) t a:=by
 have:=h.deep;have:=h.parts;have:=h.lvs;have:=gI d;have:=oG d;exact⟨by ext,by rw[pp];ext,by rw[ll];ext,h.wd⟩
theorem Fn.ups {bs es:List (Str×Int)}{t:Tm}{a:Int}(h:Fn bs es 0 t a):∀d,Fn bs es d t a
 |0=>h
 |d+1=>(h.ups d).up
theorem Fn.leaf {bs es:List (Str×Int)}{t:Tm}{a:Int}(hd:t.deep=1)(hp:t.parts=1)(hl:t.leaves.length=1)(h:Wd bs es t a):Fn bs es 0 t a:=⟨by ext,by rw[hp];decide,by rw[hl];decide,h⟩
theorem Fn.not {bs es:List (Str×Int)}{d:Nat}{t:Tm}{a:Int}(h:Fn bs es d t a):Fn bs es (d+1) (.not t) a:=by
 have:=h.deep;have:=h.parts;have:=h.lvs;exact⟨by rw[Tm.deep];ext,by rw[Tm.parts,pp];ext,by rw[Tm.leaves,ll];ext,h.wd.one rfl rfl⟩
theorem Fn.two {bs es:List (Str×Int)}{d:Nat}{o:Fz}{t u:Tm}{a b c:Int}(h:Fn bs es d t a)(g:Fn bs es d u b)(ho:(Tm.bin o t u).over [a,b]=some c):Fn bs es (d+1) (.bin o t u) c:=by
 have:=h.deep;have:=h.parts;have:=h.lvs;have:=g.deep;have:=g.parts;have:=g.lvs;exact⟨by rw[Tm.deep];ext,by rw[Tm.parts,pp];ext,by rw[Tm.leaves,Ao,ll];ext,h.wd.two g.wd ho⟩
theorem Fn.pj {bs es:List (Str×Int)}{d:Nat}{t u:Tm}{a lo:Int}(h:Fn bs es d t a)(g:Fn bs es d u a)(a1:1<=a)(a32:a<=32)(l0:0<=lo)(l1:lo<=a):Fn bs es (d+1) (.part (.bin .join t u) lo a) a:=by
 have:=h.deep;have:=h.parts;have:=h.lvs;have:=g.deep;have:=g.parts;have:=g.lvs;have:=gI d;exact⟨by rw[Tm.deep,Tm.deep];ext,by rw[Tm.parts,Tm.parts,pp];ext,by rw[Tm.leaves,Tm.leaves,Ao,ll];ext,(Wd.two (c:=a+a) h.wd g.wd (by show(if a+a<=64 then some (a+a)else none)=_;rw[if_pos (by ext)])).one (a:=a+a) rfl (by show(if 0<=lo/\1<=a/\lo+a<=a+a then some a else none)=_;rw[if_pos ⟨l0,a1,by ext⟩])⟩
theorem Fn.pick {bs es:List (Str×Int)}{d:Nat}{s t u:Tm}{a:Int}(f:Fn bs es d s 1)(h:Fn bs es d t a)(g:Fn bs es d u a):Fn bs es (d+1) (.pick s t u) a:=by
 have:=f.deep;have:=f.parts;have:=f.lvs;have:=h.deep;have:=h.parts;have:=h.lvs;have:=g.deep;have:=g.parts;have:=g.lvs;exact⟨by rw[Tm.deep];ext,by rw[Tm.parts,pp];ext,by rw[Tm.leaves,Ao,Ao,ll];ext,f.wd.three h.wd g.wd⟩
theorem iy {k:Int}(h:1<=k):(2:Int)<=2^k.toNat:=by
 obtain⟨j,hj⟩:∃j,k.toNat=j+1:=⟨k.toNat-1,by ext⟩;rw[hj,Ff];have:(0:Int)<2^j:=Lh (by decide);ext
theorem Fn.lp {bs es:List (Str×Int)}{t:Tm}{a w lo:Int}(hd:t.deep=1)(hp:t.parts=1)(hl:t.leaves.length=1)(h:Wd bs es t a)(w1:1<=w)(l0:0<=lo)(l1:lo+w<=a):Fn bs es 0 (.part t lo w) w:=⟨by rw[Tm.deep];ext,by rw[Tm.parts,pp];ext,by rw[Tm.leaves,ll];ext,h.one rfl (if_pos ⟨l0,w1,l1⟩)⟩
theorem Fn.lj {bs es:List (Str×Int)}{t:Tm}{a w m:Int}(hd:t.deep=1)(hp:t.parts=1)(hl:t.leaves.length=1)(h:Wd bs es t a)(a1:1<=a)(w64:w<=64)(aw:a<w)(m0:0<=m)(m2:m<2):Fn bs es 0 (.bin .join (.num (w-a) m) t) w:=by
 have p2:=iy (k:=w-a) (by ext);have e1:(Tm.num (w-a) m).deep=1:=rfl;have e2:(Tm.num (w-a) m).parts=1:=rfl;have e3:(Tm.num (w-a) m).leaves.length=1:=rfl;refine⟨by rw[Tm.deep];ext,by rw[Tm.parts,pp];ext,by rw[Tm.leaves,Ao,ll];ext,Wd.two (a:=w-a) (.num ⟨by ext,by ext,m0,by ext⟩) h ?_⟩;rw[show(Tm.bin .join (.num (w-a) m) t).over [w-a,a]=if w-a+a<=64 then some (w-a+a)else none from rfl,if_pos (by ext),show w-a+a=w by ext]
abbrev π:Ee:=λds M Q=>XN ds λx y u v=>EH x λn=>EH y λwd=>∃bs es ex,(u=.lst (G4 ex bs)/\v=.lst (G4 (λ_=>[]) es))/\(0<=n/\1<=wd/\wd<=64/\KZ bs/\KZ es/\bs≠[])/\∀t:Tm,Fn bs es 0 t wd->Q t.D M
local macro_rules | `(tactic| simp_all_arith! [$xs,*])=>`(tactic| simp_all_arith [Uv,Tj,VF,VG,Yo,Ut,↓Yd,↓Ye,↓Yg,bn,↓Zw,↓Zx,↓Zy,gN,iB,$xs,*])
theorem UK:Od T T.x70 3 π:=by
 refine CM.p4 T.x70.d.F ["number", "width", "boxes", "doors", "at", "more", "leaf", "has"] λx y u v M Q hr nN h1=>?_;obtain⟨n,rfl,h2⟩:=CG h1;obtain⟨wd,e1',bs,es,ex,⟨e2',e3'⟩,⟨n0,w1,w64,ob,oe,bne⟩,q⟩:_:=CG h2;have bl:0<bs.length:=I9.mpr bne;refine⟨_,(qC (CA 4 nN (BE Gm (qv 0) (BE GN (BE GN (BE OK Ai (BW Kb T.B.len BP (qA (qv 2) qN))) (BW Kb T.B.len BP (qA (qv 3) qN))) Ai))) (qC (CA 5 nN (As T.x67.d (Iw T) nofun (qA (qv 0) (qA Ai qN)))) (qC (DD (AV Cm (qv 4) (BE GN (BE OK Ai (BW Kb T.B.len BP (qA (qv 2) qN))) (BW Kb T.B.len BP (qA (qv 3) qN)))) (qO (Cw (BR (qA Bn (qA (qv 1) (qA (As T.x69.d (vR T) nofun (qA (qv 5) (qA (qv 1) qN))) qN)))))) qE) (qC (CA 6 nN (BR (qA Bn (qA (Bc BA (Bc E1 (qv 2) (BE Gm (qv 4) (BW Kb T.B.len BP (qA (qv 2) qN)))) Ai) qN)))) (qC (CA 7 nN (Bc BA (Bc E1 (qv 2) (BE Gm (qv 4) (BW Kb T.B.len BP (qA (qv 2) qN)))) Ai)) (Ec (DD (AV Uc (qv 4) (BE OK Ai (BW Kb T.B.len BP (qA (qv 2) qN)))) (qC (CA 6 nN (BR (qA Bn (qA (Bc BA (Bc E1 (qv 3) (BE O9 (qv 4) (BE OK Ai (BW Kb T.B.len BP (qA (qv 2) qN))))) Ai) qN)))) (qO (CA 7 nN (Bc BA (Bc E1 (qv 3) (BE O9 (qv 4) (BE OK Ai (BW Kb T.B.len BP (qA (qv 2) qN))))) Ai)))) (qO (DD (AV Uc (qv 4) (BW Kb T.B.len BP (qA (qv 2) qN))) (qO (CA 6 nN (BR (qA Bn (qA (Bc BA (qv 6) Ai) qN))))) qE))) (qC (DD (AV JK (qv 7) (qv 1)) (qO (Cw (BR (qA Bn (qA (qv 6) (qA (BE Gm (qv 5) (BE GN (BE O9 (qv 7) (qv 1)) Ai)) (qA (qv 1) qN))))))) qE) (qC (DD (AV Lx (qv 7) (qv 1)) (qO (Cw (BR (qA Bn (qA (BR (qA Bn (qA (BE O9 (qv 1) (qv 7)) (qA (BE Gm (qv 5) Ai) qN)))) (qA (qv 6) qN)))))) qE) (qO (Cw (qv 6))))))))))),?_⟩;right;have b6:=ob.len;have e6:=oe.len;have cm:QK 2 (bs.length:Int):=.inr ⟨by ext,by ext⟩;generalize hA:n%(2*(bs.length:Int)+(es.length:Int)+1)=at';have a0:0<=at':=by rw[<- hA];exact Cf _ (by ext)
 have a1:at' < 2*(bs.length:Int)+(es.length:Int)+1:=by rw[<- hA];exact BV _ (by ext)
 obtain⟨z,a,hz,hl,z1,z2⟩:_:=ZA (ex:=ex) ob (i:=at'%(bs.length:Int)) (Cf _ (by ext)) (BV _ (by ext));refine⟨cm,by ext,λr r0 r1=>⟨cm,Cv (λ_=>⟨⟨r0,w1,w64⟩,λx x0 x1=>Dn.of (q (.num wd x) (.leaf rfl rfl rfl (.num ⟨w1,w64,x0,x1⟩)))⟩) λhat=>?_⟩⟩;simp only[hz,Cn];grind;refine⟨by ext,by ext,λτ M2=>M=M2/\∃(t0:Tm) (c:Int),(t0.deep=1/\t0.parts=1/\t0.leaves.length=1/\Wd bs es t0 c/\1<=c/\c<=64)/\τ=[some (.int n),some (.int wd),some (.lst (G4 ex bs)),some (.lst (G4 (λ_=>[]) es)),some (.int at'),some (.int r),some t0.D,some (.int c)],?_,?_⟩
 .grind;refine⟨cm,Cv (λh1=>?_) λh1=>Cv (λh2=>⟨.late z,a,⟨rfl,rfl,rfl,.late hl,z1,z2⟩,rfl⟩) λh2=>⟨.box z,a,⟨rfl,rfl,rfl,.box hl,z1,z2⟩,rfl⟩⟩;obtain⟨y,b,hy,hyl,y1,y2⟩:_:=ZA (ex:=λ_=>[]) oe (i:=at' - 2*(bs.length:Int)) (by ext) (by ext);simp only[hy,Cn];grind;exact⟨cm,cm,.door y,b,⟨rfl,rfl,rfl,.door hyl,y1,y2⟩,rfl⟩
 .intro τ M2;ext1⟨e1',t0,c,⟨td,tp,tl,tw,c1,c2⟩,e2'⟩;grind;refine Cv (λh1=>⟨by ext,Dn.of (q (.part t0 (r%(c-wd+1)) wd) (.lp td tp tl tw w1 (Cf _ (by ext)) ?_))⟩) λh1=>Cv (λh2=>Dn.of (q (.bin .join (.num (wd-c) (r%2)) t0) (.lj td tp tl tw c1 w64 h2 (by ext) (by ext)))) λh2=>Dn.of (q t0 ?_)
  .have:=BV r (b:=c-wd+1) (by ext);ext
  .have e:c=wd:=by ext
   exact e ▸ .leaf td tp tl tw
abbrev aM (n:Nat)(ds:List D)(M:Mp)(Q:Eb):Prop:=Zl ds λx y u v z=>EH x λk=>EH y λwd=>EH z λdp=>∃bs es ex,(u=.lst (G4 ex bs)/\v=.lst (G4 (λ_=>[]) es))/\(0<=k/\1<=wd/\wd<=64/\KZ bs/\KZ es/\bs≠[])/\(0<=dp/\dp<(n:Int))/\∀t:Tm,Fn bs es dp.toNat t wd->Q t.D M
theorem ZcK {n:Nat}(G__law_term:Od T T.x71 (n+3) (aM n)):Od T T.x71 (n+4) (aM (n+1)):=by
 refine CM.p5 T.x71.d.F ["number", "width", "boxes", "doors", "deep", "way", "one", "two", "low", "high", "wide", "left"] λx y u v z M Q hr nN h1=>?_;obtain⟨k,rfl,h2⟩:=CG h1;obtain⟨wd,rfl,h3⟩:=CG h2;obtain⟨dp,e1',bs,es,ex,⟨e2',e3'⟩,⟨k0,w1,w64,ob,oe,bne⟩,⟨d0,dn⟩,q⟩:_:=CG h3;have bl:0<bs.length:=I9.mpr bne;refine⟨_,(qC (CA 5 nN (BE Gm (qv 0) Ai)) (qC (DD ((Uo (AV Cm (qv 4) Ai) (VB (AV Lx (qv 5) Ai)))).pt (qO (Cw (As T.x70.d (UK T) nofun (qA (As T.x67.d (Iw T) nofun (qA (qv 0) (qA Ai qN))) (qA (qv 1) (qA (qv 2) (qA (qv 3) qN))))))) qE) (qC (CA 6 nN (As T.x71.d G__law_term nofun (qA (As T.x67.d (Iw T) nofun (qA (qv 0) (qA Ai qN))) (qA (qv 1) (qA (qv 2) (qA (qv 3) (qA (BE O9 (qv 4) Ai) qN))))))) (Ec (CA 7 nN (As T.x71.d G__law_term nofun (qA (As T.x67.d (Iw T) nofun (qA (qv 0) (qA Ai qN))) (qA (qv 1) (qA (qv 2) (qA (qv 3) (qA (BE O9 (qv 4) Ai) qN))))))) (qC (DD (AV Lx (qv 5) Ai) (qO (Cw (BR (qA (Bc E1 (Gb (gA (.str (.str (.str (.str (.str .nil))))))) (BE O9 (qv 5) Ai)) (qA (qv 6) (qA (qv 7) qN)))))) qE) (qC (DD ((Uo (AV Cm (qv 5) Ai) (VB ((oR (AV Cm (qv 5) Ai) (pV (AV JK (qv 1) Ai)))).pt))).pt (qO (Cw (BR (qA Bn (qA (qv 6) qN))))) qE) (qC (DD (AV Cm (qv 5) Ai) (qO (Cw (BR (qA Bn (qA (BR (qA Bn (qA (qv 6) (qA (qv 7) qN)))) (qA (BE Gm (As T.x67.d (Iw T) nofun (qA (qv 0) (qA Ai qN))) (BE GN (qv 1) Ai)) (qA (qv 1) qN))))))) qE) (qC (DD (AV Cm (qv 5) Ai) (qO (Cw (BR (qA Bn (qA (As T.x71.d G__law_term nofun (qA (As T.x67.d (Iw T) nofun (qA (qv 0) (qA Ai qN))) (qA Ai (qA (qv 2) (qA (qv 3) (qA (BE O9 (qv 4) Ai) qN)))))) (qA (qv 6) (qA (qv 7) qN))))))) qE) (qC (DD (AV JK (qv 1) Ai) (qC (CA 8 nN (BE GN Ai (BE Gm (As T.x67.d (Iw T) nofun (qA (qv 0) (qA Ai qN))) (BE O9 (qv 1) Ai)))) (qC (CA 9 nN (As T.x70.d (UK T) nofun (qA (As T.x67.d (Iw T) nofun (qA (qv 0) (qA Ai qN))) (qA (BE O9 (qv 1) (qv 8)) (qA (qv 2) (qA (qv 3) qN)))))) (qO (Cw (BR (qA Bn (qA (qv 9) (qA (As T.x70.d (UK T) nofun (qA (As T.x67.d (Iw T) nofun (qA (qv 0) (qA Ai qN))) (qA (qv 8) (qA (qv 2) (qA (qv 3) qN))))) qN)))))))) qE) (qC (CA 10 nN (Bc BA (Bc E1 (qv 2) (BE Gm (As T.x67.d (Iw T) nofun (qA (qv 0) (qA Ai qN))) (BW Kb T.B.len BP (qA (qv 2) qN)))) Ai)) (qC (CA 11 nN (As T.x70.d (UK T) nofun (qA (As T.x67.d (Iw T) nofun (qA (qv 0) (qA Ai qN))) (qA (qv 10) (qA (qv 2) (qA (qv 3) qN)))))) (qO (Cw (BR (qA (Bc E1 (Gb (qA Bn (qA Bn qN))) (BE Gm (qv 5) Ai)) (qA (qv 11) (qA (As T.x70.d (UK T) nofun (qA (As T.x67.d (Iw T) nofun (qA (qv 0) (qA Ai qN))) (qA (qv 10) (qA (qv 2) (qA (qv 3) qN))))) qN))))))))))))))))),?_⟩;right;refine Cv (λ_ r r0 _=>⟨bs,es,ex,⟨rfl,rfl⟩,⟨r0,w1,w64,ob,oe,bne⟩,λt ht=>Dn.of (q t (ht.ups _))⟩) λd1=>Cv (λ_ r r0 _=>⟨bs,es,ex,⟨rfl,rfl⟩,⟨r0,w1,w64,ob,oe,bne⟩,λt ht=>Dn.of (q t (ht.ups _))⟩) λk2 r r0 _=>⟨bs,es,ex,⟨rfl,rfl⟩,⟨r0,w1,w64,ob,oe,bne⟩,⟨by ext,by ext⟩,λt ht=>?_⟩;refine⟨λτ M'=>M'=M/\∃u:Tm,Fn bs es (dp-1).toNat u wd/\τ=[some (.int k),some (.int wd),some (.lst (G4 ex bs)),some (.lst (G4 (λ_=>[]) es)),some (.int dp),some (.int (k%13)),some t.D,some u.D,none,none,none,none],?_,?_⟩
 .grind;exact λr' r0' _=>⟨bs,es,ex,⟨rfl,rfl⟩,⟨r0',w1,w64,ob,oe,bne⟩,⟨by ext,by ext⟩,λu hu=>⟨u,hu,rfl⟩⟩
 intro τ M';ext1⟨e1',u,hu,e2'⟩;grind;obtain⟨d,hd⟩:∃d:Nat,dp=(d:Int)+1:=⟨(dp-1).toNat,by ext⟩;have e1:(dp-1).toNat=d:=by ext
 have e2:dp.toNat=d+1:=by ext
 rw[e1]at ht hu;rw[e2]at q;by_cases c7:k%13<7
 .rw[if_pos c7];rcases(by omega:k%13=2\/k%13=3\/k%13=4\/k%13=5\/k%13=6)with e|e|e|e|e<;>rw[e]
  .exact Dn.of (q (.bin .and t u) (ht.two hu (if_pos rfl)))
  .exact Dn.of (q (.bin .or t u) (ht.two hu (if_pos rfl)))
  .exact Dn.of (q (.bin .xor t u) (ht.two hu (if_pos rfl)))
  .exact Dn.of (q (.bin .plus t u) (ht.two hu (if_pos rfl)))
  .exact Dn.of (q (.bin .minus t u) (ht.two hu (if_pos rfl)))
 rw[if_neg c7];by_cases e7:k%13=7
 .rw[if_pos e7];exact Dn.of (q (.not t) ht.not)
 rw[if_neg e7];by_cases e8:k%13=8
 .rw[if_pos e8];by_cases w32:32<wd
  .rw[if_pos w32];exact Dn.of (q (.not t) ht.not)
  rw[if_neg w32,if_pos e8];intro r2 r20 _;have m1:=Cf r2 (b:=wd+1) (by ext);have m2:=BV r2 (b:=wd+1) (by ext);exact⟨by ext,Dn.of (q (.part (.bin .join t u) (r2%(wd+1)) wd) (ht.pj hu w1 (by ext) m1 (by ext)))⟩
 rw[if_neg e8,if_neg e8];by_cases e9:k%13=9
 .rw[if_pos e9];exact λr2 r20 _=>⟨bs,es,ex,⟨rfl,rfl⟩,⟨r20,ob,oe,bne⟩,⟨by ext,by ext⟩,λc hc=>Dn.of (q (.pick c t u) (Fn.pick (e1 ▸ hc) ht hu))⟩
 rw[if_neg e9];by_cases w2:1<wd
 .rw[if_pos w2];intro r2 r20 _;have m1:=Cf r2 (b:=wd-1) (by ext);have m2:=BV r2 (b:=wd-1) (by ext);refine⟨by ext,λr3 r30 _=>⟨bs,es,ex,⟨rfl,rfl⟩,⟨r30,by ext,by ext,ob,oe,bne⟩,λhi hhi r4 r40 _=>⟨bs,es,ex,⟨rfl,rfl⟩,⟨r40,by ext,by ext,ob,oe,bne⟩,λlo hlo=>Dn.of (q (.bin .join hi lo) ((hhi.ups d).two (hlo.ups d) ?_))⟩⟩⟩;show(if wd-(1+r2%(wd-1))+(1+r2%(wd-1))<=64 then some (wd-(1+r2%(wd-1))+(1+r2%(wd-1)))else none)=_;rw[if_pos (by ext),show wd-(1+r2%(wd-1))+(1+r2%(wd-1))=wd by ext]
 rw[if_neg w2];have wd1:wd=1:=by ext
 intro r2 r20 _;obtain⟨z,a,hz,hl,z1,z2⟩:_:=ZA (ex:=ex) ob (i:=r2%(bs.length:Int)) (Cf _ (by ext)) (BV _ (by ext));refine⟨by ext,?_⟩;simp only[hz,Cn];grind;refine λr3 r30 _=>⟨bs,es,ex,⟨rfl,rfl⟩,⟨r30,z1,z2,ob,oe,bne⟩,λl hl'=>?_⟩;rcases(by omega:k%13%2=0\/k%13%2=1)with e|e<;>rw[e]
 .exact λr4 r40 _=>⟨bs,es,ex,⟨rfl,rfl⟩,⟨r40,z1,z2,ob,oe,bne⟩,λm hm=>Dn.of (q (.bin .less l m) (by rw[wd1];exact(hl'.ups d).two (hm.ups d) (if_pos rfl)))⟩
 .exact λr4 r40 _=>⟨bs,es,ex,⟨rfl,rfl⟩,⟨r40,z1,z2,ob,oe,bne⟩,λm hm=>Dn.of (q (.bin .same l m) (by rw[wd1];exact(hl'.ups d).two (hm.ups d) (if_pos rfl)))⟩
theorem vQ (T:Tv P w K mg base):∀n:Nat,Od T T.x71 (n+3) (aM n)
 |0=>by
  have no:∀ds M Q,¬aM 0 ds M Q:=λds M Q h=>by
   obtain⟨x,y,u,v,z,e1',h1⟩:_:=Ub h;obtain⟨k,rfl,h2⟩:=CG h1;obtain⟨wd,rfl,h3⟩:=CG h2;obtain⟨dp,e1',bs,es,ex,_,_,⟨d0,dn⟩,_⟩:_:=CG h3;ext
  exact UG no
 |n+1=>ZcK T (vQ T n)
abbrev Φ:Ee:=λds M Q=>Kw ds λx u v=>EH x λn=>∃bs es ex,(u=.lst (G4 ex bs)/\v=.lst (G4 (λ_=>[]) es))/\(0<=n/\KZ bs/\KZ es/\bs≠[])/\∀t:Tm,Fn bs es 2 t 1->Q t.D M
theorem vI:Od T T.x72 4 Φ:=by
 refine CM.p3 T.x72.d.F ["number", "boxes", "doors", "way", "wide", "one", "two"] λx u v M Q hr nN h1=>?_;obtain⟨n,e1',bs,es,ex,⟨e2',e3'⟩,⟨n0,ob,oe,bne⟩,q⟩:_:=CG h1;have bl:0<bs.length:=I9.mpr bne;have b6:=ob.len;refine⟨_,(qC (CA 3 nN (BE Gm (qv 0) Ai)) (qC (CA 4 nN Ai) (Ec (DD (AV JK (qv 3) Ai) (qO (CA 4 nN (Bc BA (Bc E1 (qv 1) (BE Gm (As T.x67.d (Iw T) nofun (qA (qv 0) (qA Ai qN))) (BW Kb T.B.len BP (qA (qv 1) qN)))) Ai))) qE) (Ec (CA 5 nN (As T.x70.d (UK T) nofun (qA (As T.x67.d (Iw T) nofun (qA (qv 0) (qA Ai qN))) (qA (qv 4) (qA (qv 1) (qA (qv 2) qN)))))) (Ec (CA 6 nN (As T.x70.d (UK T) nofun (qA (As T.x67.d (Iw T) nofun (qA (qv 0) (qA Ai qN))) (qA (qv 4) (qA (qv 1) (qA (qv 2) qN)))))) (qC (DD (AV Cm (qv 3) Ai) (qO (Cw (qv 5))) qE) (qC (DD (AV Cm (qv 3) Ai) (qO (Cw (BR (qA Bn (qA (qv 5) qN))))) qE) (qC (DD (AV Cm (qv 3) Ai) (qO (Cw (BR (qA Bn (qA (BR (qA Bn (qA (qv 5) (qA (qv 6) qN)))) (qA (qv 5) qN)))))) qE) (qO (Cw (BR (qA (Bc E1 (Gb (qA O6 (qA O6 (qA Bn (qA Bn (qA Bn (qA Bn qN))))))) (qv 3)) (qA (qv 5) (qA (qv 6) qN)))))))))))))),?_⟩;right;refine⟨λτ M2=>M2=M/\∃wd:Int,(1<=wd/\wd<=64/\(n%7<=3->wd=1))/\τ=[some (.int n),some (.lst (G4 ex bs)),some (.lst (G4 (λ_=>[]) es)),some (.int (n%7)),some (.int wd),none,none],?_,?_⟩
 .grind;refine Cv (λc r r0 r1=>?_) λc=>⟨1,⟨by ext,by ext,λ_=>rfl⟩,rfl⟩;obtain⟨z,a,hz,hl,z1,z2⟩:_:=ZA (ex:=ex) ob (i:=r%(bs.length:Int)) (Cf _ (by ext)) (BV _ (by ext));refine⟨by ext,?_⟩;rw[hz,Cn];grind;exact⟨a,⟨z1,z2,λh=>absurd c (by ext)⟩,rfl⟩
 intro τ M2;ext1⟨e1',wd,⟨w1,w64,w3⟩,e2'⟩;refine⟨λτ M3=>M3=M2/\∃t:Tm,Fn bs es 0 t wd/\τ=[some (.int n),some (.lst (G4 ex bs)),some (.lst (G4 (λ_=>[]) es)),some (.int (n%7)),some (.int wd),some t.D,none],?_,?_⟩
 .grind;exact λr r0 r1=>⟨bs,es,ex,⟨rfl,rfl⟩,⟨r0,w1,w64,ob,oe,bne⟩,λt ft=>⟨t,ft,rfl⟩⟩
 intro τ M3;ext1⟨e1',t,ft,e2'⟩;refine⟨λτ M4=>M4=M3/\∃u:Tm,Fn bs es 0 u wd/\τ=[some (.int n),some (.lst (G4 ex bs)),some (.lst (G4 (λ_=>[]) es)),some (.int (n%7)),some (.int wd),some t.D,some u.D],?_,?_⟩
 .grind;exact λr r0 r1=>⟨bs,es,ex,⟨rfl,rfl⟩,⟨r0,w1,w64,ob,oe,bne⟩,λt ft=>⟨t,ft,rfl⟩⟩
 intro τ M4;ext1⟨e1',u,fu,e2'⟩;have lo:0<=n%7:=Cf _ (by decide);have hi:n%7<7:=BV _ (by decide);grind
 have same1:∀{o:Fz},n%7<=3->(Tm.bin o t u).over [1,1]=some 1->Fn bs es 2 (.bin o t u) 1:=λ{o} h ho=>by
  have e:=w3 h;rw[e]at ft fu;exact(ft.two fu ho).up
 refine Cv (λc=>?_) λc0=>Cv (λc=>?_) λc1=>Cv (λc=>?_) λc6=>?_
 .rw[w3 (by ext)]at ft;exact Dn.of (q t (ft.ups 2))
 .rw[w3 (by ext)]at ft;exact Dn.of (q (.not t) ft.not.up)
 .exact Dn.of (q (.bin .less (.bin .plus t u) t) ((Fn.two (o:=.plus) (c:=wd) ft fu (by simp[Tm.over])).two ft.up (by simp[Tm.over])))
 .have c:n%7=2\/n%7=3\/n%7=4\/n%7=5:=by ext
  rcases c with c|c|c|c<;>rw[c]
  .exact Dn.of (q (.bin .and t u) (same1 (by ext) (by simp[Tm.over])))
  .exact Dn.of (q (.bin .or t u) (same1 (by ext) (by simp[Tm.over])))
  .exact Dn.of (q (.bin .less t u) (ft.two fu (by simp[Tm.over])).up)
  .exact Dn.of (q (.bin .same t u) (ft.two fu (by simp[Tm.over])).up)
theorem ZD {j:Nat}{t:HH}{E:Js}{τ:Gq}{M:Mp}{p:Av}{xs:List D}(h:τ[j]? = some (some (.ref p)))(hM:M p=some (.lst xs)):TX j t E τ M=t E (τ.set j (some (.lst xs))) (Lc M p):=by
 unfold TX;rw[h,V8,Cn,Tc,hM]
def S8 (bs:List (Str×Int×Int))(p:Str×Int):List D:=[.int ((bs.find? λb=>decide (b.1=p.1)).elim 0 (·.2.2))]
theorem mC:∀{bs:List (Str×Int×Int)},(bs.map (·.1)).Nodup->bs.map GB=G4 (S8 bs) (bs.map λb=>(b.1,b.2.1)):=λ{bs} nd=>by
 unfold G4;rw[CP];refine DS λb hb=>?_
 have hf:bs.find? (λc=>decide (c.1=b.1))=some b:=by
  induction bs with
  |nil=>cases hb
  |cons c r ih=>
   rw[AM,DH]at nd;rcases AU.mp hb with rfl|hb
   .rw[BZ,show decide (b.1=b.1)=true from decide_eq_true rfl]
   .have ne:¬c.1=b.1:=λe=>nd.1 (by rw[e];exact DR hb);rw[BZ,show decide (c.1=b.1)=false from decide_eq_false ne];exact ih nd.2 hb
 show GB b=.tup (.str b.1::.int b.2.1::S8 bs (b.1,b.2.1));unfold S8;dsimp only;rw[hf];rfl
structure kL (zs:List Str)(bs:List (Str×Int×Int))(es:List (Str×Int)):Prop where
 zl:zs.length=9
 nd:zs.Nodup
 ok:∀z∈zs,GG z
 m:∃m,1<=m/\m<=4/\bs.map (·.1)=zs.take m
 b:∀b∈bs,1<=b.2.1/\b.2.1<=64/\0<=b.2.2/\b.2.2<2^b.2.1.toNat
 e:∃m,m<=2/\es.map (·.1)=(zs.drop 4).take m
 d:∀b∈es,1<=b.2/\b.2<=64
abbrev Υ:Ee:=λds M Q=>Fq ds λx y=>Kk M x λ_=>y=.int 3/\∀zs bs es,kL zs bs es->Q (.tup [.lst (bs.map GB),.lst (es.map Jb),.lst ((zs.drop 6).map D.str)]) M
theorem Ε:Od T T.x73 4 Υ:=by
 refine CM.p2 T.x73.d.F ["script", "wide", "head", "names", "more", "boxes", "k", "width", "doors"] λx y M Q hr nN h1=>?_;obtain⟨ns,hlx,hsx,e1',q⟩:_:=Yh h1
 have sI:∀{k:List Int->Prop},Kk M x k=k ns:=by
  intro k;unfold Kk;rw[hlx,Cn,aF,Cn]
 refine⟨_,(Ec (CA 2 nN (As T.x67.d (Iw T) nofun (qA (As T.x66.d (Ti T) nofun (qA (qv 0) (qA Ai qN))) (qA Ai qN)))) (Ec (CA 3 nN (L6 (As T.x68.d (Ζ T) nofun (qA (As T.x67.d (Iw T) nofun (qA (As T.x66.d (Ti T) nofun (qA (qv 0) (qA Ai qN))) (qA Ai qN))) (qA Ai qN))))) (Ec (CA 4 nN (As T.x67.d (Iw T) nofun (qA (As T.x66.d (Ti T) nofun (qA (qv 0) (qA Ai qN))) (qA Ai qN)))) (Ec (CA 5 nN (KQ qN)) (Ec (MC AS rfl (UN T.B.range (qA (BE GN Ai (BE Gm (qv 2) Ai)) qN)) (Pc (i:=6) nN rfl (BH rfl)) (Ec (CA 7 nN (BE GN Ai (BE Gm (As T.x67.d (Iw T) nofun (qA (qv 4) (qA (qv 6) qN))) (qv 1)))) (qO (E2 (L7 AZ Br Bq Rh (qv 5) (qA (BR (qA (Bc E1 (qv 3) (qv 6)) (qA (qv 7) (qA (As T.x69.d (vR T) nofun (qA (As T.x67.d (Iw T) nofun (qA (qv 4) (qA (BE GN Ai (qv 6)) qN))) (qA (qv 7) qN))) qN)))) qN)))))) (ZM 5 (Ec (CA 8 nN (KQ qN)) (Ec (MC AS rfl (UN T.B.range (qA (BE Gm (BE OL (qv 2) Ai) Ai) qN)) (Pc (i:=6) nN rfl (BH rfl)) (qO (E2 (L7 AZ Br Bq Rh (qv 8) (qA (BR (qA (Bc E1 (qv 3) (BE GN Ai (qv 6))) (qA (BE GN Ai (BE Gm (As T.x67.d (Iw T) nofun (qA (qv 4) (qA (BE GN Ai (qv 6)) qN))) (qv 1))) qN))) qN))))) (ZM 8 (qO (Cw (BR (qA (qv 5) (qA (qv 8) (qA (JH pX (qv 3) (UE Ai) Yn) qN))))))))))))))),?_⟩
 (try simp only[Kj,Kh,Ki])
 refine⟨λτ M2=>M2=M/\∃hd:Int,0<=hd/\τ=[some x,some (.int 3),some (.int hd),none,none,none,none,none,none],?_,?_⟩
 .grind;rw[sI];exact λz z0 r r0 r1=>⟨r,r0,rfl⟩
 intro τ M2;ext1⟨e1',hd,hd0,e2'⟩;refine⟨λτ M3=>M3=M2/\∃zs:List Str,(zs.length=9/\zs.Nodup/\∀z∈zs,GG z)/\τ=[some x,some (.int 3),some (.int hd),some (.lst (zs.map D.str)),none,none,none,none,none],?_,?_⟩
 .grind;rw[sI];refine λz z0 r r0 r1=>⟨r0,λzs h1 h2 h3 p hp=>?_⟩;rw[DN];exact⟨R9 hp,zs,⟨by ext,h2,h3⟩,rfl⟩
 intro τ M;ext1⟨e1',zs,⟨zl,nd,ok⟩,e2'⟩;refine⟨λτ M2=>M2=M/\∃mo:Int,τ=[some x,some (.int 3),some (.int hd),some (.lst (zs.map D.str)),some (.int mo),none,none,none,none],?_,?_⟩
 .grind;rw[sI];exact λz z0 r r0 r1=>⟨r,rfl⟩
 rintro τ M2 ⟨rfl,mo,rfl⟩
 have nat_at:∀i:Nat,i<9->∃nm,zs[i]? = some nm/\GY (zs.map D.str) (i:Int)=some (.str nm):=λi hi=>by
  have h:zs[i]? = some (zs[i]'(by ext)):=Ag _;exact⟨_,h,Oc (by rw[AL,h];rfl)⟩
 refine⟨λτ M3=>∃p,M2 p=none/\M3=put M2 p (.lst [])/\τ=[some x,some (.int 3),some (.int hd),some (.lst (zs.map D.str)),some (.int mo),some (.ref p),none,none,none],?_,?_⟩
 .grind;exact λp hp=>⟨p,hp,rfl,rfl⟩
 intro τ M3;ext1⟨p,hp,e1',e2'⟩;refine⟨λτ M3=>∃(bs:List (Str×Int×Int)) (v5 v6:Option D),(bs.map (·.1)=zs.take (1+hd%4).toNat/\(∀b∈bs,1<=b.2.1/\b.2.1<=64/\0<=b.2.2/\b.2.2<2^b.2.1.toNat)/\M3=put M2 p (.lst (bs.map GB)))/\τ=[some x,some (.int 3),some (.int hd),some (.lst (zs.map D.str)),some (.int mo),some (.ref p),v5,v6,none],?_,?_⟩
 .grind;refine⟨⟨by ext,by ext⟩,λk τ M3=>∃(bs:List (Str×Int×Int)) (v5 v6:Option D),(bs.map (·.1)=zs.take k/\(∀b∈bs,1<=b.2.1/\b.2.1<=64/\0<=b.2.2/\b.2.2<2^b.2.1.toNat)/\M3=put M2 p (.lst (bs.map GB)))/\τ=[some x,some (.int 3),some (.int hd),some (.lst (zs.map D.str)),some (.int mo),some (.ref p),v5,v6,none],⟨[],none,none,⟨by simp,(λ_ h=>nomatch h),rfl⟩,rfl⟩,λ_ _ _ _=>trivial,?_,?_⟩
  .intro k y τ M3 hy;ext1⟨bs,v5,v6,⟨h1,h2,e1'⟩,e2'⟩;obtain⟨hk,rfl⟩:=Th hy;obtain⟨nm,z1,z2⟩:=nat_at k (by ext);have bl:bs.length<=4:=by rw[<- Ae (f:=(·.1)),h1,AW];ext
   grind;refine⟨λτ M3=>M3=put M2 p (.lst (bs.map GB))/\∃wd:Int,(1<=wd/\wd<=64)/\τ=[some x,some (.int 3),some (.int hd),some (.lst (zs.map D.str)),some (.int mo),some (.ref p),some (.int (0+(k:Int))),some (.int wd),none],?_,?_⟩
   .grind;exact λr r0 r1=>⟨_,⟨by ext,by ext⟩,rfl⟩
   intro τ M3;ext1⟨e1',wd,hw,e2'⟩;grind;rw[show(0:Int)+(k:Int)=(k:Int) by ext,z2,Cn]
   (try grind)
   refine λr r0 r1=>⟨⟨r0,hw⟩,λv v0 v1=>⟨B5 (by ext),bs++[(nm,wd,v)],_,_,⟨?_,λb hb=>?_,by rw[AI];rfl⟩,rfl⟩⟩
   .rw[AI,h1,A3,z1];rfl
   .rcases AH.mp hb with hb|hb
    .exact h2 b hb
    .rw[AN.mp hb];exact⟨hw.1,hw.2,v0,v1⟩
  .intro τ M3;ext1⟨bs,v5,v6,h,e1'⟩;rw[R8]at h;exact⟨bs,v5,v6,h,rfl⟩
 intro τ M3;ext1⟨bs,v5,v6,⟨b1,b2,e1'⟩,e2'⟩;rw[ZD (p:=p) rfl DN,R9 hp];simp only[Cy,Dd];refine⟨λτ M3=>∃p,M2 p=none/\M3=put M2 p (.lst [])/\τ=[some x,some (.int 3),some (.int hd),some (.lst (zs.map D.str)),some (.int mo),some (.lst (bs.map GB)),v5,v6,some (.ref p)],?_,?_⟩
 .grind;exact λp hp=>⟨p,hp,rfl,rfl⟩
 intro τ M3;ext1⟨p,hp,e1',e2'⟩;refine⟨λτ M3=>∃(es:List (Str×Int)) (v5:Option D),(es.map (·.1)=(zs.drop 4).take (hd / 4%3).toNat/\(∀b∈es,1<=b.2/\b.2<=64)/\M3=put M2 p (.lst (es.map Jb)))/\τ=[some x,some (.int 3),some (.int hd),some (.lst (zs.map D.str)),some (.int mo),some (.lst (bs.map GB)),v5,v6,some (.ref p)],?_,?_⟩
 .grind;refine⟨MS (by decide) (by decide),⟨by ext,by ext⟩,λk τ M3=>∃(es:List (Str×Int)) (v5:Option D),(es.map (·.1)=(zs.drop 4).take k/\(∀b∈es,1<=b.2/\b.2<=64)/\M3=put M2 p (.lst (es.map Jb)))/\τ=[some x,some (.int 3),some (.int hd),some (.lst (zs.map D.str)),some (.int mo),some (.lst (bs.map GB)),v5,v6,some (.ref p)],⟨[],v5,⟨by simp,(λ_ h=>nomatch h),rfl⟩,rfl⟩,λ_ _ _ _=>trivial,?_,?_⟩
  .intro k y τ M3 hy;ext1⟨es,v5,⟨h1,h2,e1'⟩,e2'⟩;obtain⟨hk,rfl⟩:=Th hy;obtain⟨nm,z1,z2⟩:=nat_at (4+k) (by ext);have bl:es.length<=3:=by rw[<- Ae (f:=(·.1)),h1,AW];ext
   grind;rw[show(4:Int)+(0+(k:Int))=((4+k:Nat):Int) by ext,z2,Cn]
   (try grind)
   refine λr r0 r1=>⟨B5 (by ext),es++[(nm,1+r%3)],_,⟨?_,λb hb=>?_,by rw[AI];rfl⟩,rfl⟩
   .rw[AI,h1,A3,List.getElem?_drop,z1];rfl
   .rcases AH.mp hb with hb|hb
    .exact h2 b hb
    .rw[AN.mp hb];exact⟨by show 1<=1+r%3;ext,by show 1+r%3<=64;ext⟩
  .intro τ M3;ext1⟨es,v5,h,e1'⟩;rw[R8]at h;exact⟨es,v5,h,rfl⟩
 intro τ M3;ext1⟨es,v5,⟨e1,e2,e1'⟩,e2'⟩;rw[ZD (p:=p) rfl DN,R9 hp];simp only[Cy,Dd];grind;rw[uF _ (by decide),show(6:Int).toNat=6 from rfl,<- List.map_drop];exact Dn.of (q zs bs es ⟨zl,nd,ok,⟨_,by ext,by ext,b1⟩,b2,⟨_,by ext,e1⟩,e2⟩)
noncomputable def Tm.items:Tm->List (L3.D×Option Tm)
 |.num w n=>[(.int w,none),(.int n,none)]
 |.box x | .late x | .door x=>[(.str x,none)]
 |.not t=>[(t.D,some t)]
 |.bin _ t u=>[(t.D,some t),(u.D,some u)]
 |.pick c t u=>[(c.D,some c),(t.D,some t),(u.D,some u)]
 |.part t lo many=>[(t.D,some t),(.int lo,none),(.int many,none)]
noncomputable def Tm.head:Tm->Str
 |.num _ _=>"num" |.box _=>"box" |.late _=>"late" |.door _=>"door" |.not _=>"not" |.bin o _ _=>o.nm | .pick _ _ _=>"pick" |.part _ _ _=>"part"
theorem Tm.D_items (t:Tm):t.D=.tup (.str t.head::t.items.map (·.1)):=by cases t<;>rfl
noncomputable def GX (form:Str)(i:L3.D×Option Tm):List Str:=match i.2 with
 |some u=>u.names form
 |none=>[]
noncomputable def B6 (form:Str):List (L3.D×Option Tm)->List Str
 |[]=>[]
 |i::r=>GX form i++B6 form r
theorem Yz (form:Str):∀a b,B6 form (a++b)=B6 form a++B6 form b
 |[],b=>rfl
 |i::r,b=>by rw[D5,B6,B6,Yz form r b,Bm]
theorem y0 {t:Tm}(h:¬t.head=form):t.names form=B6 form t.items:=by
 cases t<;>simp[Tm.names,Tm.leaves,Tm.items,B6,GX,Tm.nameOf,HL,Tm.head]at h ⊢<;>(try (intro e;exact absurd e.symm h))
theorem vz {t:Tm}(h:G7 t.head):∃x,t.items=[(.str x,none)]/\t.names t.head=[x]:=by
 cases t with
 |box x | late x | door x=>exact⟨x,rfl,by simp[Tm.names,Tm.leaves,Tm.nameOf,Tm.head]⟩
 |num _ _=>exact absurd h (by unfold G7;simp only[Tm.head];nofun)
 |not _=>exact absurd h (by unfold G7;simp only[Tm.head];nofun)
 |pick _ _ _=>exact absurd h (by unfold G7;simp only[Tm.head];nofun)
 |part _ _ _=>exact absurd h (by unfold G7;simp only[Tm.head];nofun)
 |bin o _ _=>
  have:=Fz.nm_ne (o:=o);rcases h with h|h|h
  .exact absurd h this.2.1
  .exact absurd h this.2.2.1
  .exact absurd h this.2.2.2.1
theorem tF {t u:Tm}(h:(d,some u)∈t.items):d=u.D/\u∈t.kids:=by
 cases t<;>simp[Tm.items,Tm.kids]at h ⊢
 .exact⟨by rw[h.1,h.2],h.2⟩
 .rcases h with h|h<;>exact⟨by rw[h.1,h.2],by simp[h.2]⟩
 .rcases h with h|h|h<;>exact⟨by rw[h.1,h.2],by simp[h.2]⟩
 .exact⟨by rw[h.1,h.2],h.2⟩
theorem uM {t:Tm}(h:(d,none)∈t.items):(∃i,d=.int i)\/∃x,d=.str x:=by
 cases t<;>simp[Tm.items]at h
 .rcases h with h|h<;>exact .inl ⟨_,h⟩
 .exact .inr ⟨_,h⟩
 .exact .inr ⟨_,h⟩
 .exact .inr ⟨_,h⟩
 .rcases h with h|h<;>exact .inl ⟨_,h⟩
theorem rQ (d:L3.D)(ds:List L3.D):L3.cutD (d::ds) (some 1) none=ds:=by
 rw[uF _ (by decide)];rfl
def Tm.erl:Tm->Tm
 |.num w n=>.num w n
 |.box x=>.box x
 |.late x=>.box x
 |.door x=>.door x
 |.not t=>.not t.erl
 |.bin o t u=>.bin o t.erl u.erl
 |.pick c t u=>.pick c.erl t.erl u.erl
 |.part t lo m=>.part t.erl lo m
def RW (i:L3.D×Option Tm):L3.D:=i.2.elim i.1 λt=>t.erl.D
theorem t5 {t:Tm}(h:¬t.head = "late"):t.erl.D=.tup (.str t.head::t.items.map RW):=by
 cases t with
 |late x=>exact absurd rfl h
 |_=>rfl
abbrev aU (n:Nat)(ds:List D)(M:Mp)(Q:Eb):Prop:=GJ ds λx=>CH (Ig x) λt=>t.deep<=n/\Q t.erl.D M
theorem Zct {n:Nat}(G__law_early:Od T T.x74 n (aU n)):Od T T.x74 (n+1) (aU (n+1)):=by
 refine CM.p1 T.x74.d.F ["term", "some", "part"] λx M Q hr nN h1=>?_;obtain⟨t,rfl,hd,q⟩:=MV h1;refine⟨_,(qC (DD (AV Cm (Bc BA (qv 0) Ai) Bn) (qO (Cw (BR (qA Bn (qA (Bc BA (qv 0) Ai) qN))))) qE) (qC (CA 1 nN (KQ qN)) (Ec (MC AS rfl (QD (qv 0)) (Pc (i:=2) nN rfl (BH rfl)) (qO (DD (Ir (BW (fW "tuple") T.B.isinstance MF (qA (qv 2) (qA (eQ T.B.tuple EZ) qN)))) (qO (E2 (L7 AZ Br Bq Rh (qv 1) (qA (As T.x74.d G__law_early nofun (qA (qv 2) qN)) qN)))) (qO (E2 (L7 AZ Br Bq Rh (qv 1) (qA (qv 2) qN))))))) (qO (Cw (Ey VE T.B.tuple EZ (qA (qv 1) qN))))))),?_⟩;rw[t.D_items];right;by_cases hf:t.head = "late"
 .rw[if_pos hf]
  obtain⟨x,e1,e2⟩:∃x,t.items=[(.str x,none)]/\t.erl=.box x:=by
   cases t with
   |late x=>exact⟨x,rfl,rfl⟩
   |bin o _ _=>exact absurd hf (Fz.nm_ne (o:=o)).2.2.1
   |_=>exact absurd hf (by simp only[Tm.head];nofun)
  rw[e1];rw[e2]at q;simp only[AM,CY];grind;exact Dn.of q
 rw[if_neg hf];rw[t5 hf]at q;intro p hp;obtain⟨Bj,hits⟩:∃Bj:List (D×Option Tm),Bj=(.str t.head,none)::t.items:=⟨_,rfl⟩;have e0:D.str t.head::t.items.map (·.1)=Bj.map (·.1):=by rw[hits];rfl
 have e9:D.str t.head::t.items.map RW=Bj.map RW:=by rw[hits];rfl
 have hlen:Bj.length<=4:=by rw[hits];cases t<;>simp[Tm.items]
 rw[e0];rw[e9]at q;refine⟨λτ M'=>∃v2,M'=put M p (.lst (Bj.map RW))/\τ=[some (.tup (Bj.map (·.1))),some (.ref p),v2],?_,?_⟩
 .grind;refine⟨λk τ M'=>∃v2,M'=put M p (.lst ((Bj.take k).map RW))/\τ=[some (.tup (Bj.map (·.1))),some (.ref p),v2],⟨none,rfl,rfl⟩,λ_ _ _ _=>trivial,?_,?_⟩
  .rintro k y τ M' hy ⟨v2,rfl,rfl⟩;obtain⟨i,hu,rfl⟩:=Pb hy;obtain⟨d,o⟩:=i;dsimp only at hy ⊢;have e1:(Bj.take (k+1)).map RW=(Bj.take k).map RW++[RW (d,o)]:=by rw[A3,hu,AI];rfl
   have hmem:=AG hu;have hk:k<Bj.length:=(Au.mp hu).1;have lk:((Bj.take k).map RW).length<=1000:=by rw[Ae,AW];ext
   rw[e1];cases o with
   |none=>
    have hd2:(∃i,d=.int i)\/∃x,d=.str x:=by
     rw[hits]at hmem;rcases AU.mp hmem with h|h
     .cases h;exact .inr ⟨_,rfl⟩
     .exact uM h
    rcases hd2 with⟨i,rfl⟩|⟨x,rfl⟩
    .grind;exact⟨B5 (by rw[AW];ext),_,rfl,rfl⟩
    .grind;exact⟨B5 (by rw[AW];ext),_,rfl,rfl⟩
   |some u=>
    have hmem2:(d,some u)∈t.items:=by
     rw[hits]at hmem;rcases AU.mp hmem with h|h
     .cases h
     .exact h
    obtain⟨rfl,hku⟩:=tF hmem2;have du:=Tm.deep_kid hku;have isT:∀M2,Nl M2 u.D=some "tuple":=λM2=>by rw[u.D_items];rfl
    grind;rw[isT];grind;exact⟨by ext,B5 (by rw[AW];ext),_,rfl,rfl⟩
  .rintro τ M' ⟨v2,rfl,rfl⟩;refine⟨v2,?_,rfl⟩;rw[Ae,Bw]
 .rintro τ M' ⟨v2,rfl,rfl⟩;grind;exact Ta (Sub.put hp) q
theorem vH (T:Tv P w K mg base):∀n:Nat,Od T T.x74 n (aU n)
 |0=>by
  have no:∀ds M Q,¬aU 0 ds M Q:=λds M Q h=>by
   obtain⟨x,rfl,h1⟩:=GW h;obtain⟨t,rfl,hd,q⟩:=MV h1;have:=t.deep_pos;ext
  exact UG no
 |n+1=>Zct T (vH T n)
structure V1 (a b c:Str)(bs:List (Str×Int×Int))(es:List (Str×Int)):Prop where
 nd:(bs.map (·.1)++es.map (·.1)++[a,b,c]).Nodup
 ok:∀z∈bs.map (·.1)++es.map (·.1)++[a,b,c],GG z
 ne:bs≠[]
 bl:bs.length<=4
 el:es.length<=2
 b:∀b∈bs,1<=b.2.1/\b.2.1<=64/\0<=b.2.2/\b.2.2<2^b.2.1.toNat
 d:∀b∈es,1<=b.2/\b.2<=64
theorem three {α:Type}{l:List α}(h:l.length=3):∃a b c,l=[a,b,c]:=by
 match l,h with
 |[a,b,c],_=>exact⟨a,b,c,rfl⟩
theorem kL.h {zs:List Str}{bs:List (Str×Int×Int)}{es:List (Str×Int)}(g:kL zs bs es):∃a b c,zs.drop 6=[a,b,c]/\V1 a b c bs es:=by
 have zl:=g.zl;obtain⟨a,b,c,e⟩:=three (l:=zs.drop 6) (by rw[FV];ext);obtain⟨m,m1,m4,em⟩:=g.m;obtain⟨k,k2,ek⟩:=g.e
 have sub:Ho (bs.map (·.1)++es.map (·.1)++[a,b,c]) zs:=by
  rw[em,ek,<- e];have s1:Ho (zs.take m) (zs.take 4):=Lq m4;have s2:Ho ((zs.drop 4).take k) ((zs.drop 4).take 2):=Lq k2
  have e4:zs=zs.take 4++(zs.drop 4).take 2++zs.drop 6:=by
   rw[Bm,show zs.drop 6=(zs.drop 4).drop 2 by rw[List.drop_drop],ED,ED]
  have z:Ho (zs.take m++(zs.drop 4).take k++zs.drop 6) (zs.take 4++(zs.drop 4).take 2++zs.drop 6):=(s1.append s2).append (HM _);rw[<- e4]at z;exact z
 have bl:bs.length=min m 9:=by rw[<- Ae (f:=(·.1)),em,AW,zl]
 have el:es.length<=2:=by rw[<- Ae (f:=(·.1)),ek,AW];ext
 exact⟨a,b,c,e,⟨g.nd.sublist sub,λz hz=>g.ok z (sub.subset hz),λz=>(by rw[z]at bl;have:(0:Nat)=min m 9:=bl;ext),by ext,el,g.b,g.d⟩⟩
noncomputable def Gf (bs:List (Str×Int×Int)):List (Str×Int):=bs.map λb=>(b.1,b.2.1)
structure Tl (a b:Str)(bs:List (Str×Int×Int))(es:List (Str×Int)):Prop where
 nd:(bs.map (·.1)++es.map (·.1)++[a,b]).Nodup
 ok:∀z∈bs.map (·.1)++es.map (·.1)++[a,b],GG z
 ne:bs≠[]
 bl:bs.length<=5
 el:es.length<=2
 b:∀b∈bs,1<=b.2.1/\b.2.1<=64/\0<=b.2.2/\b.2.2<2^b.2.1.toNat
 d:∀b∈es,1<=b.2/\b.2<=64
theorem V1.f {a b c:Str}{bs:List (Str×Int×Int)}{es:List (Str×Int)}(h:V1 a b c bs es):Tl a b bs es:=by
 have s:Ho (bs.map (·.1)++es.map (·.1)++[a,b]) (bs.map (·.1)++es.map (·.1)++[a,b,c]):=(HM _).append (.cons₂ _ (.cons₂ _ (.cons _ (HM _))));have:=h.bl;exact⟨h.nd.sublist s,λz hz=>h.ok z (s.subset hz),h.ne,by ext,h.el,h.b,h.d⟩
theorem V1.more {a b c n:Str}{w v w':Int}{r:List (Str×Int×Int)}{es:List (Str×Int)}(h:V1 a b c ((n,w',v)::r) es)(w1:1<=w)(w2:w<=64):Tl a b ((n,w,0)::(c,w,0)::r) es:=by
 have p:QX (((n,w',v)::r).map (·.1)++es.map (·.1)++[a,b,c]) (((n,w,(0:Int))::(c,w,0)::r).map (·.1)++es.map (·.1)++[a,b]):=by
  show QX (n::(r.map (·.1)++es.map (·.1)++[a,b,c])) (n::(c::(r.map (·.1)++es.map (·.1)++[a,b])));refine List.Perm.cons n ?_;have z:=List.perm_middle (a:=c) (l₁:=r.map (·.1)++es.map (·.1)++[a,b]) (l₂:=[]);rw[Bm _ [a,b] [c],Bm _ [a,b] []]at z;exact z
 have pw:(0:Int)<2^w.toNat:=Lh (by decide);have bl:=h.bl;rw[AO]at bl;refine⟨p.nodup_iff.mp h.nd,λz hz=>h.ok z (p.mem_iff.mpr hz),(λe=>nomatch e),by rw[AO,AO];ext,h.el,λb hb=>?_,h.d⟩;rcases AU.mp hb with rfl|hb
 .exact⟨w1,w2,K6 _,pw⟩
 .rcases AU.mp hb with rfl|hb
  .exact⟨w1,w2,K6 _,pw⟩
  .exact h.b b (Aw _ hb)
theorem Tl.th {a b:Str}{bs:List (Str×Int×Int)}{es:List (Str×Int)}(h:Tl a b bs es):(bs.map (·.1)).Nodup/\KZ (Gf bs)/\KZ es/\Gf bs≠[]:=by
 have n1:(bs.map (·.1)).Nodup:=(Bt.mp (Bt.mp h.nd).1).1;have bl:=h.bl;have el:=h.el;refine⟨n1,⟨by unfold Gf;rw[Ae];ext,λp hp=>?_,by unfold Gf;rw[CP];exact n1⟩,⟨by ext,h.d,(Bt.mp (Bt.mp h.nd).1).2.1⟩,by unfold Gf;simpa using h.ne⟩;obtain⟨b,hb,rfl⟩:=AB.mp hp;exact⟨(h.b b hb).1,(h.b b hb).2.1⟩
structure Sg (ws es:List (Str×Int))(n m:Nat)(t:Tm):Prop where
 d:t.deep<=n
 p:t.parts<=m
 w:Wd ws es t 1
theorem Fn.sg {ws es:List (Str×Int)}{t:Tm}(h:Fn ws es 2 t 1):Sg ws es 6 31 t:=⟨h.deep,h.parts,h.wd⟩
theorem Sg.up {ws es:List (Str×Int)}{t:Tm}(h:Sg ws es 6 31 t):Sg ws es 8 70 t:=⟨AY h.d (by decide),AY h.p (by decide),h.w⟩
theorem Sa:∀t:Tm,t.erl.deep=t.deep/\t.erl.parts=t.parts
 |.num _ _ | .box _ | .late _ | .door _=>⟨rfl,rfl⟩
 |.not t=>by have:=Sa t;simp only[Tm.erl,Tm.deep,Tm.parts,this.1,this.2];exact⟨trivial,trivial⟩
 |.bin _ t u=>by have h1:=Sa t;have h2:=Sa u;simp only[Tm.erl,Tm.deep,Tm.parts,h1.1,h1.2,h2.1,h2.2];exact⟨trivial,trivial⟩
 |.pick c t u=>by have h0:=Sa c;have h1:=Sa t;have h2:=Sa u;simp only[Tm.erl,Tm.deep,Tm.parts,h0.1,h0.2,h1.1,h1.2,h2.1,h2.2];exact⟨trivial,trivial⟩
 |.part t _ _=>by have:=Sa t;simp only[Tm.erl,Tm.deep,Tm.parts,this.1,this.2];exact⟨trivial,trivial⟩
theorem o7 (t:Tm):t.erl.kids=t.kids.map Tm.erl:=by cases t<;>rfl
theorem o8 (t:Tm)(h:t.kids≠[]):t.erl.over=t.over:=by cases t<;>first | rfl | exact absurd rfl h
theorem Wd.erl {ws es:List (Str×Int)}{t:Tm}{w:Int}(h:Wd ws es t w):Wd ws es t.erl w:=by
 induction h with
 |num h=>exact .num h
 |box h=>exact .box h
 |late h=>exact .box h
 |door h=>exact .door h
 | @over t vs w hk ho ih=>
  obtain⟨_,ne⟩:=Tm.over_len ho;refine .over (ws:=vs) (λi k a h1 h2=>?_) (by rw[o8 t ne];exact ho);rw[o7,AL]at h1;cases e:t.kids[i]? with
  |none=>rw[e]at h1;cases h1
  |some u=>rw[e]at h1;cases h1;exact ih i u a e h2
theorem Sg.erl {ws es:List (Str×Int)}{t:Tm}(h:Sg ws es 6 31 t):Sg ws es 6 31 t.erl:=⟨by rw[(Sa t).1];exact h.d,by rw[(Sa t).2];exact h.p,h.w.erl⟩
theorem Sg.not {ws es:List (Str×Int)}{t:Tm}{n m:Nat}(h:Sg ws es n m t):Sg ws es (n+1) (m+1) (.not t):=⟨by rw[Tm.deep];have:=h.d;ext,by rw[Tm.parts];have:=h.p;ext,h.w.one rfl rfl⟩
theorem Sg.and {ws es:List (Str×Int)}{t u:Tm}{n m k:Nat}(h:Sg ws es n m t)(g:Sg ws es n k u):Sg ws es (n+1) (m+k+1) (.bin .and t u):=⟨by rw[Tm.deep];have:=h.d;have:=g.d;ext,by rw[Tm.parts];have:=h.p;have:=g.p;ext,h.w.two g.w (by simp[Tm.over])⟩
theorem Sg.mono {ws es:List (Str×Int)}{t:Tm}{n m n' m':Nat}(h:Sg ws es n m t)(h1:n<=n')(h2:m<=m'):Sg ws es n' m' t:=⟨AY h.d h1,AY h.p h2,h.w⟩
abbrev ρ:Ee:=λds M Q=>Fq ds λx y=>Kk M x λ_=>y=.int 3/\∀a b bs es (t u:Tm),Tl a b bs es->Sg (Gf bs) es 8 70 t->Sg (Gf bs) es 8 70 u->Q (.tup [.lst (bs.map GB),.lst (es.map Jb),.lst [.tup [.str a,t.D,.lst []],.tup [.str b,u.D,.lst []]]]) M
section
theorem zm:Od T T.x75 8 ρ:=by
 refine CM.p2 T.x75.d.F ["script", "wide", "boxes", "doors", "names", "first", "second", "way", "width"] λx y M Q hr nN h1=>?_;obtain⟨ns,hlx,hsx,e1',q⟩:_:=Yh h1
 have sI:∀{k:List Int->Prop},Kk M x k=k ns:=by
  intro k;unfold Kk;rw[hlx,Cn,aF,Cn]
 refine⟨_,(Ec (gJ (As T.x73.d (Ε T) nofun (qA (qv 0) (qA (qv 1) qN))) (Us (is:=[2,3,4]) rfl (Ko (JM (i:=2) nN rfl (BH rfl)) (Ko (JM (i:=3) nN rfl (BH rfl)) (Ko (JM (i:=4) nN rfl (BH rfl)) Rb))))) (Ec (CA 5 nN (As T.x72.d (vI T) nofun (qA (As T.x67.d (Iw T) nofun (qA (As T.x66.d (Ti T) nofun (qA (qv 0) (qA Ai qN))) (qA Ai qN))) (qA (qv 2) (qA (qv 3) qN))))) (Ec (CA 6 nN (As T.x72.d (vI T) nofun (qA (As T.x67.d (Iw T) nofun (qA (As T.x66.d (Ti T) nofun (qA (qv 0) (qA Ai qN))) (qA Ai qN))) (qA (qv 2) (qA (qv 3) qN))))) (Ec (CA 7 nN (As T.x67.d (Iw T) nofun (qA (As T.x66.d (Ti T) nofun (qA (qv 0) (qA Ai qN))) (qA Ai qN)))) (Ec (DD (AV JK (BE Gm (BE OL (qv 7) Ai) Ai) Ai) (qO (CA 5 nN (As T.x74.d (vH T 6) nofun (qA (qv 5) qN)))) qE) (Ec (DD (AV Cm (BE Gm (qv 7) Ai) Ai) (qO (CA 6 nN (BR (qA Bn (qA (qv 6) (qA (BR (qA Bn (qA (qv 5) qN))) qN)))))) qE) (Ec (DD (AV Cm (BE Gm (qv 7) Ai) Ai) (qO (CA 6 nN (BR (qA Bn (qA (qv 5) qN))))) qE) (Ec (DD (AV Cm (BE Gm (qv 7) Ai) Ai) (qO (gy (i:=5) (j:=6) rfl nN rfl rfl (by decide) rfl rfl (qA (BR (qA Bn (qA (qv 6) (qA (qv 5) qN)))) (qA (BR (qA Bn (qA (qv 5) qN))) qN)))) qE) (Ec (DD (AV Cm (BE Gm (BE OL (qv 7) Ai) Ai) Ai) (Ec (CA 8 nN (BE GN Ai (BE Gm (BE OL (qv 7) Ai) Ai))) (Ec (CA 2 nN (BE gQ (Gb (qA (BR (qA (Bc BA (Bc E1 (qv 2) Ai) Ai) (qA (qv 8) (qA Ai qN)))) (qA (BR (qA (Bc E1 (qv 4) Ai) (qA (qv 8) (qA Ai qN)))) qN))) (JH pX (qv 2) (UE Ai) Yn))) (Ec (CA 5 nN (BR (qA (Bc E1 (Gb (qA Bn (qA Bn qN))) (BE Gm (BE OL (qv 7) Ai) Ai)) (qA (BR (qA Bn (qA (Bc BA (Bc E1 (qv 2) Ai) Ai) qN))) (qA (BR (qA Bn (qA (Bc E1 (qv 4) Ai) qN))) qN))))) (qO (CA 6 nN (Bc E1 (Gb (qA (BR (qA Bn (qA (qv 5) qN))) (qA (BR (qA Bn (qA (BR (qA Bn (qA (Bc E1 (qv 4) Ai) qN))) (qA (BR (qA Bn (qA (Bc BA (Bc E1 (qv 2) Ai) Ai) qN))) qN)))) qN))) (BE Gm (BE OL (qv 7) Ai) Ai))))))) qE) (qO (Cw (BR (qA (qv 2) (qA (qv 3) (qA (Gb (qA (BR (qA (Bc E1 (qv 4) Ai) (qA (qv 5) (qA (Gb qN) qN)))) (qA (BR (qA (Bc E1 (qv 4) Ai) (qA (qv 6) (qA (Gb qN) qN)))) qN))) qN))))))))))))))),?_⟩
 (try simp only[Kj,Kh,Ki])
 refine⟨λτ M2=>M2=M/\∃a b c bs es,V1 a b c bs es/\τ=[some x,some (.int 3),some (.lst (bs.map GB)),some (.lst (es.map Jb)),some (.lst [.str a,.str b,.str c]),none,none,none,none],?_,?_⟩
 .grind;rw[sI];refine λzs bs es g=>?_;obtain⟨a,b,c,e,h⟩:=g.h;rw[e];exact⟨a,b,c,bs,es,h,rfl⟩
 intro τ M;ext1⟨e1',a,b,c,bs,es,hx,e2'⟩;obtain⟨bnd,ob,oe,bne⟩:=hx.f.th;have e2:bs.map GB=G4 (S8 bs) (Gf bs):=mC bnd;refine⟨λτ M2=>M2=M/\∃t:Tm,Sg (Gf bs) es 6 31 t/\τ=[some x,some (.int 3),some (.lst (bs.map GB)),some (.lst (es.map Jb)),some (.lst [.str a,.str b,.str c]),some t.D,none,none,none],?_,?_⟩
 .grind;rw[sI];exact λz z0 r r0 r1=>⟨_,es,S8 bs,⟨by rw[e2],rfl⟩,⟨r0,ob,oe,bne⟩,λt ht=>⟨t,ht.sg,rfl⟩⟩
 intro τ M2;ext1⟨e1',t,ht,e2'⟩;refine⟨λτ M3=>M3=M2/\∃u:Tm,Sg (Gf bs) es 6 31 u/\τ=[some x,some (.int 3),some (.lst (bs.map GB)),some (.lst (es.map Jb)),some (.lst [.str a,.str b,.str c]),some t.D,some u.D,none,none],?_,?_⟩
 .grind;rw[sI];exact λz z0 r r0 r1=>⟨_,es,S8 bs,⟨by rw[e2],rfl⟩,⟨r0,ob,oe,bne⟩,λt ht=>⟨t,ht.sg,rfl⟩⟩
 intro τ M;ext1⟨e1',u,hu,e2'⟩;refine⟨λτ M2=>M2=M/\∃wy:Int,0<=wy/\τ=[some x,some (.int 3),some (.lst (bs.map GB)),some (.lst (es.map Jb)),some (.lst [.str a,.str b,.str c]),some t.D,some u.D,some (.int wy),none],?_,?_⟩
 .grind;rw[sI];exact λz z0 r r0 r1=>⟨r,r0,rfl⟩
 intro τ M2;ext1⟨e1',wy,wy0,e2'⟩;refine⟨λτ M3=>M3=M2/\∃t:Tm,Sg (Gf bs) es 6 31 t/\τ=[some x,some (.int 3),some (.lst (bs.map GB)),some (.lst (es.map Jb)),some (.lst [.str a,.str b,.str c]),some t.D,some u.D,some (.int wy),none],?_,?_⟩
 .grind;refine⟨MS (by decide) (by decide),Cv (λ_=>?_) λ_=>⟨t,ht,rfl⟩⟩;exact⟨ht.d,t.erl,ht.erl,rfl⟩
 clear ht t;intro τ M;ext1⟨e1',t,ht,e2'⟩;refine⟨λτ M2=>M2=M/\∃u:Tm,(Sg (Gf bs) es 8 70 u/\(wy%4≠1->Sg (Gf bs) es 6 31 u))/\τ=[some x,some (.int 3),some (.lst (bs.map GB)),some (.lst (es.map Jb)),some (.lst [.str a,.str b,.str c]),some t.D,some u.D,some (.int wy),none],?_,?_⟩
 .grind;exact Cv (λc=>⟨.bin .and u (.not t),⟨(Sg.and (hu.mono (n':=7) (by decide) (AJ _)) ht.not).mono (AJ _) (by decide),λh=>absurd c h⟩,rfl⟩) λc=>⟨u,⟨hu.up,λ_=>hu⟩,rfl⟩
 clear hu u;intro τ M2;ext1⟨e1',u,hu,e2'⟩;refine⟨λτ M3=>M3=M2/\∃u:Tm,(Sg (Gf bs) es 8 70 u/\(wy%4=3->Sg (Gf bs) es 6 31 u))/\τ=[some x,some (.int 3),some (.lst (bs.map GB)),some (.lst (es.map Jb)),some (.lst [.str a,.str b,.str c]),some t.D,some u.D,some (.int wy),none],?_,?_⟩
 .grind;exact Cv (λc=>⟨.not t,⟨ht.not.mono (by decide) (by decide),λh=>absurd c (by ext)⟩,rfl⟩) λc=>⟨u,⟨hu.1,λh=>hu.2 (by ext)⟩,rfl⟩
 clear hu u;intro τ M;ext1⟨e1',u,hu,e2'⟩;refine⟨λτ M2=>M2=M/\∃t u:Tm,(Sg (Gf bs) es 8 70 t/\Sg (Gf bs) es 8 70 u)/\τ=[some x,some (.int 3),some (.lst (bs.map GB)),some (.lst (es.map Jb)),some (.lst [.str a,.str b,.str c]),some t.D,some u.D,some (.int wy),none],?_,?_⟩
 .grind;exact Cv (λc=>⟨.bin .and u t,.not t,⟨(Sg.and (hu.2 c) ht).mono (by decide) (by decide),ht.not.mono (by decide) (by decide)⟩,rfl⟩) λc=>⟨t,u,⟨ht.up,hu.1⟩,rfl⟩
 clear hu u ht t;intro τ M2;ext1⟨e1',t,u,⟨ht,hu⟩,e2'⟩;refine⟨λτ M3=>M3=M2/\∃(bs:List (Str×Int×Int)) (t u:Tm) (v8:Option D),(Tl a b bs es/\Sg (Gf bs) es 8 70 t/\Sg (Gf bs) es 8 70 u)/\τ=[some x,some (.int 3),some (.lst (bs.map GB)),some (.lst (es.map Jb)),some (.lst [.str a,.str b,.str c]),some t.D,some u.D,some (.int wy),v8],?_,?_⟩
 .grind;refine⟨MS (by decide) (by decide),Cv (λ_=>?_) λ_=>⟨bs,t,u,none,⟨hx.f,ht,hu⟩,rfl⟩⟩
  obtain⟨⟨n,w',v⟩,r,rfl⟩:∃p r,bs=p::r:=by
   cases bs with
   |nil=>exact absurd rfl hx.ne
   |cons p r=>exact⟨p,r,rfl⟩
  refine⟨λτ M3=>M3=M2/\∃wd:Int,(1<=wd/\wd<=64)/\τ=[some x,some (.int 3),some (.lst (((n,w',v)::r).map GB)),some (.lst (es.map Jb)),some (.lst [.str a,.str b,.str c]),some t.D,some u.D,some (.int wy),some (.int wd)],?_,?_⟩
  .grind;exact⟨MS (by decide) (by decide),_,⟨by ext,by ext⟩,rfl⟩
  intro τ M3;ext1⟨e1',wd,⟨w1,w2⟩,e2'⟩;have hf:=hx.more w1 w2;have bl:=hx.bl;rw[AO]at bl;refine⟨λτ M4=>M4=M3/\τ=[some x,some (.int 3),some (.lst (((n,wd,(0:Int))::(c,wd,0)::r).map GB)),some (.lst (es.map Jb)),some (.lst [.str a,.str b,.str c]),some t.D,some u.D,some (.int wy),some (.int wd)],?_,?_⟩
  .simp only[AM,GB];grind;rw[rQ];exact⟨HD (by rw[Ae];ext),rfl⟩
  rintro τ M4 ⟨rfl,rfl⟩;have ln:(Gf ((n,wd,(0:Int))::(c,wd,0)::r)).lookup n=some wd:=by simp[Gf]
  have lc:(Gf ((n,wd,(0:Int))::(c,wd,0)::r)).lookup c=some wd:=ZZ hf.th.2.1.nd (by simp[Gf]);have cmp:∀{o:Fz} {p q:Str},o=.less\/o=.same->(Gf ((n,wd,(0:Int))::(c,wd,0)::r)).lookup p=some wd->(Gf ((n,wd,(0:Int))::(c,wd,0)::r)).lookup q=some wd->Sg (Gf ((n,wd,(0:Int))::(c,wd,0)::r)) es 6 31 (.bin o (.box p) (.box q)):=λho h1 h2=>⟨by simp[Tm.deep],by simp[Tm.parts],Wd.two (.box h1) (.box h2) (by rcases ho with rfl | rfl<;>simp[Tm.over])⟩;refine⟨λτ M5=>M5=M4/\∃t:Tm,Sg (Gf ((n,wd,(0:Int))::(c,wd,0)::r)) es 6 31 t/\τ=[some x,some (.int 3),some (.lst (((n,wd,(0:Int))::(c,wd,0)::r).map GB)),some (.lst (es.map Jb)),some (.lst [.str a,.str b,.str c]),some t.D,some u.D,some (.int wy),some (.int wd)],?_,?_⟩
  .simp only[AM,GB];grind;refine⟨MS (by decide) (by decide),?_⟩;rcases(show wy / 1024%2=0\/wy / 1024%2=1 by ext)with e|e<;>rw[e]
   .exact⟨.bin .less (.box n) (.box c),cmp (.inl rfl) ln lc,rfl⟩
   .exact⟨.bin .same (.box n) (.box c),cmp (.inr rfl) ln lc,rfl⟩
  intro τ M5;ext1⟨e1',t,ht,e2'⟩;simp only[AM,GB];grind;refine⟨MS (by decide) (by decide),?_⟩;rcases(show wy / 2048%2=0\/wy / 2048%2=1 by ext)with e|e<;>rw[e]
  .exact⟨_,t,.not t,some (.int wd),⟨hf,ht.up,ht.not.mono (by decide) (by decide)⟩,rfl⟩
  .exact⟨_,t,.bin .less (.box c) (.box n),some (.int wd),⟨hf,ht.up,(cmp (.inl rfl) lc ln).up⟩,rfl⟩
 intro τ M3;ext1⟨e1',bs,t,u,v8,⟨hx',ht',hu'⟩,e2'⟩;have fin:=q _ _ _ _ _ _ hx' ht' hu';generalize bs.map GB=d1 at fin ⊢;generalize es.map Jb=d2 at fin ⊢;generalize t.D=d3 at fin ⊢;generalize u.D=d4 at fin ⊢;grind;exact Dn.of fin
end
theorem aL:EM ["number", "name", "guard", "boxes", "doors", "deep", "writes", "k", "term"] ["number", "name", "guard", "boxes", "doors", "deep"] (IP (DI 91)):=(⟨rfl,rfl,rfl,by nofun,rfl,by nofun,by nofun⟩)
structure PK (bs es:List (Str×Int))(k:Nat)(ws:List (Str×Tm)):Prop where
 l:ws.length<=k
 w:∀w∈ws,∃n,(w.1,n)∈bs/\Fn bs es 1 w.2 n
 s:(ws.map (·.1)).Nodup
 t:∀w∈ws,w.1∈(bs.take k).map (·.1)
theorem PK.nil {bs es:List (Str×Int)}:PK bs es 0 []:=⟨C9 _,(λ_ h=>nomatch h),JQ,λ_ h=>nomatch h⟩
theorem PK.skip {bs es:List (Str×Int)}{k:Nat}{ws:List (Str×Tm)}(h:PK bs es k ws):PK bs es (k+1) ws:=⟨Nat.le_succ_of_le h.l,h.w,h.s,λw hw=>by
 rw [A3,AI];exact BB _ (h.t w hw)⟩
theorem PK.add {bs es:List (Str×Int)}{k:Nat}{ws:List (Str×Tm)}{b:Str×Int}{t:Tm}(h:PK bs es k ws)(hb:bs[k]? = some b)(nd:(bs.map Io).Nodup)(ht:Fn bs es 1 t b.2):PK bs es (k+1) (ws++[(b.1,t)]) where
 l:=by rw[Ao];exact Nat.succ_le_succ h.l
 w:=λw hw=>by
  rcases AH.mp hw with hw|hw
  .exact h.w w hw
  .rw[AN.mp hw];exact⟨b.2,AG hb,ht⟩
 s:=by
  have hno:b.1∉(bs.take k).map (·.1):=by
   have:=Yw (ts:=[]) (f:=λb:Str×Int=>b.1) (by simpa using nd) hb;simpa using this
  rw[AI,Gs];refine⟨h.s,by simp,λa ha b' hb' e=>?_⟩;obtain⟨w,hw,rfl⟩:=AB.mp ha;have:=h.t w hw;rw[show b'=b.1 by simpa using hb']at e;rw[e]at this;exact hno this
 t:=λw hw=>by
  rw[A3,hb,AI];rcases AH.mp hw with hw|hw
  .exact BB _ (h.t w hw)
  .rw[AN.mp hw];exact AR _ (by simp)
structure Pd (bs es:List (Str×Int))(ws:List (Str×Tm)):Prop where
 l:ws.length<=bs.length
 w:∀w∈ws,∃n,(w.1,n)∈bs/\Fn bs es 1 w.2 n
 s:(ws.map (·.1)).Nodup
theorem PK.fin {bs es:List (Str×Int)}{ws:List (Str×Tm)}(h:PK bs es bs.length ws):Pd bs es ws:=⟨h.l,h.w,h.s⟩
theorem Pd.rev {bs es:List (Str×Int)}{ws:List (Str×Tm)}(h:Pd bs es ws):Pd bs es ws.reverse:=⟨by rw[OW];exact h.l,λw hw=>h.w w (QR.mp hw),by rw[QU];exact List.pairwise_reverse.mpr (h.s.imp λh=>Bg h)⟩
noncomputable def Hq (r:Str×Tm×List (Str×Tm)):D:=.tup [.str r.1,r.2.1.D,.lst (r.2.2.map LX)]
abbrev σ:Ee:=λds M Q=>∃(n:Int) (nm:Str) (g:Tm) (bs es:List (Str×Int)) (ex:Str×Int->List D),ds=[.int n,.str nm,g.D,.lst (G4 ex bs),.lst (G4 (λ_=>[]) es),.int 1]/\(0<=n/\KZ bs/\KZ es/\bs≠[])/\∀ws,Pd bs es ws->Q (Hq (nm,g,ws)) M
local macro_rules | `(tactic| simp_all_arith! [$xs,*])=>`(tactic| simp_all_arith [Uv,Tj,VF,VG,Yo,Ut,↓Yd,↓Ye,↓Yg,bn,↓Zw,↓Zx,↓Zy,gN,iB,yQ,$xs,*])
theorem zo:Od T T.x76 8 σ:=by
 refine CM.ok2 T.x76.d.F aL (λds M Q h=>?_) (λcdv A outer s H E ds M Q hr h=>?_)
 .obtain⟨n,nm,g,bs,es,ex,e1',_⟩:_:=h;rfl
 obtain⟨n,nm,g,bs,es,ex,e1',⟨n0,ob,oe,bne⟩,q⟩:_:=h;refine⟨_,(Ec (CA 6 aL.nd (KQ qN)) (Ec (MC AS rfl (UN T.B.range (qA (BW Kb T.B.len BP (qA (qv 3) qN)) qN)) (Pc (i:=7) aL.nd rfl (BH rfl)) (qO (DD (AV Cm (BE Gm (BE OL (As T.x67.d (Iw T) nofun (qA (qv 0) (qA (BE GN Ai (qv 7)) qN))) Ai) Ai) Ai) (Ec (CA 8 aL.nd (As T.x71.d (vQ T 2) nofun (qA (As T.x67.d (Iw T) nofun (qA (qv 0) (qA (BE GN Ai (qv 7)) qN))) (qA (Bc BA (Bc E1 (qv 3) (qv 7)) Ai) (qA (qv 3) (qA (qv 4) (qA (qv 5) qN))))))) (qO (E2 (L7 AZ Br Bq Rh (qv 6) (qA (BR (qA (Bc BA (Bc E1 (qv 3) (qv 7)) Ai) (qA (qv 8) qN))) qN))))) qE))) (Ec (DD (AV Cm (BE Gm (BE OL (As T.x67.d (Iw T) nofun (qA (qv 0) (qA Ai qN))) Ai) Ai) Ai) (qO (E2 (RK AZ K5 K4 tK (qv 6)))) qE) (ZM 6 (qO (Cw (BR (qA (qv 1) (qA (qv 2) (qA (qv 6) qN)))))))))),?_⟩
 (try simp only[Kj,Kh,Ki])
 refine⟨λτ M2=>∃p,M p=none/\M2=put M p (.lst [])/\τ=[some (.int n),some (.str nm),some g.D,some (.lst (G4 ex bs)),some (.lst (G4 (λ_=>[]) es)),some (.int 1),some (.ref p),none,none],?_,?_⟩
 .grind;exact λp hp=>⟨p,hp,rfl,rfl⟩
 intro τ M2;ext1⟨p,hp,e1',e2'⟩;refine⟨λτ M2=>∃ws,Pd bs es ws/\M2=put M p (.lst (ws.map LX))/\∃v7 v8,τ=[some (.int n),some (.str nm),some g.D,some (.lst (G4 ex bs)),some (.lst (G4 (λ_=>[]) es)),some (.int 1),some (.ref p),v7,v8],?_,?_⟩
 .grind;have b6:=ob.len;refine⟨⟨by ext,by ext⟩,λk τ M2=>∃ws,PK bs es k ws/\M2=put M p (.lst (ws.map LX))/\∃v7 v8,τ=[some (.int n),some (.str nm),some g.D,some (.lst (G4 ex bs)),some (.lst (G4 (λ_=>[]) es)),some (.int 1),some (.ref p),v7,v8],⟨[],.nil,rfl,none,none,rfl⟩,λ_ _ _ _=>trivial,?_,?_⟩
  .intro k y τ M2 hy;ext1⟨ws,wr,e1',v7,v8,e2'⟩;obtain⟨hk,rfl⟩:=Th hy;have hk':k<bs.length:=by ext
   have hb:bs[k]? = some bs[k]:=Ag hk';generalize bs[k]=b at hb
   have hbt:GY (G4 ex bs) (0+(k:Int))=some (.tup (.str b.1::.int b.2::ex b)):=by
    rw[show(0:Int)+(k:Int)=(k:Int) by ext];refine Oc ?_;unfold G4;rw[AL,hb];rfl
   have hbw:=ob.wd b (AG hb);grind;refine λr0 h0 h1=>⟨MS (by decide) (by decide),Cv (λc=>?_) λc=>⟨ws,wr.skip,rfl,_,_,rfl⟩⟩;refine⟨λτ M2=>M2=put M p (.lst (ws.map LX))/\∃t:Tm,Fn bs es 1 t b.2/\τ=[some (.int n),some (.str nm),some g.D,some (.lst (G4 ex bs)),some (.lst (G4 (λ_=>[]) es)),some (.int 1),some (.ref p),some (.int (0+(k:Int))),some t.D],?_,?_⟩
   .grind;intro r1 h2 h3;rw[hbt,Cn];grind;exact⟨bs,es,ex,⟨rfl,rfl⟩,⟨h2,hbw.1,hbw.2,ob,oe,bne⟩,λt ht=>⟨t,ht,rfl⟩⟩
   intro τ M2;ext1⟨e1',t,ht,e2'⟩;grind;rw[hbt,Cn]
   (try grind)
   exact⟨B5 (by have:=wr.l;ext),ws++[(b.1,t)],wr.add hb ob.nd ht,by rw[AI];rfl,_,_,rfl⟩
  .intro τ M2;ext1⟨ws,wr,e1',v7,v8,e2'⟩;rw[R8]at wr;exact⟨ws,(show PK bs es bs.length ws from wr).fin,rfl,v7,v8,rfl⟩
 intro τ M2;ext1⟨ws,wk,e1',v7,v8,e2'⟩;refine⟨λτ M2=>∃ws,Pd bs es ws/\M2=put M p (.lst (ws.map LX))/\∃v7 v8,τ=[some (.int n),some (.str nm),some g.D,some (.lst (G4 ex bs)),some (.lst (G4 (λ_=>[]) es)),some (.int 1),some (.ref p),v7,v8],?_,?_⟩
 .grind;refine λr0 h0 h1=>⟨MS (by decide) (by decide),Cv (λc=>?_) λc=>⟨ws,wk,rfl,v7,v8,rfl⟩⟩;rw[DN];exact⟨ws.reverse,wk.rev,by rw[R7,QU],v7,v8,rfl⟩
 intro τ M2;ext1⟨ws,wk,e1',v7,v8,e2'⟩;rw[ZD (p:=p) rfl DN,R9 hp];simp only[Cy,Dd];grind;exact Dn.of (q ws wk)
theorem u7 (form:Str)(t:Tm):(t.names form).length<=t.parts:=AY (DO _ _) t.leaves_len
abbrev aV (n:Nat)(ds:List D)(M:Mp)(Q:Eb):Prop:=Fq ds λx f=>CH (Ig x) λt=>GI f λform=>t.deep<=n/\t.parts<=1000/\G7 form/\Q (.lst ((t.names form).map D.str)) M
theorem Zcs {n:Nat}(G__law_found:Od T T.x77 (n+3) (aV n)):Od T T.x77 (n+4) (aV (n+1)):=by
 refine CM.p2 T.x77.d.F ["term", "sort", "found", "part"] λx f M Q hr nN h1=>?_;obtain⟨t,rfl,h2⟩:=MV h1;obtain⟨form,e1',hd,hp,hn,q⟩:_:=Et h2;refine⟨_,(qC (DD (AV Cm (Bc BA (qv 0) Ai) (qv 1)) (qO (Cw (Gb (qA (Bc BA (qv 0) Ai) qN)))) qE) (qC (CA 2 nN (Gb qN)) (Ec (MC AS rfl (QD (JH nJ (qv 0) (UE Ai) Yn)) (Pc (i:=3) nN rfl (BH rfl)) (qO (DD (Ir (BW (fW "tuple") T.B.isinstance MF (qA (qv 3) (qA (eQ T.B.tuple EZ) qN)))) (qO (CA 2 nN (BE gQ (qv 2) (As T.x77.d G__law_found nofun (qA (qv 3) (qA (qv 1) qN)))))) qE))) (qO (Cw (qv 2)))))),?_⟩;rw[t.D_items];right;by_cases hf:t.head=form
 .rw[if_pos hf];subst hf;obtain⟨x,e1,e2⟩:=vz hn;rw[e2]at q;rw[e1];simp only[AM,CY];grind;exact Dn.of q
 rw[if_neg hf];have hlen:=u7 form t;rw[y0 hf]at q hlen;refine⟨λτ M'=>M'=M/\∃v3,τ=[some (.tup (.str t.head::t.items.map (·.1))),some (.str form),some (.lst ((B6 form t.items).map D.str)),v3],?_,?_⟩
 .grind;rw[show L3.cutD (D.str t.head::t.items.map (·.1)) (some 1) none=t.items.map (·.1)from rQ _ _];refine⟨λk τ M'=>M'=M/\∃v3,τ=[some (.tup (.str t.head::t.items.map (·.1))),some (.str form),some (.lst ((B6 form (t.items.take k)).map D.str)),v3],⟨rfl,none,rfl⟩,λ_ _ _ _=>trivial,?_,?_⟩
  .rintro k y τ M' hy ⟨rfl,v3,rfl⟩;obtain⟨i,hu,rfl⟩:=Pb hy;obtain⟨d,o⟩:=i;dsimp only at hy ⊢;have e1:t.items.take (k+1)=t.items.take k++[(d,o)]:=by rw[A3,hu];rfl
   have hmem:=AG hu
   have e2:B6 form t.items=B6 form (t.items.take k)++GX form (d,o)++B6 form (t.items.drop (k+1)):=by
    have:B6 form (t.items.take (k+1))=B6 form (t.items.take k)++GX form (d,o):=by
     rw[e1,Yz];simp[B6]
    rw[<- this,<- Yz,ED]
   rw[e2]at hlen;simp only[Ao]at hlen;cases o with
   |none=>
    have hd2:(∃i,d=.int i)\/∃x,d=.str x:=uM hmem
    have e3:B6 form (t.items.take (k+1))=B6 form (t.items.take k):=by
     rw[e1,Yz];simp[B6,GX]
    rcases hd2 with⟨i,rfl⟩|⟨x,rfl⟩
    .grind;rw[e3];exact⟨_,rfl⟩
    .grind;rw[e3];exact⟨_,rfl⟩
   |some u=>
    obtain⟨rfl,hku⟩:=tF hmem;have du:=Tm.deep_kid hku;have pu:=Tm.parts_of_kid hku;have hd3:=u.D_items
    have e3:B6 form (t.items.take (k+1))=B6 form (t.items.take k)++u.names form:=by
     rw[e1,Yz];simp[B6,GX]
    have isT:∀M2,Nl M2 u.D=some "tuple":=λM2=>by rw[hd3];rfl
    grind;rw[isT];simp only[GX]at hlen;grind;refine⟨by ext,by ext,hn,HD (by ext),some u.D,?_⟩;rw[e3,AI]
  .rintro τ M' ⟨rfl,v3,rfl⟩;refine⟨rfl,v3,?_⟩;rw[Ae,Bw]
 .rintro τ M' ⟨rfl,v3,rfl⟩;grind;exact Dn.of q
theorem jQ (T:Tv P w K mg base):∀n:Nat,Od T T.x77 (n+3) (aV n)
 |0=>by
  have no:∀ds M Q,¬aV 0 ds M Q:=λds M Q h=>by
   obtain⟨x,f,rfl,h1⟩:=L9 h;obtain⟨t,rfl,h2⟩:=MV h1;obtain⟨form,e1',hd,hp,hn,q⟩:_:=Et h2;have:=t.deep_pos;ext
  exact UG no
 |n+1=>Zcs T (jQ T n)
abbrev ς:Ee:=λds M Q=>Fq ds λx y=>∃(r:Str×Tm×List (Str×Tm)) (f:Str) (zs:List Str),x=Hq r/\y=.str f/\G7 f/\MX zs r.2.1 (r.2.2.map (·.2))/\Q (.lst ((HE (CF f r.2.1 (r.2.2.map (·.2)))).map D.str)) M
theorem iJ (f:Str)(g:Tm)(ts:List Tm)(t:Tm):CF f g (ts++[t])=CF f g ts++t.names f:=by simp[CF]
theorem oU (h:MX zs g ts)(f:Str):∀k,(CF f g (ts.take k)).length<=100*(k+1)
 |0=>by
  have:=(h.t g AA).1.2;have l1:(g.names f).length<=g.leaves.length:=DO _ _;have l2:=g.leaves_len;simp[CF];ext
 |k+1=>by
  have ih:=oU h f k;rw[A3];cases e:ts[k]? with
  |none=>simpa using AY ih (by ext)
  |some t=>have:=(h.t t (Aw _ (AG e))).1.2;have l1:(t.names f).length<=t.leaves.length:=DO _ _;have l2:=t.leaves_len;show(CF f g (ts.take k++[t])).length<=_;rw[iJ,Ao];ext
theorem zn:Od T T.x78 16 ς:=by
 refine CM.p2 T.x78.d.F ["rule", "sort", "found", "box", "term"] λx y M Q hr nN h=>?_;obtain⟨r,f,zs,e1',e2',hf,ok,q⟩:_:=h;refine⟨_,(Ec (CA 2 nN (As T.x77.d (jQ T 12) nofun (qA (Bc BA (qv 0) Ai) (qA (qv 1) qN)))) (Ec (MC AS rfl (PJ (Bc BA (qv 0) Ai)) (Us (is:=[3,4]) rfl (Ko (JM (i:=3) nN rfl (BH rfl)) (Ko (JM (i:=4) nN rfl (BH rfl)) Rb))) (qO (CA 2 nN (BE gQ (qv 2) (As T.x77.d (jQ T 12) nofun (qA (qv 4) (qA (qv 1) qN))))))) (qO (Cw (eT rfl T.B.sorted T.B.set (qv 2)))))),?_⟩
 (try simp only[Kj,Kh,Ki])
 have one:=ok.t;refine⟨λτ M2=>M2=M/\τ=[some (Hq r),some (.str f),some (.lst ((r.2.1.names f).map D.str)),none,none],?_,?_⟩
 .simp only[Hq];grind;exact⟨(one _ AA).1.1,AY (one _ AA).1.2 (by decide),hf⟩
 rintro τ M2 ⟨rfl,rfl⟩;have hz:=ok.z;have hl:=ok.l;have rl:=oU ok f;refine⟨λτ M3=>M3=M2/\∃v3 v4,τ=[some (Hq r),some (.str f),some (.lst ((CF f r.2.1 (r.2.2.map (·.2))).map D.str)),v3,v4],?_,?_⟩
 .simp only[Hq];grind;refine⟨λi τ M3=>M3=M2/\∃v3 v4,τ=[some (Hq r),some (.str f),some (.lst ((CF f r.2.1 ((r.2.2.map (·.2)).take i)).map D.str)),v3,v4],⟨rfl,none,none,by simp[CF,Hq]⟩,λ_ _ _ _=>trivial,?_,?_⟩
  .intro i d τ M3 hd;ext1⟨e1',v3,v4,e2'⟩;obtain⟨w0,hw0,rfl⟩:=Pb hd;have h1:(r.2.2.map (·.2))[i]? = some w0.2:=by rw[AL,hw0];rfl
   have hin:w0.2∈r.2.1::r.2.2.map (·.2):=Aw _ (AG h1);have hi:=(Au.mp h1).1;have r1:=rl i;have r2:=rl (i+1);have et:(r.2.2.map (·.2)).take (i+1)=(r.2.2.map (·.2)).take i++[w0.2]:=by rw[A3,h1];rfl
   rw[et]at r2;rw[iJ,Ao]at r2;simp only[LX];grind;refine⟨(one _ hin).1.1,AY (one _ hin).1.2 (by decide),hf,HD (by first | ext | (simp;ext)),some (.str w0.1),some w0.2.D,?_⟩;rw[et,iJ,AI]
  .intro τ M3;ext1⟨e1',v3,v4,e2'⟩;rw[Ae,show r.2.2.length=(r.2.2.map (·.2)).length by rw[Ae],Bw];exact⟨rfl,v3,v4,rfl⟩
 intro τ M3;ext1⟨e1',v3,v4,e2'⟩;grind;rw[QF,Cn]
 have few:(fm (CF f r.2.1 (r.2.2.map (·.2)))).length<=20:=AY (ZG (zs:=zs) λx hx=>by
  unfold CF at hx;rcases AH.mp hx with h|h
  .exact(ok.t _ AA).2 f x h
  .obtain ⟨ns,hns,hx⟩:=Ku.mp h;obtain ⟨t,ht,rfl⟩:=AB.mp hns;exact (ok.t t (Aw _ ht)).2 f x hx) hz
 have r6:=rl (r.2.2.map (·.2)).length;rw[Bw]at r6;exact⟨by have:1000<A9:=(by decide);ext,by ext,Dn.of q⟩
theorem fQ (zs:List Str):(zs.map D.str).all DE=true:=by
 induction zs with
 |nil=>rfl
 |cons z r ih=>rw[AM,FY,ih];rfl
theorem fP (x)(zs:List Str):((zs.map D.str).any λz=>Kx z (.str x))=decide (x∈zs):=by
 induction zs with
 |nil=>rfl
 |cons z r ih=>
  rw[AM,FX,ih,ik];by_cases h:z=x
  .simp[h]
  .have h':¬x=z:=λe=>h e.symm;simp[h,h']
def Zm (r1 r2:Str×Tm×List (Str×Tm)):List Str:=(O5 (r1.2.2.map (·.1))).filter λz=>decide (z∈HE (CF "box" r2.2.1 (r2.2.2.map (·.2))))
abbrev yd:Ee:=λds M Q=>Fq ds λx y=>∃(r1 r2:Str×Tm×List (Str×Tm)) (zs:List Str),x=Hq r1/\y=Hq r2/\r1.2.2.length<=6/\MX zs r2.2.1 (r2.2.2.map (·.2))/\Q (.lst ((Zm r1 r2).map D.str)) M
theorem y9:Od T T.x79 20 yd:=by
 refine CM.p2 T.x79.d.F ["ahead", "behind"] λx y M Q hr nN h=>?_;obtain⟨r1,r2,zs,e1',e2',l6,rd,q⟩:_:=h;refine⟨_,(qO (Cw (OE (caps:=[("behind",1)]) ⟨rfl,by rfl,by rfl,by rfl,rfl,by rfl,by nofun⟩ rfl (PJ (BW rf T.B.sorted boot_sorted (qA (GV (caps:=[]) ⟨rfl,by rfl,by rfl,by rfl,rfl,by rfl,by nofun⟩ rfl (PJ (Bc BA (qv 0) Ai)) (λ_ _ _ _ _ _=>(Bc BA (qv 0) Ai))) qN))) (λ_ _ _ _ _ _=>(qv 0)) (λ_ _ _ _ _ _=>(AV XR (qv 0) (As T.x78.d (zn T) nofun (qA (qv 1) (qA Bn qN))) (by with_unfolding_all rfl)))))),?_⟩;simp only[Hq];right;refine F4.of (f:=λw=>D.str w.1) (HD (by ext)) trivial (λw hw R h=>?_) ?_
 .simp only[LX];walk_at "cap";exact h
 rw[show(r1.2.2.map λw=>D.str w.1)=(r1.2.2.map (·.1)).map D.str by rw[CP];rfl,QF,Cn];refine⟨by rw[Ae];ext,F4.filt (f:=D.str) (pr:=λz=>decide (z∈HE (CF "box" r2.2.1 (r2.2.2.map (·.2))))) (HD (by rw[qM,Ae];ext)) trivial (λz hz R r=>?_) (λz hz R r=>?_) (by unfold Zm at q;exact Dn.of q)⟩
 .walk_at "cap";refine⟨r2, "box",zs,rfl,rfl,.inl rfl,rd,?_⟩;exact⟨fQ _,by rw[fP];exact r⟩
 .walk_at "cap";exact r
theorem Pa:EM ["script", "boxes", "doors", "pair", "rules", "k", "number", "works", "ahead", "behind", "met", "reply", "paper"] ["script"] (IP (DI 95)):=(⟨rfl,rfl,rfl,by nofun,rfl,by nofun,by nofun⟩)
inductive Pl:Nat->D->Prop
 |flat {n:Nat} {d:D}:DE d=true->Pl n d
 |tup {n:Nat} {xs:List D}:(∀d∈xs,Pl n d)->Pl (n+1) (.tup xs)
theorem o6 (h:DE d=true):Kx d d=true:=by
 cases d<;>first | exact absurd h Aj | simp[Kx]
theorem aA :∀{xs:List D},(∀d∈xs,f d d=some true)->Gk f xs xs=some true
 |[],_=>rfl
 |x::r,h=>by
  unfold Gk;rw[h x AA,aA λd hd=>h d (Aw _ hd)];rfl
theorem Pl.cmp (h:Pl n d):Ek M n d d=some true:=by
 induction h with
 | @flat n d h=>cases n<;>(unfold Ek;rw[h,Jk,if_pos rfl,o6 h])
 |tup _ ih=>unfold Ek;show(if false=true then _ else _)=_;rw[if_neg Aj];exact aA ih
theorem pP {rs:List (Str×Tm×List (Str×Tm))}(nd:(rs.map (·.1)).Nodup){r:Str×Tm×List (Str×Tm)}(hr:r∈rs):rs.find? (Fs r.1)=some r:=by
 induction rs with
 |nil=>cases hr
 |cons c l ih=>
  rw[AM,DH]at nd;rcases AU.mp hr with rfl|hr
  .rw[BZ,show Fs r.1 r=true from decide_eq_true rfl]
  .have ne:¬c.1=r.1:=λe=>nd.1 (by rw[e];exact DR hr);rw[BZ,show Fs r.1 c=false from decide_eq_false ne];exact ih nd.2 hr
theorem dg {r1 r2:Str×Tm×List (Str×Tm)}(nd:(r1.2.2.map (·.1)).Nodup):Zm r1 r2=IM "box" r1 r2:=by
 unfold IM La Zm;generalize HE (CF "box" r2.2.1 (r2.2.2.map (·.2)))=ys;have ps:(O5 (r1.2.2.map (·.1))).Perm (r1.2.2.map (·.1)):=Ez _ _;have pw:List.Pairwise (λa b=>OI a b=true) ((O5 (r1.2.2.map (·.1))).filter λz=>decide (z∈ys)):=(Di UJ VJ _).sublist OY;have n1:((O5 (r1.2.2.map (·.1))).filter λz=>decide (z∈ys)).Nodup:=(ps.nodup_iff.mpr nd).sublist OY;generalize (O5 (r1.2.2.map (·.1))).filter (λz=>decide (z∈ys))=l at pw n1 ⊢;refine GS (λa b _ _ p q=>ZV p q) pw (Di UJ VJ _) ?_;exact((F6 n1 (Rc l)).mpr λa=>GF.symm)
theorem qH (N:List Int->Nat)(g g':List Int->Int)(row:List (Str×Str×Nat))(E:Str->List (Str×Nat)):∀(f:Nat) (ms:List Int) (cs:List (List Int×Int)),Q6 N g g' (λms=>Ka row ms E) f ms cs=.tup [.str "unsure"]\/(∃ds:List (List Int×Int),Q6 N g g' (λms=>Ka row ms E) f ms cs=.tup [.str "never",.lst (ds.map Oa)])\/∃ks,Q6 N g g' (λms=>Ka row ms E) f ms cs=Ka row ks E
 |0,_,_=>.inl rfl
 |f+1,ms,cs=>by
  rw[Q6];split
  .exact .inr (.inr ⟨_,rfl⟩)
  .split
   .exact .inl rfl
   .split
    .exact .inr (.inl ⟨_,rfl⟩)
    .exact qH N g g' row E f _ _
theorem qU (ws:List (Str×Int)):∀p∈EO ws,∃i:Int,p.2=D.int i:=λp hp=>by
 obtain⟨w,-,rfl⟩:=AB.mp hp;exact⟨_,rfl⟩
def UP (M:Mp)(x d:D):Prop:=(x=d/\MU d≠"both")\/∃p AQ l,M p=some (.dic AQ)/\x=.tup (.str "both"::.ref p::l)/\d=.tup (.str "both"::.dic AQ::l)
structure kM (d:D):Prop where
 w:∃s l,d=.tup (.str s::l)
 p:MU d≠"both"->∀M,Ek M 40 d d=some true
 b:∀AQ l,d=.tup (.str "both"::.dic AQ::l)->AQ.length<=100/\(∀p∈AQ,∃i:Int,p.2=D.int i)/\∀e∈l,∃ks,e=.dic ks/\∀p∈ks,∃i:Int,p.2=D.int i
theorem UP.alk {M:Mp}{x y d:D}(ad:kM d)(hx:UP M x d)(hy:UP M y d):alk M 1 x y:=by
 rcases hx with⟨rfl,nx⟩|⟨p,AQ,l,hp,rfl,e⟩
 .rcases hy with⟨rfl,_⟩|⟨p',kvs',l',_,_,e'⟩
  .exact .inl (.inl (ad.p nx M))
  .exact absurd (by rw[e'];rfl) nx
 .rcases hy with⟨_,ny⟩|⟨p',kvs',l',hp',rfl,e'⟩
  .exact absurd (by rw[e];rfl) ny
  .rw[e]at e';injection e' with e'
   injection e' with _ e'
   injection e' with e1 e2
   injection e1 with e1
   subst e1 e2;obtain⟨_,hi,hl⟩:=ad.b _ _ e;refine .inr ⟨_,_,rfl,rfl,rfl,λi a b ha hb=>?_⟩;rcases i with _|_|i
   .cases ha;cases hb;exact .inl rfl
   .cases ha;cases hb;exact .inr ⟨AQ,by simp only[Eu,hp],by simp only[Eu,hp'],hi⟩
   .have ha:l[i]? = some a:=ha;have hb:l[i]? = some b:=hb;rw[ha]at hb;cases hb;obtain⟨ks,rfl,hk⟩:=hl a (AG ha);exact .inr ⟨ks,rfl,rfl,hk⟩
theorem rK {M:Mp}{z:Str}{x y:D}(h:alk M 1 x y)(i:Nat)(a b:D)(ha:[D.str z,x][i]? = some a)(hb:[D.str z,y][i]? = some b):alk M 2 a b:=by
 rcases i with _|_|i
 .cases ha;cases hb;exact .inl (.inl (.inl (by simp[Ek,DE,Kx])))
 .cases ha;cases hb;exact .inl h
 .cases ha
theorem bg {row:List (Str×Str×Nat)}{t u:Tm}(kr:Nt (Hk row) row):kM (OG row t u):=by
 have two:∀s (l:List D),(∃s' l',D.tup (.str s::l)=.tup (.str s'::l')):=λs l=>⟨_,_,rfl⟩;unfold OG;rcases qH (XT row t u) (λms=>gM row ms (Hk row) "one" t) (λms=>gM row ms (Hk row) "other" u) row (Hk row) 65 [] []with h|⟨ds,h⟩|⟨ks,h⟩<;>rw[h]
 .exact⟨two _ _,λ_ M=>by simp[Ek,Gk,DE,Kx],λAQ l e=>by injection e with e;injection e with e;cases e⟩
 .refine⟨two _ _,λ_ M=>?_,λAQ l e=>by injection e with e;injection e with e;cases e⟩
  have hc:∀ c:List Int×Int,Ek M 38 (Oa c) (Oa c)=some true:=λc=>Pl.cmp (.tup λd hd=>by
   simp only[Bx,AX,or_false]at hd;rcases hd with rfl|rfl
   .exact .tup λd hd=>by
     obtain⟨i,-,rfl⟩:=AB.mp hd;exact .flat rfl
   .exact .flat rfl)
  unfold Ek;rw[if_neg (by simp[DE])];refine aA λd hd=>?_;simp only[Bx,AX,or_false]at hd;rcases hd with rfl|rfl
  .exact Pl.cmp (.flat rfl)
  .unfold Ek;rw[if_neg (by simp[DE])];show Gk (Ek M 38) (ds.map Oa) (ds.map Oa)=some true;refine aA λd hd=>?_;obtain⟨c,-,rfl⟩:=AB.mp hd;exact hc c
 .refine⟨two _ _,λn=>absurd rfl n,λAQ l e=>?_⟩;unfold Ka at e;injection e with e
  injection e with _ e
  injection e with e1 e2
  subst e2;injection e1 with e1
  subst e1;refine⟨?_,qU _,λe he=>?_⟩
  .have:=(kr.e "box").2.1;unfold EO RT;rw[Ae,Ae];ext
  .simp only[Bx,AX,or_false]at he;rcases he with rfl|rfl|rfl<;>exact⟨_,rfl,qU _⟩
structure wL (bs:List (Str×Int))(es:List (Str×Int))(ps:List (Str×Tm))(k:Nat)(rs:List (Str×Tm×List (Str×Tm))):Prop where
 n:rs.map (λr=>(r.1,r.2.1))=ps.take k
 w:∀r∈rs,Pd bs es r.2.2
theorem jw {a b:Str}{bs:List (Str×Int×Int)}{es:List (Str×Int)}{t u:Tm}{w0 w1:List (Str×Tm)}(h:Tl a b bs es)(ht:Sg (Gf bs) es 8 70 t)(hu:Sg (Gf bs) es 8 70 u)(h0:Pd (Gf bs) es w0)(h1:Pd (Gf bs) es w1):Wk.Ok ⟨bs,es,[(a,t,w0),(b,u,w1)]⟩:=by
 obtain⟨n1,ob,oe,ne⟩:=h.th;have bl:=h.bl;have el:=h.el;have wl:(Gf bs).length<=6:=ob.len
 have rl:∀{g:Tm} {ws:List (Str×Tm)},Sg (Gf bs) es 8 70 g->Pd (Gf bs) es ws->Sh (Gf bs) es g ws:=λhg hw=>by
  refine⟨⟨⟨AY hg.p (by decide),AY hg.d (by decide)⟩,hg.w⟩,AY hw.l wl,λw hw'=>?_,hw.s⟩;obtain⟨n,hn,hf⟩:=hw.w w hw';exact⟨n,ZZ ob.nd hn,⟨AY hf.parts (by decide),AY hf.deep (by decide)⟩,hf.wd⟩
 have okn:∀z,z∈[a,b]->GG z:=λz hz=>h.ok z (AR _ hz);refine⟨⟨by show bs.length<=12;ext,λb hb=>⟨h.ok _ (BB _ (BB _ (DR hb))),h.b b hb⟩⟩,⟨by show es.length<=6;ext,λb hb=>⟨h.ok _ (BB _ (AR _ (DR hb))),h.d b hb⟩⟩,⟨by show 2<=8;decide,λr hr=>?_⟩,h.nd⟩;simp only[Bx,AX,or_false]at hr;rcases hr with rfl|rfl
 .exact⟨okn _ (by simp),rl ht h0⟩
 .exact⟨okn _ (by simp),rl hu h1⟩
theorem bj:Od T T.x80 50 spLaw2:=by
 refine CM.ok2 T.x80.d.F Pa (λds M Q h=>?_) (λcdv A outer s H E ds M Q hr h=>?_)
 .obtain⟨ns,rfl,_⟩:=h;rfl
 obtain⟨ns,rfl,h63,q⟩:=h;refine⟨_,(Ec (gJ (As T.x75.d (zm T) nofun (qA (qv 0) (qA Ai qN))) (Us (is:=[1,2,3]) rfl (Ko (JM (i:=1) Pa.nd rfl (BH rfl)) (Ko (JM (i:=2) Pa.nd rfl (BH rfl)) (Ko (JM (i:=3) Pa.nd rfl (BH rfl)) Rb))))) (Ec (CA 4 Pa.nd (KQ qN)) (Ec (MC AS rfl (UN T.B.range (qA Ai qN)) (Pc (i:=5) Pa.nd rfl (BH rfl)) (Ec (CA 6 Pa.nd (As T.x67.d (Iw T) nofun (qA (As T.x66.d (Ti T) nofun (qA (qv 0) (qA (BE GN Ai (qv 5)) qN))) (qA Ai qN)))) (qO (E2 (L7 AZ Br Bq Rh (qv 4) (qA (As T.x76.d (zo T) nofun (qA (qv 6) (qA (Bc BA (Bc E1 (qv 3) (qv 5)) Ai) (qA (Bc BA (Bc E1 (qv 3) (qv 5)) Ai) (qA (qv 1) (qA (qv 2) (qA Ai qN))))))) qN)))))) (Ec (CA 7 Pa.nd (As T.x35.d (jh T) nofun (qA (Ey hJ T.B.list Wb (qA (qv 1) qN)) (qA (Ey hJ T.B.list Wb (qA (qv 2) qN)) (qA (RI (ns:=["guard", "writes"]) (caps:=[]) ⟨⟨rfl,by rfl,by rfl,by rfl,rfl,by rfl,by nofun⟩,by rfl,by nofun⟩ rfl (PJ (qv 4)) (λ_ _ _ _ _ _=>(BR (qA (qv 0) (qA (qv 1) (qA (Ey hJ T.B.list Wb (qA (qv 2) qN)) qN))))) (λ_ _ _ _ _ _=>(Ko (JM (i:=0) (show(["name", "guard", "writes"]:List Str).Nodup by nofun) rfl (BH rfl)) (Ko (JM (i:=1) (show(["name", "guard", "writes"]:List Str).Nodup by nofun) rfl (BH rfl)) (Ko (JM (i:=2) (show(["name", "guard", "writes"]:List Str).Nodup by nofun) rfl (BH rfl)) Rb))))) qN))))) (Ec (DD (AV Cm (BE Gm (As T.x67.d (Iw T) nofun (qA (As T.x66.d (Ti T) nofun (qA (qv 0) (qA Ai qN))) (qA Ai qN))) Ai) Ai) (qO (E2 (RK AZ K5 K4 tK (qv 4)))) qE) (ZM 4 (Ec (gJ (qv 4) (gt (is:=[8,9]) rfl (Ko (JM (i:=8) Pa.nd rfl (BH rfl)) (Ko (JM (i:=9) Pa.nd rfl (BH rfl)) Rb)))) (Ec (CA 10 Pa.nd (As T.x79.d (y9 T) nofun (qA (qv 8) (qA (qv 9) qN)))) (Ec (CA 11 Pa.nd (As T.x65.d (qY T) nofun (qA (qv 7) (qA (Bc BA (qv 8) Ai) (qA (Bc BA (qv 9) Ai) qN))))) (qC (DD (AV (fT (Uj hr)) (qv 10) (Gb qN)) (qO (Cw (NX mF (qv 11) O6))) qE) (Ec (CA 12 Pa.nd (As T.x61.d (vL T) nofun (qA (qv 7) (qA (Bc BA (qv 8) Ai) (qA (Bc BA (qv 9) Ai) qN))))) (qC (DD (AV Cm (Bc BA (qv 12) Ai) Bn) (qO (Cw (NX mF (qv 11) O6))) qE) (qC (DD ((Uo (LF (Ir (BW (fW "tuple") T.B.isinstance MF (qA (qv 11) (qA (eQ T.B.tuple EZ) qN))))) (VB (AV (xW (X3 hr)) (qv 11) (BR (qA (Bc E1 (qv 10) Ai) (qA (qv 12) qN))))))).pt (qO (Cw Vq)) qE) (Ec (DD (AV Cm (Bc BA (qv 12) Ai) Bn) (qO (VH (Ly hr) (Bc BA (Bc BA (qv 11) Ai) Ai) Bn Ai rfl)) qE) (qO (Cw (NX (xU (X3 hr)) (As T.x65.d (qY T) nofun (qA (qv 7) (qA (Bc BA (qv 8) Ai) (qA (Bc BA (qv 9) Ai) qN)))) (BR (qA (Bc E1 (qv 10) Ai) (qA (qv 12) qN)))))))))))))))))))),?_⟩
 (try simp only[Kj,Kh,Ki])
 refine⟨λτ M'=>∃a b bs es t u,(Tl a b bs es/\Sg (Gf bs) es 8 70 t/\Sg (Gf bs) es 8 70 u)/\τ=[some (.lst (ns.map D.int)),some (.lst (bs.map GB)),some (.lst (es.map Jb)),some (.lst [.tup [.str a,t.D,.lst []],.tup [.str b,u.D,.lst []]]),none,none,none,none,none,none,none,none,none],?_,?_⟩
 .grind;exact λa b bs es t u hx ht hu=>⟨a,b,bs,es,t,u,⟨hx,ht,hu⟩,rfl⟩
 intro τ M1;ext1⟨a,b,bs,es,t,u,⟨hx,ht,hu⟩,e1'⟩;obtain⟨bnd,ob,oe,bne⟩:=hx.th;have e2:bs.map GB=G4 (S8 bs) (Gf bs):=mC bnd;generalize eN:D.lst (ns.map D.int)=N1;generalize eP:D.lst [.tup [.str a,t.D,.lst []],.tup [.str b,u.D,.lst []]]=P1;generalize eB:D.lst (bs.map GB)=B1;generalize eD:D.lst (es.map Jb)=D1;refine⟨λτ M'=>∃p,M1 p=none/\M'=put M1 p (.lst [])/\τ=[some N1,some B1,some D1,some P1,some (.ref p),none,none,none,none,none,none,none,none],?_,?_⟩
 .grind;exact λp hp=>⟨p,hp,rfl,rfl⟩
 intro τ M2;ext1⟨p,hp,e1',e2'⟩;refine⟨λτ M'=>∃rs v5 v6,wL (Gf bs) es [(a,t),(b,u)] 2 rs/\M'=put M1 p (.lst (rs.map Hq))/\τ=[some N1,some B1,some D1,some P1,some (.ref p),v5,v6,none,none,none,none,none,none],?_,?_⟩
 .grind;refine⟨λk τ M'=>∃rs v5 v6,wL (Gf bs) es [(a,t),(b,u)] k rs/\M'=put M1 p (.lst (rs.map Hq))/\τ=[some N1,some B1,some D1,some P1,some (.ref p),v5,v6,none,none,none,none,none,none],⟨[],none,none,⟨rfl,λ_ h=>nomatch h⟩,rfl,rfl⟩,λ_ _ _ _=>trivial,?_,λτ M' h=>h⟩;intro k y τ M' hy;ext1⟨rs,v5,v6,hrs,e1',e2'⟩;obtain⟨hk,rfl⟩:=Th hy;grind;refine⟨λτ M'=>M'=put M1 p (.lst (rs.map Hq))/\∃n:Int,0<=n/\τ=[some N1,some B1,some D1,some P1,some (.ref p),some (.int (0+(k:Int))),some (.int n),none,none,none,none,none,none],?_,?_⟩
  .subst eN;grind;exact⟨⟨by ext,by ext⟩,λz z0 r r0 r1=>⟨r,r0,rfl⟩⟩
  intro τ M3;ext1⟨e1',n,n0,e2'⟩;subst eP;grind
  obtain⟨c,g,hc,hat⟩:∃(c:Str) (g:Tm),[(a,t),(b,u)][k]? = some (c,g)/\GY [D.tup [.str a,t.D,.lst []],.tup [.str b,u.D,.lst []]] (0+(k:Int))=some (.tup [.str c,g.D,.lst []]):=by
   rw[show(0:Int)+(k:Int)=(k:Int) by ext];rcases(show k=0\/k=1 by ext)with rfl|rfl
   .exact⟨a,t,rfl,Oc rfl⟩
   .exact⟨b,u,rfl,Oc rfl⟩
  rw[hat,Cn];grind
  have lr:rs.length<=2:=by
   have:=congrArg Eg hrs.n;rw[Ae,AW]at this;simp at this;ext
  refine⟨n,c,g,Gf bs,es,S8 bs,by rw[<- eB,<- eD,e2];rfl,⟨n0,ob,oe,bne⟩,λws hw=>?_⟩
  (try grind)
  refine⟨B5 (by ext),rs++[(c,g,ws)],_,_,⟨?_,λr hr=>?_⟩,by rw[AI];rfl,rfl⟩
  .rw[AI,hrs.n,A3,hc];rfl
  .rcases AH.mp hr with hr|hr
   .exact hrs.w r hr
   .rw[AN.mp hr];exact hw
 intro τ M3;ext1⟨rs,v5,v6,hrs,e1',e2'⟩
 obtain⟨w0,w1,h0,h1,rfl⟩:∃w0 w1,Pd (Gf bs) es w0/\Pd (Gf bs) es w1/\rs=[(a,t,w0),(b,u,w1)]:=by
  have hn:=hrs.n
  match rs,hn with
  |[(_,_,w0),(_,_,w1)],h=>simp at h;obtain⟨⟨rfl,rfl⟩,rfl,rfl⟩:=h;exact⟨w0,w1,hrs.w _ AA,hrs.w _ (Aw _ AA),rfl⟩
 have ok:=jw hx ht hu h0 h1;obtain⟨wk,ewk⟩:∃wk:Wk,wk=⟨bs,es,[(a,t,w0),(b,u,w1)]⟩:=⟨_,rfl⟩;have ers:[(a,t,w0),(b,u,w1)]=wk.rs:=by rw[ewk]
 rw[<- ewk]at ok;rw[ers];have l2:wk.rs.length=2:=by rw[ewk];rfl
 subst eB;subst eD;rw[show bs=wk.bs by rw[ewk],show es=wk.ds by rw[ewk]];refine⟨λτ M'=>M'=put M1 p (.lst (wk.rs.map Hq))/\τ=[some N1,some (.lst (wk.bs.map GB)),some (.lst (wk.ds.map Jb)),some P1,some (.ref p),v5,v6,some wk.D,none,none,none,none,none],?_,?_⟩
 .grind;refine⟨HD (by rw[Ae];ext),λi ys M'=>M'=put M1 p (.lst (wk.rs.map Hq))/\ys=(wk.rs.take i).map Hq,⟨rfl,rfl⟩,?_,?_,?_⟩
  .rintro i ys M' ⟨rfl,rfl⟩;refine⟨lH DN,?_⟩;rw[Ae,AW];ext
  .rintro i d ys M' hd ⟨rfl,rfl⟩;obtain⟨r,hr',rfl⟩:=Pb hd;refine⟨_,rfl,rfl,?_⟩;simp only[L3.capT,AM,CY,C1];grind;rw[A3,hr',AI];rfl
  .rintro ys M' ⟨rfl,rfl⟩;rw[Ae,Bw];refine⟨wk,_,ok,rfl,rfl,rfl,by rw[Ae],λi x r hx hr=>?_,rfl,rfl⟩;rw[AL,hr]at hx;cases hx;exact⟨_,rfl,rfl⟩
 rintro τ M4 ⟨rfl,rfl⟩;have rnd:(wk.rs.map (·.1)).Nodup:=(Bt.mp ok.nd).2.1;refine⟨λτ M'=>∃r1 r2,(r1∈wk.rs/\r2∈wk.rs)/\M'=put M1 p (.lst [Hq r1,Hq r2])/\τ=[some N1,some (.lst (wk.bs.map GB)),some (.lst (wk.ds.map Jb)),some P1,some (.ref p),v5,v6,some wk.D,none,none,none,none,none],?_,?_⟩
 .subst eN;grind;have q1:(a,t,w0)∈wk.rs:=by rw[ewk];exact AA
  have q2:(b,u,w1)∈wk.rs:=by rw[ewk];exact Aw _ AA
  rw[<- ers,DN];refine λz z0 r r0 r1=>Cv (λc=>?_) λc=>⟨_,_,⟨ers ▸ q1,ers ▸ q2⟩,rfl⟩;exact⟨_,_,⟨ers ▸ q2,ers ▸ q1⟩,by rw[R7];rfl⟩
 intro τ M5;ext1⟨r1,r2,⟨m1,m2⟩,e1',e2'⟩;rw[ZD (p:=p) rfl DN,R9 hp];simp only[Cy,Dd];generalize D.lst (wk.bs.map GB)=B1;generalize D.lst (wk.ds.map Jb)=D1;refine⟨λτ M'=>τ=[some N1,some B1,some D1,some P1,some (.lst [Hq r1,Hq r2]),v5,v6,some wk.D,some (Hq r1),some (Hq r2),none,none,none],?_,?_⟩
 .grind;exact⟨rfl,rfl⟩
 rintro τ M5 rfl;generalize D.lst [Hq r1,Hq r2]=L1;have f1:=pP rnd m1;have f2:=pP rnd m2;have nw:=(ok.r.2 r1 m1).2;refine⟨λτ M'=>M'=M5/\τ=[some N1,some B1,some D1,some P1,some L1,v5,v6,some wk.D,some (Hq r1),some (Hq r2),some (.lst ((IM "box" r1 r2).map D.str)),none,none],?_,?_⟩
 .grind;refine⟨r1,r2,_,rfl,rfl,nw.l,ok.rd m2,?_⟩;rw[dg nw.nd]
 rintro τ M6 ⟨rfl,rfl⟩;refine⟨λτ M'=>∃v,(Sub M6 M'/\(R0 wk r1 r2=false/\v=.non\/R0 wk r1 r2=true/\∃z l x,IM "box" r1 r2=z::l/\v=.tup [.str z,x]/\Sd M6 M' x (OG (EQ (CV wk.ws wk.ds r1.2.1 r2.2.1)) r1.2.1 r2.2.1)))/\τ=[some N1,some B1,some D1,some P1,some L1,v5,v6,some wk.D,some (Hq r1),some (Hq r2),some (.lst ((IM "box" r1 r2).map D.str)),some v,none],?_,?_⟩
 .simp only[Hq];grind;exact⟨wk,r1,r2,rfl,ok,f1,f2,λv M' h1 h2=>⟨v,⟨h1,h2⟩,rfl⟩⟩
 intro τ M7;ext1⟨v,⟨sb7,hv⟩,e1'⟩;have cl:R0 wk r1 r2=(!(IM "box" r1 r2).isEmpty && !decide (MU (OG (EQ (CV wk.ws wk.ds r1.2.1 r2.2.1)) r1.2.1 r2.2.1) = "never")):=rfl;grind;cases em:IM "box" r1 r2 with
 |nil=>
  rw[em]at cl;rcases hv with⟨_,rfl⟩|⟨c,_⟩
  .exact Dn.of (q _)
  .rw[cl]at c;exact absurd c Aj
 |cons z l=>
  rw[em]at cl;rw[if_neg (show¬((z::l).map D.str).isEmpty=true from Aj)];generalize eM:D.lst ((z::l).map D.str)=K1;refine⟨λτ M'=>∃v',(Sub M7 M'/\Sd M7 M' v' (OG (EQ (CV wk.ws wk.ds r1.2.1 r2.2.1)) r1.2.1 r2.2.1))/\τ=[some N1,some B1,some D1,some P1,some L1,v5,v6,some wk.D,some (Hq r1),some (Hq r2),some K1,some v,some v'],?_,?_⟩
  .simp only[Hq];grind;exact⟨wk,r1,r2,rfl,ok,f1,f2,λM' v' h1 h2=>⟨v',⟨h1,h2⟩,rfl⟩⟩
  intro τ M8;ext1⟨v',⟨sb8,hv'⟩,e1'⟩;generalize enb:OG (EQ (CV wk.ws wk.ds r1.2.1 r2.2.1)) r1.2.1 r2.2.1=nb at hv hv' cl ⊢
  have ad:kM nb:=by
   rw[<- enb];exact bg (iK ok (EL.of ok (VN ok f1).2.g) (EL.of ok (VN ok f2).2.g)).kr
  have up:∀{M0 M1 M2:Mp} {x:D},Sd M0 M1 x nb->Sub M1 M2->UP M2 x nb:=λh s=>by
   rcases h with h|⟨p0,AQ,l,-,h1,h2,h3⟩
   .exact .inl h
   .exact .inr ⟨p0,AQ,l,s _ _ h1,h2,h3⟩
  have t8:=up hv' (Sub.refl _)
  obtain⟨w0,l0,e0,ew⟩:∃w0 l0,v'=.tup (.str w0::l0)/\MU nb=w0:=by
   rcases t8 with⟨rfl,-⟩|⟨p0,AQ,l,-,h2,h3⟩
   .obtain⟨w0,l0,e0⟩:=ad.w;exact⟨w0,l0,e0,by rw[e0];rfl⟩
   .exact⟨_,_,h2,by rw[h3];rfl⟩
  rw[ew]at cl;subst e0;subst eM;grind;refine Cv (λd=>?_) λd=>?_
  .rw[decide_eq_true d]at cl;rcases hv with⟨_,rfl⟩|⟨c,_⟩
   .exact Dn.of (q _)
   .rw[cl,show(z::l).isEmpty=false from rfl]at c;exact absurd c Aj
  .rw[decide_eq_false d]at cl;have cl:R0 wk r1 r2=true:=cl
   have one:∀{v:D} {M0 M':Mp},(R0 wk r1 r2=false/\v=.non\/R0 wk r1 r2=true/\∃z l x,IM "box" r1 r2=z::l/\v=.tup [.str z,x]/\Sd M0 M' x nb)->∃x,v=.tup [.str z,x]/\Sd M0 M' x nb:=λh=>by
    rcases h with⟨c,_⟩|⟨_,z',l',x,e1,e2,e3⟩
    .rw[cl]at c;cases c
    .rw[em]at e1;cases e1;exact⟨x,e2,e3⟩
   obtain⟨x,rfl,hx7⟩:=one hv;have Q9:GY ((z::l).map D.str) 0=some (.str z):=Oc (j:=0) rfl;grind;rw[Q9,Cn];refine⟨⟨_,_,rfl,rfl,rfl,rK (UP.alk ad (up hx7 sb8) t8)⟩,?_⟩
   (try grind)
   refine⟨λτ M'=>UP M' (.tup (.str w0::l0)) nb/\τ=[some N1,some B1,some D1,some P1,some L1,v5,v6,some wk.D,some (Hq r1),some (Hq r2),some (.lst ((z::l).map D.str)),some (.tup [.str z,x]),some (.tup (.str w0::l0))],?_,?_⟩
   .grind;refine Cv (λd=>?_) λd=>t8;rcases hx7 with⟨_,n⟩|⟨p1,AQ,l1,h0,h1,rfl,e1⟩
    .exact absurd (ew.trans d) n
    rcases hv' with⟨_,n⟩|⟨p2,kvs2,l2,g0,g1,g2,g3⟩
    .exact absurd (ew.trans d) n
    have hne:p2≠p1:=λe=>by rw[e,h1]at g0;cases g0
    grind;rw[sb8 _ _ h1,Uu];refine⟨B5 (by have:=(ad.b _ _ e1).1;ext),.inr ⟨p2,kvs2,l2,by rw[DY hne];exact g1,g2,g3⟩⟩
   rintro τ M9 ⟨t9,rfl⟩;simp only[Hq];grind;refine⟨wk,r1,r2,rfl,ok,f1,f2,λv2 M' h1 h2=>?_⟩;rw[enb]at h2;obtain⟨x2,rfl,hx2⟩:=one h2;rw[Q9,Cn];refine⟨⟨_,_,rfl,rfl,rfl,rK (UP.alk ad (up hx2 (Sub.refl _)) ?_)⟩,Dn.of (q _)⟩;rcases t9 with h|⟨p0,AQ,l',h3,h4,h5⟩
   .exact .inl h
   .exact .inr ⟨p0,AQ,l',h1 _ _ h3,h4,h5⟩
end
end My
namespace My
open PySem PySem.W PyProof.Rows
open L2 (RY N9 IP DZ)
noncomputable abbrev Ud:Ah:=.str "beatwright.words" 319
noncomputable abbrev N6:Ah:=.str "beatwright.terms" 367
noncomputable abbrev Np:Ah:=.str "beatwright.dims" 535
noncomputable abbrev Qr:Ah:=.str "beatwright.works" 666
noncomputable abbrev LG:Ah:=.str "beatwright.papers" 767
noncomputable abbrev XU:Ah:=.str "beatwright.clashes" 946
noncomputable abbrev No:Ah:=.str "law_beatwright_k32_a_clash" 983
def S9 (s:DC):Str:=match s with
 |.FunctionDef n _ _ _ _ _ _ _ _ _=>n
 |.ClassDef n _ _ _ _ _ _ _ _ _ _=>n
 |.Assign [.Name n _] _ _=>n
 |_=>""
def lK (s:DC):Nat:=match s with
 |.FunctionDef _ _ _ _ _ _ _ _ _ p=>p.line
 |_=>0
noncomputable abbrev kE (P:KJ)(n:Str)(t:Nat)(v:Ah):H9:=⟨PyData.keyHash P n,.str n t,v⟩
noncomputable abbrev kR (P:KJ)(n:Str)(t b:Nat):H9:=kE P n t (.ref b)
abbrev fk (u:Nat):Nat:=bif u == 3 then 3 else 5
noncomputable abbrev fF (n q:Str)(s:DC)(m:Ah)(c:Nat):Dm:=fnOf n q (RY s) (N9 s) (IP s) .none .none .none m none (.ref c) .none
noncomputable abbrev fO (n q:Str)(s:DC)(m:Ah)(c:Nat):Obj:=⟨.type "function",none,.func (fF n q s m c),#[]⟩
noncomputable abbrev cO (n q:Str)(s:DC)(u b t:Nat):Obj:=⟨.type "code",none,.fields #[.str n t,.str q (t+1),.str "/claim/cut.py" (t+2),.int (lK s) 0,.int (RY s).args.length 0,.int 0 0,.int 0 0,.int 3 0,.ref b,.bool true,.int 181 0,.ref (b+1),.none,bif u == 3 then .none else .ref (b+2),bif u == 3 then .none else .ref (b+3),.ref (bif u == 3 then b+2 else b+4),.int (t+u:Nat) 0,.int (lK s) 0,.str "/claim/cut.py" (t+u+1)],#[]⟩
def fR (m:Ah):List Nat->Nat->Nat->Nat->TL->TL
 |[],_,_,_,l=>l
 |u::us,i,b,t,l=>(b+fk u,cO (S9 (DI i)) (S9 (DI i)) (DI i) u b t)::(b+fk u+1,fO (S9 (DI i)) (S9 (DI i)) (DI i) m (b+fk u))::fR m us (i+1) (b+fk u+2) (t+u+3) l
def fA:List Nat->Nat->List Nat->List Nat
 |[],_,l=>l
 |u::us,b,l=>(b+fk u)::(b+fk u+1)::fA us (b+fk u+2) l
def fD (P:KJ):List Nat->Nat->Nat->Nat->List H9->List H9
 |[],_,_,_,l=>l
 |u::us,i,b,t,l=>kR P (S9 (DI i)) (t+u+2) (b+fk u+1)::fD P us (i+1) (b+fk u+2) (t+u+3) l
def mR (m:Ah)(k:Nat):List Nat->List Str->Nat->Nat->Nat->TL->TL
 |u::us,q::qs,j,b,t,l=>(b+fk u,cO (S9 (tm k j)) q (tm k j) u b t)::(b+fk u+1,fO (S9 (tm k j)) q (tm k j) m (b+fk u))::mR m k us qs (j+1) (b+fk u+2) (t+u+3) l
 |_,_,_,_,_,l=>l
abbrev cX:List Nat:=[4,5,4,5,5,3]
abbrev cW:List Nat:=[4,8,7,3,5,5,6,6,4,5,6,5,7,3]
abbrev cV:List Nat:=[3,4,9,3,6,6,4,6,4,11,5,6,6,5,6]
abbrev cU:List Nat:=[3,6,3,5,5,9,8,11,6,3]
abbrev cT:List Nat:=[10,5,5,3]
abbrev kZ:List Nat:=[8,5,4,5,9,7,8,4,5,6,4,3]
abbrev cS:List Nat:=[10]
abbrev cR:List Nat:=[3,5,7,8]
abbrev cQ:List Nat:=[5,6,3,6,11,15,10,12,6,12,12,7,8,3,3]
noncomputable abbrev nT (P:KJ):Array H9:=#[kE P "num" 373 (.int (0) 374),kE P "box" 375 (.int (0) 376),kE P "late" 377 (.int (0) 378),kE P "door" 379 (.int (0) 380),kE P "not" 381 (.int (1) 382),kE P "and" 383 (.int (2) 384),kE P "or" 385 (.int (2) 386),kE P "xor" 387 (.int (2) 388),kE P "plus" 389 (.int (2) 390),kE P "minus" 391 (.int (2) 392),kE P "less" 393 (.int (2) 394),kE P "same" 395 (.int (2) 396),kE P "pick" 397 (.int (3) 398),kE P "join" 399 (.int (2) 400),kE P "part" 401 (.int (1) 402)]
noncomputable def hK (P:KJ):TL:=((3:Av),(⟨(.type "dict"),none,.dict ⟨kE P "__name__" 165 (.str "law_beatwright_k32_a_clash" 983)::kE P "__doc__" 166 .none::kE P "__package__" 167 .none::kE P "__loader__" 168 (.builtin "__main__.__loader__#opaque")::kE P "__spec__" 169 .none::kR P "__annotations__" 170 6::kR P "__builtins__" 171 4::kE P "__file__" 173 (.str "/claim/cut.py" 172)::kE P "__cached__" 174 .none::kR P "BeatError" 206 24::kR P "NoName" 222 37::kR P "Twice" 238 49::kR P "NoWidth" 254 61::kR P "NoWord" 270 73::kR P "TooMany" 286 85::kR P "Unknown" 302 97::kR P "Unlike" 318 109::kE P "WIDEST" 322 (.int (64) 321)::fD P cX 11 112 323 ( kE P "MOST_PARTS" 370 (.int (100) 369)::kE P "MOST_DEEP" 372 (.int (12) 371)::kR P "HELD" 418 152::fD P cW 21 153 419 ( fD P cV 36 247 537 ( kE P "MOST_BOXES" 669 (.int (12) 668)::kE P "MOST_DOORS" 671 (.int (6) 670)::kE P "MOST_RULES" 673 (.int (8) 672)::kE P "MOST_WRITES" 675 (.int (6) 674)::kE P "LONGEST_NAME" 677 (.int (8) 676)::fD P cU 57 348 678 ( kE P "MOST_CUBES" 770 (.int (64) 769)::fD P cT 69 412 771 ( kR P "Known" 932 529::fD P cS 74 534 933 ( fD P cR 76 541 948 ( fD P cQ 81 567 985 ( []))))))))⟩ 97,#[]⟩:Obj))::fR Ud cX 11 112 323 ( ((152:Av),(⟨.type "dict",none,.dict (nT P) 15,#[]⟩:Obj))::fR N6 cW 21 153 419 ( fR Np cV 36 247 537 ( fR Qr cU 57 348 678 ( fR LG cT 69 412 771 ( mR LG 73 kZ ["Known.__init__", "Known.learn", "Known.forget", "Known.know", "Known.go_on", "Known.settled_at", "Known.put", "Known.turn", "Known.guard_marks", "Known.guard_mark", "Known.both_words", "Known.low_words"] 0 445 818 ( ((528:Av),(⟨(.type "dict"),none,.dict #[kE P "__module__" 813 (.str "beatwright.papers" 767),kE P "__firstlineno__" 817 (.int (279) 816),kR P "__init__" 828 451,kR P "learn" 836 458,kR P "forget" 843 465,kR P "know" 851 472,kR P "go_on" 863 479,kR P "settled_at" 873 486,kR P "put" 884 493,kR P "turn" 891 500,kR P "guard_marks" 899 507,kR P "guard_mark" 908 514,kR P "both_words" 915 521,kR P "low_words" 921 526,kR P "__static_attributes__" 925 527,kR P "__dict__" 927 530,kR P "__weakref__" 929 531,kE P "__doc__" 930 .none] 4,#[]⟩:Obj))::((529:Av),(⟨(.type "type"),none,.cls {name:="Known",bases:=[(.type "object")],mro:=[(.ref 529),(.type "object")],ns:=528,qualname:="Known",hasDict:=true,slotNames:=[],subclasses:=[],abstract:=false,collection:=none,hasDel:=false},#[none,none,some (.str "Known" 806),some (.str "Known" 814),some (.builtin "object.__new__"),some (.bool true)]⟩:Obj))::fR LG cS 74 534 933 ( fR XU cR 76 541 948 ( fR No cQ 81 567 985 ( [])))))))))
noncomputable def has:List Av:=3::fA cX 112 ( 152::fA cW 153 ( fA cV 247 ( fA cU 348 ( fA cT 412 ( fA kZ 445 ( 528::529::fA cS 534 ( fA cR 541 ( fA cQ 567 ( [])))))))))
def lo (p:Bs):List Str:=[(1,8),(10,7),(18,17),(36,15),(52,15),(68,7),(76,4),(81,14)].flatMap λx=>((p.main.body.drop x.1).take x.2).map S9
noncomputable def hq:Bs:=view Bp [95]
noncomputable def hloose:List Str:=lo Bp
noncomputable def hXt (q:Bs)(s:Ap):Bool:=xlAt q [] s && recOk [] s
noncomputable def hrun (H₀:KJ->CU)(p q:Bs)(w:BG)(os:Vj):=SH.whole (H₀ w.params) p q (lo p) (hXt q) (λs=>has.map s.heap.get?) 11 (some (.ref 6)) 4875 w os
noncomputable def hgood (K:KJ->TL)(p q:Bs)(w:BG):=some (true,openGood q (lo p),(K w.params).map λp=>some p.2)
theorem hrun_self:hrun=hrun:=rfl
theorem hgood_self:hgood=hgood:=rfl
lay_quick My.hrun My.hgood
name_quick hrunQ for My.hrun by My.hrun_self
name_quick hgoodQ for My.hgood by My.hgood_self
theorem xx (w:BG):(λos=>PySem.W.Fast.hrunQ Ef Bp hq (w.withFollow "special-get-raises" false) os)=λ_=>PySem.W.Fast.hgoodQ hK Bp hq (w.withFollow "special-get-raises" false):=by kernel_rfl
theorem vi (w:BG):(λos=>PySem.W.Fast.hrunQ Ef Bp hq (w.withFollow "special-get-raises" true) os)=λ_=>PySem.W.Fast.hgoodQ hK Bp hq (w.withFollow "special-get-raises" true):=by kernel_rfl
theorem vh:∀w:BG,(λos=>PySem.W.Fast.hrunQ Ef Bp hq w os)=λ_=>PySem.W.Fast.hgoodQ hK Bp hq w:=byRow2 "special-get-raises" xx vi
noncomputable def hYf (s:Ap):List (Option Obj):=has.map s.heap.get?
noncomputable def hYa (w:BG):List (Option Obj):=(hK w.params).map λp=>some p.2
theorem ws_self:OS=OS:=rfl
lay_quick PySem.W.OpenLaw.wellSaid
name_quick wsQ for PySem.W.OpenLaw.wellSaid by My.ws_self
theorem hsaid:PySem.W.Fast.wsQ G8=true:=by kernel_rfl
theorem hleft:LeftO Bp hq hloose (hXt hq) hYf hYa 10450:=SH.left_of (Yf:=hYf) (Ya:=hYa) (M:=4875) (n₀:=11) (ann:=(some (.ref 6))) (by kernel_rfl) (by decide) (λs=>by kernel_rfl) (λP=>by kernel_rfl) (λw=>by kernel_rfl) (by decide) λw os=>(congrFun (congrFun (congrFun (congrFun (congrFun PySem.W.Fast.hrunQ_eq _) _) _) w) os).trans ((congrFun (vh w) os).trans (congrFun (congrFun (congrFun (congrFun PySem.W.Fast.hgoodQ_eq _) _) _) w).symm)
structure Hd (w:BG)(n:Str)(s:DC)(c:Nat)(m:Ah):Prop where
 a:nsIn (hK w.params) BY n=some (some (.ref (c+1)))
 l:(hK w.params).lookup (c+1)=some (fO n n s m c)
 o:codeIn (hK w.params) (.ref c) n=true
 k:keepIn (hK w.params) (.ref (c+1))=true
structure Hm (w:BG)(C:Av)(n q:Str)(s:DC)(c:Nat)(m:Ah):Prop where
 a:bL (hK w.params) (.ref C) n=some (some (.ref (c+1)))
 i:isFn (hK w.params) (.ref (c+1))=true
 l:(hK w.params).lookup (c+1)=some (fO n q s m c)
 o:codeIn (hK w.params) (.ref c) q=true
 k:keepIn (hK w.params) (.ref (c+1))=true
theorem Lw {α:Type}{us:List α}{n:Nat}(h:us.length=n+1):∃a t,us=a::t/\t.length=n:=by
 cases us with
 |nil=>cases h
 |cons a t=>exact⟨a,t,rfl,GH h⟩
theorem S3 {fd:Dm}{ps:List Str}{us:List Ah}(hl:us.length=1)(h:∀a0,DA fd ⟨[a0],[]⟩=pure (ps.zip [a0])):DA fd ⟨us,[]⟩=pure (ps.zip us):=by
 obtain⟨a0,u0,rfl,l0⟩:=Lw hl;cases AC l0;exact h a0
theorem S2 {fd:Dm}{ps:List Str}{us:List Ah}(hl:us.length=2)(h:∀a0 a1,DA fd ⟨[a0,a1],[]⟩=pure (ps.zip [a0,a1])):DA fd ⟨us,[]⟩=pure (ps.zip us):=by
 obtain⟨a0,u0,rfl,l0⟩:=Lw hl;obtain⟨a1,u1,rfl,l1⟩:=Lw l0;cases AC l1;exact h a0 a1
theorem S1 {fd:Dm}{ps:List Str}{us:List Ah}(hl:us.length=3)(h:∀a0 a1 a2,DA fd ⟨[a0,a1,a2],[]⟩=pure (ps.zip [a0,a1,a2])):DA fd ⟨us,[]⟩=pure (ps.zip us):=by
 obtain⟨a0,u0,rfl,l0⟩:=Lw hl;obtain⟨a1,u1,rfl,l1⟩:=Lw l0;obtain⟨a2,u2,rfl,l2⟩:=Lw l1;cases AC l2;exact h a0 a1 a2
theorem S0 {fd:Dm}{ps:List Str}{us:List Ah}(hl:us.length=4)(h:∀a0 a1 a2 a3,DA fd ⟨[a0,a1,a2,a3],[]⟩=pure (ps.zip [a0,a1,a2,a3])):DA fd ⟨us,[]⟩=pure (ps.zip us):=by
 obtain⟨a0,u0,rfl,l0⟩:=Lw hl;obtain⟨a1,u1,rfl,l1⟩:=Lw l0;obtain⟨a2,u2,rfl,l2⟩:=Lw l1;obtain⟨a3,u3,rfl,l3⟩:=Lw l2;cases AC l3;exact h a0 a1 a2 a3
theorem SY {fd:Dm}{ps:List Str}{us:List Ah}(hl:us.length=5)(h:∀a0 a1 a2 a3 a4,DA fd ⟨[a0,a1,a2,a3,a4],[]⟩=pure (ps.zip [a0,a1,a2,a3,a4])):DA fd ⟨us,[]⟩=pure (ps.zip us):=by
 obtain⟨a0,u0,rfl,l0⟩:=Lw hl;obtain⟨a1,u1,rfl,l1⟩:=Lw l0;obtain⟨a2,u2,rfl,l2⟩:=Lw l1;obtain⟨a3,u3,rfl,l3⟩:=Lw l2;obtain⟨a4,u4,rfl,l4⟩:=Lw l3;cases AC l4;exact h a0 a1 a2 a3 a4
theorem SX {fd:Dm}{ps:List Str}{us:List Ah}(hl:us.length=6)(h:∀a0 a1 a2 a3 a4 a5,DA fd ⟨[a0,a1,a2,a3,a4,a5],[]⟩=pure (ps.zip [a0,a1,a2,a3,a4,a5])):DA fd ⟨us,[]⟩=pure (ps.zip us):=by
 obtain⟨a0,u0,rfl,l0⟩:=Lw hl;obtain⟨a1,u1,rfl,l1⟩:=Lw l0;obtain⟨a2,u2,rfl,l2⟩:=Lw l1;obtain⟨a3,u3,rfl,l3⟩:=Lw l2;obtain⟨a4,u4,rfl,l4⟩:=Lw l3;obtain⟨a5,u5,rfl,l5⟩:=Lw l4;cases AC l5;exact h a0 a1 a2 a3 a4 a5
section
variable {w:BG}{h:CU}{mg:Str->Option Ah}
noncomputable def hd {n:Str}{s:DC}{ps:List Str}(c:Nat)(m:Ah)(X:(hK w.params).In h:=by assumption)(G:h.Ns BY mg:=by assumption)(H:Hd w n s c m:=by exact⟨by kernel_rfl,by kernel_rfl,by kernel_rfl,by kernel_rfl⟩)
  (b:∀(kV dc pm:Ah) (an:Option Av) (cd ct:Ah) (us:List Ah),us.length=ps.length->DA (fnOf n n (RY s) (N9 s) (IP s) .none kV dc pm an cd ct) ⟨us,[]⟩=pure (ps.zip us):=by intro _ _ _ _ _ _ us h;first | exact S3 h (λ_=>rfl) | exact S2 h (λ_ _=>rfl) | exact S1 h (λ_ _ _=>rfl) | exact S0 h (λ_ _ _ _=>rfl) | exact SY h (λ_ _ _ _ _=>rfl) | exact SX h (λ_ _ _ _ _ _=>rfl)):DF (hK w.params) mg n s ps:=
 ⟨c+1,fF n n s m c,L2.fun_mk (st:=s) H.l H.o H.k,(L2.fun_mk (st:=s) H.l H.o H.k).binds b,mg_of X G H.a⟩
noncomputable def PD {n q:Str}{s:DC}{ps:List Str}{C:Av}(c:Nat)(m:Ah)(H:Hm w C n q s c m:=by exact⟨by kernel_rfl,by kernel_rfl,by kernel_rfl,by kernel_rfl,by kernel_rfl⟩)
  (b:∀(kV dc pm:Ah) (an:Option Av) (cd ct:Ah) (us:List Ah),us.length=ps.length->DA (fnOf n q (RY s) (N9 s) (IP s) .none kV dc pm an cd ct) ⟨us,[]⟩=pure (ps.zip us):=by intro _ _ _ _ _ _ us h;first | exact S3 h (λ_=>rfl) | exact S2 h (λ_ _=>rfl) | exact S1 h (λ_ _ _=>rfl) | exact S0 h (λ_ _ _ _=>rfl) | exact SY h (λ_ _ _ _ _=>rfl) | exact SX h (λ_ _ _ _ _ _=>rfl)):DM (hK w.params) C n q s ps:=
 ⟨c+1,fF n q s m c,L2.fun_mk (st:=s) H.l H.o H.k,(L2.fun_mk (st:=s) H.l H.o H.k).binds b,⟨H.a,H.i,H.k⟩⟩
theorem hs {n:Str}{v:Ah}(X:(hK w.params).In h)(G:h.Ns BY mg)(e:nsIn (hK w.params) BY n=some (some v):=by kernel_rfl):mg n=some v:=mg_of X G e
theorem hn {n:Str}(X:(hK w.params).In h)(G:h.Ns BY mg)(e:nsIn (hK w.params) BY n=some none:=by kernel_rfl):mg n=none:=mg_none_of X G e
end
theorem mw (w:BG):L2.TabOk (hK w.params) w 152 QE:=⟨nT w.params,15,by kernel_rfl,by k_keys,λx v e=>by
 have m:=L2.lookup_mem e;unfold QE at m;simp only[Bx,QQ,AX,or_false]at m;rcases m with⟨rfl,rfl⟩|⟨rfl,rfl⟩|⟨rfl,rfl⟩|⟨rfl,rfl⟩|⟨rfl,rfl⟩|⟨rfl,rfl⟩|⟨rfl,rfl⟩|⟨rfl,rfl⟩|⟨rfl,rfl⟩|⟨rfl,rfl⟩|⟨rfl,rfl⟩|⟨rfl,rfl⟩|⟨rfl,rfl⟩|⟨rfl,rfl⟩|⟨rfl,rfl⟩
 .exact⟨374,by kernel_rfl⟩
 .exact⟨376,by kernel_rfl⟩
 .exact⟨378,by kernel_rfl⟩
 .exact⟨380,by kernel_rfl⟩
 .exact⟨382,by kernel_rfl⟩
 .exact⟨384,by kernel_rfl⟩
 .exact⟨386,by kernel_rfl⟩
 .exact⟨388,by kernel_rfl⟩
 .exact⟨390,by kernel_rfl⟩
 .exact⟨392,by kernel_rfl⟩
 .exact⟨394,by kernel_rfl⟩
 .exact⟨396,by kernel_rfl⟩
 .exact⟨398,by kernel_rfl⟩
 .exact⟨400,by kernel_rfl⟩
 .exact ⟨402,by kernel_rfl⟩⟩
theorem all_mk {P:Bs}{w:BG}{h:CU}{mg:Str->Option Ah}{fa:Av}(X:(hK w.params).In h)(G:h.Ns BY mg)(hfa:mg "law" = some (.ref fa)):∃fd:Dm,(∀(s:Ap) (v:Ah),Nk s fd ⟨[v],[]⟩ [("script",v)])/\∀base:CU,(hK w.params).In base->base.Ns BY mg->L2.FnOk P w (hK w.params) mg base L2.CX0 50 fa fd ["script"] (L3.lSp (hK w.params) L3.spLaw2):=by
 have e:=hfa.symm.trans (hs X G (v:=.ref 665));cases e
 let T:Tx (hK w.params) w mg:=⟨529,
  ⟨by kernel_rfl,by kernel_rfl,by kernel_rfl,by kernel_rfl⟩,
  hs X G,
  (show DZ _ _ _ by unfold DZ;kernel_rfl),
  (show DZ _ _ _ by unfold DZ;kernel_rfl),
  (show DZ _ _ _ by unfold DZ;kernel_rfl),
  hd 117 Ud,
  hd 124 Ud,
  hd 131 Ud,
  hd 138 Ud,
  hd 145 Ud,
  hd 150 Ud,
  hd 158 N6,
  hd 165 N6,
  hd 172 N6,
  hd 177 N6,
  hd 184 N6,
  hd 191 N6,
  hd 198 N6,
  hd 205 N6,
  hd 212 N6,
  hd 219 N6,
  hd 226 N6,
  hd 233 N6,
  hd 240 N6,
  hd 245 N6,
  hd 250 Np,
  hd 257 Np,
  hd 264 Np,
  hd 269 Np,
  hd 276 Np,
  hd 283 Np,
  hd 290 Np,
  hd 297 Np,
  hd 304 Np,
  hd 311 Np,
  hd 318 Np,
  hd 325 Np,
  hd 332 Np,
  hd 339 Np,
  hd 346 Np,
  hd 351 Qr,
  hd 358 Qr,
  hd 363 Qr,
  hd 370 Qr,
  hd 377 Qr,
  hd 384 Qr,
  hd 391 Qr,
  hd 398 Qr,
  hd 405 Qr,
  hd 410 Qr,
  hd 417 LG,
  hd 424 LG,
  hd 431 LG,
  hd 436 LG,
  PD 450 LG,
  ⟨by kernel_rfl,by kernel_rfl,by kernel_rfl,by kernel_rfl⟩,
  PD 457 LG,
  PD 464 LG,
  PD 471 LG,
  PD 478 LG,
  PD 485 LG,
  PD 492 LG,
  PD 499 LG,
  PD 506 LG,
  PD 513 LG,
  PD 520 LG,
  PD 525 LG,
  hd 539 LG,
  hd 544 XU,
  hd 551 XU,
  hd 558 XU,
  hd 565 XU,
  hd 572 No,
  hd 579 No,
  hd 584 No,
  hd 591 No,
  hd 598 No,
  hd 605 No,
  hd 612 No,
  hd 619 No,
  hd 626 No,
  hd 633 No,
  hd 640 No,
  hd 647 No,
  hd 654 No,
  hd 659 No,
  hd 664 No,
  _,
  hs X G (v:=(.int (64) 321)),
  _,
  hs X G (v:=(.int (100) 369)),
  _,
  hs X G (v:=(.int (12) 371)),
  _,
  hs X G (v:=(.int (12) 668)),
  _,
  hs X G (v:=(.int (6) 670)),
  _,
  hs X G (v:=(.int (8) 672)),
  _,
  hs X G (v:=(.int (6) 674)),
  _,
  hs X G (v:=(.int (8) 676)),
  _,
  hs X G (v:=(.int (64) 769)),
  152,
  hs X G,
  mw w,
  ⟨hn X G,hn X G,hn X G,hn X G,hn X G,hn X G,hn X G,hn X G,hn X G,hn X G,hn X G,hn X G,hn X G,hn X G,hn X G,hn X G,hn X G,hn X G⟩⟩
 exact⟨_,λs v=>.of_eq rfl,λbase _ _=>bj T⟩
end My
open PySem PySem.W PyProof.Rows
set_option maxRecDepth 100000 in
set_option maxHeartbeats 0 in
theorem PySem.Challenge.cw_beatwright_k32_a_clash_holds : PySem.Challenge.rw_beatwright_k32_a_clash.Holds := by
 refine holds_law ((congrFun PySem.W.Fast.wsQ_eq _).trans My.hsaid) λsaid=>?_;refine PySem.W.holds_open (q:=My.hq) (loose:=My.hloose) (Xt:=My.hXt My.hq) (XP:=XL My.hq []) (Yf:=My.hYf) (Ya:=My.hYa) (YP:=InK My.hK) (N:=10450) My.hleft (InK.of λ_=>by kernel_rfl) InK.keeps (λs e=>xl_of s (Bool.and_eq_true_iff.mp e).1) XL.keeps (by rfl) (by rfl) (by rfl) (λs e=>recFacts_of (Bool.and_eq_true_iff.mp e).2) (by rfl) (by first | assumption | nofun) (by nofun) ⟨rfl,rfl,rfl,rfl,rfl,by nofun⟩ ?hw ?hc
 case hw=>w_witness2
 refine L3.walk2 (l:=rw_beatwright_k32_a_clash) (k:=50) rfl rfl ⟨rfl,by decide,by decide⟩ (λw h Y=>Y) ?F;intro w mg fa h KX G hmg;exact My.all_mk KX G hmg
#print axioms PySem.Challenge.cw_beatwright_k32_a_clash_holds
