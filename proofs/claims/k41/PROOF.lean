import PyProof.Rows.All
import Wide.All
import OpenK.AllK
import Wide.FinOn
import Lean
import PyProof.EqAt
import PyProof.EqKinds
import PyProof.TupleCall
import PyProof.ZipIter
import PyProof.DictIter
import PyProof.DictWalks
import PyProof.CollectWalk
import PyProof.Rows.SetFrom
import PyProof.FactsAll.set_1
import PyProof.Rows.SortStr
import PyProof.DictItems
import KE.KDictList
import PyProof.AttrMissHeap
import PyProof.DictList
import KE.KDictOf
import PyProof.MeetsStr
import PyProof.StrOps2
import PyProof.EnumMake
import PyProof.Rows.EnumRows
import PyProof.SetKind
import PyProof.TupleKey
import PyProof.FactsAll.set_2
import PyProof.FactsAll.dict_3
import PyProof.FactsAll.tuple_2
import PyProof.FactsAll.tuple_3
import PySem.Challenge.RW_beatwright_k41_needs
set_option Elab.async false
set_option linter.all false
set_option maxRecDepth 100000
theorem Aq {g:Prop}(h:∀G:Prop,(g->G)->G):g:=h g id
set_option compiler.extract_closed false
set_option bootstrap.genMatcherCode false
noncomputable section
open List.Perm (of_eq)
local macro_rules | `(tactic| ext)=>`(tactic| first | lia | omega)
local macro_rules | `(tactic| nofun)=>`(tactic| decide +kernel)
open PySem renaming wpAny_bind->Aa,Value->Ad,wpAny_pure->Ae,Shared->Aj,sizeLine->An,Addr->Ao,starEach->Au,wpAny->Av,Spec->Az,model->AA,Program->AX,Stmt->A4,wpAny_setState_of->A7,compareOp->A9,scanBound->Bi,World->Bj,Around->Bq,Expr->Bv,binaryOp->By,foldedSetIterable->BB,strKind->BC,wpAny_mono->BO,Heap->BU,wpAny_holding->BZ,mainGlobals->B3,wpAny_newObj_type->B6,FuncData->B9,wpAny_call_entry->Cd,backTo->Cg,wpAny_of_eq->Ch,wpAny_Call_Name_kw->Cr,attributeBase->CJ,boot_len->CK,assignEach->CW,cLine->Dh,wpAny_askSetting->Dj,wpAny_setField->Dm,SetTable->Ds,codeAny_builtin->DG,wpAny_storeSet_of->DH,keywordEach->DJ,bootBuiltins->DK,codeAny->D0,swapsWith->D4,Paired->D8,Builtin->Er,wpAny_passesOwn->Es,bindArgs->Et,wpAny_truthy_bool->EE,mem_of_lookup->EI,Keyword->E1,sysModules->Ff,wpAny_typeOf->Fp,hashStr->Fv,backToKw->Fx,NameKind->FA,builtinLookup_eq_fast->FM,plainId_quiet->FY,behindInMarks->FZ,sliceBounds->F0,holding->GF,codeAny_mono->GG,wpAny_rule->GX,tupleKind_room_in1->GY,wpAny_pyIter_list->Hx,wpAny_comprehension_free->HA,wpAny_isInstance->HY,wpAny_callSpecial?_slot->HZ,relayAll->H9,pickOrder->Ia,setsByText->Iw,setAddHashed->Ix,pyNext->Iy,call_meets->Iz,call->IA,wpAny_execs_nil->IS,typeLookup_type->IT,letOwnedTupleGo->IU,sizeLine_eq->Jw,merged->Jx,entryFor_alias->JA,Scope->JB,Params->JD,valueAt->JN,getMethod->JP,getItem->JQ,callerA->JR,sub_set_self->K6,entryFor->Lf,wpAny_eqBool_int->LF,tupleKind->LG,setDiscardHashed->LI,rawInt->LJ,assign->LP,Builtin->LS,IsPart->LU,DictEntry->LW,subscripted->Mm,IsRangeIter->MA,importedModules->MJ,Within->MK,unaryOp->Nd,standAt->Nf,notedBy->Nh,BindsTo->No,wpAny_seqItems->Nw,typeLookup->Nx,typeIs_str->Ny,newFunctionEnv->NC,compEnvC->NE,again->NH,PlainAttrs->NL,Operator->NM,setWalkUnseen->OR,call->OT,bindL->Pq,bindC->Pr,atKey->Ps,PassesOwn->Px,wpAny_pyNext_range_end->P5,wpAny_pyNext_list_item->P6,wpAny_pyIter_rangeiter->P7,wpAny_Call_method_late->P8,setFind->Qa,newList->Qc,isTrue->Qe,Result->Qg,wpAny_pyNext_list_end->Q7,wpAny_notOrdered_dict->Q8,wpAny_field->RA,rule->RB,lookup_relabel_local->RC,callWith->RD,wpAny_binaryOp_same->Sz,wpAny_pyIter_range->TJ,wpAny_call->TK,wpAny_Name->TL,typeOf->TN,setEntries->TQ,pyIter->TR,getattributeRaised->TV,builtinsNs->TW,stored->TY,wpAny_pyIter_slot->Vd,wpAny_pyIter_enum->Ve,wpAny_assign_Name->Vf,table->Vg,spliced->Vh,slot_list_getitem->Vi,setNext->Vj,OsState->Vr,wpAny_setScan_of->Wm,wpAny_pyIter_zip->Wn,wpAny_getItem_of->Wo,wpAny_execs_cons->Wp,treeTable->Wq,seqIndex?->Wr,entryFor_of_tree->Ws,cellsFrom->Wt,wpAny_updateSeq->YO,wpAny_specialOf->YQ,codeAny_of_tree->YR,wpAny_runValue->bS,wpAny_fieldsOf->bT,setEpoch->bX,retInt->bY,recursionLimit->bZ,isSubtype_type->cA,dictSetDefault->cB,argsOk->cC,Slot->cD,Model->cF,GenState->cG,CmpOp->cH
open List renaming length_map->Ab,getElem?_eq_getElem->Ag,getElem?_eq_some_iff->Ai,mem_map->Ap,length_append->As,mem_of_getElem?->Aw,replicate->Ax,mem_cons_of_mem->AE,mem_cons_self->AF,eq_nil_of_length_eq_zero->AG,getElem?_map->AH,map_append->AI,mem_singleton->AL,length_cons->AO,map_cons->AQ,not_mem_nil->AS,mem_append->AT,mem_append_right->AU,size_toArray->AV,length_take->AZ,mem_cons->A5,take_add_one->Ba,take_length->Be,mem_iff_getElem?->Bp,length_replicate->Br,append_assoc->Bs,range->Bu,mem_filter->Bw,lookup_cons->Bx,getElem?_eq_none->Bz,map_map->BA,mem_cons->BD,lookup->BK,nodup_append->BN,take_of_length_le->BR,set_cons_succ->Ca,length_range->Ce,getElem?_append_right->Cj,getD_eq_getElem?_getD->Ck,pairwise_map->Cq,find?_cons->Ct,length_filter_le->CA,mem_range->CB,set_cons_zero->CI,append_nil->CL,mem_append_left->CN,mem_filterMap->CO,all_eq_true->CP,replicate_succ->C0,getElem?_append_left->C1,filterMap_cons->C2,any_eq_true->C8,pairwise_mergeSort->Do,mem_append->Dp,map_congr_left->Dq,map_nil->Dx,mem_of_find?_eq_some->DI,foldl_cons->DR,filter_append->DS,length_filterMap_le->DZ,mergeSort_perm->D5,getElem?_toArray->D6,cons_append->Ei,nodup_cons->El,mem_filter->Em,length->Ey,Nodup->Ez,range_succ_eq_map->EF,getElem?_eq_none_iff->EJ,getElem?_range->EO,eq_of_mem_replicate->EV,length_singleton->EY,find?_eq_none->E3,mem_singleton->E9,map->Fc,nodup_append->Fq,ext_getElem?->Fw,any_cons->Fy,nodup_cons->FN,nil_append->FP,length_nil->FQ,length_drop->F2,getElem_mem->F3,filter_cons->F4,all_cons->F5,length_eraseIdx_of_lt->Gc,mem_of_mem_take->Gm,findIdx?_eq_none_iff->Gv,drop_eq_getElem_cons->Gw,take_sublist->GB,reverse_cons->GC,mem_map_of_mem->GZ,forIn_cons->G3,getElem?_cons_zero->He,getElem?_cons_succ->Hf,take_append_drop->HQ,filterMap_append->HS,replicate_zero->IW,filterMap_map->Jr,getElem_map->Jy,getElem_inj->Jz,take_succ_eq_append_getElem->JT,foldl_append->JU,eraseIdxIfInBounds_toArray->Kc,drop_length->Kl,filter_nil->Kq,map_take->Lb,map_id'->Lc,idxOf_lt_length_of_mem->Lj,perm_ext_iff_of_nodup->Lu,take_zero->LH,nodup_nil->LK,drop_zero->LM,findIdx?->Mz,reverse_replicate->Ni,length_eq_one_iff->Nj,getElem?_set_self->Nk,drop_eq_nil_of_le->Nl,of_mem_zip->NB,erase_of_not_mem->NN,contains_iff_mem->NO,cons_lt_cons_iff->NP,reverse_reverse->Oy,replicate_succ'->Oz,range'->OB,mem_iff_getElem->OC,getElem?_set_ne->OD,take_succ_cons->OY,length_reverse->OZ,length_pos_iff->O0,flatMap_append->O1,dropWhile_cons->O2,forIn_nil->Po,pairwise_cons->Pz,mem_replicate->PB,mem_mergeSort->PC,map_filterMap->PD,getElem_idxOf->PF,getElem?_cons->PH,getElem?_set->Qj,any_eq_false->Qk,mem_reverse->Rc,mem_flatten->Rf,mem_flatMap->Rh,map_reverse->Ri,range_succ->RJ,length_zip->RK,idxOf_cons->RL,filter_map->RM,all_map->Vl
open PySem.W renaming Frag->Ac,emptyDict->Cu,findIn->CQ,instObj->Di,kitOne->DD,boot_heap->Ew,kia_one->EG,fnOf->FG,keepIn->FS,plainGet->GH,lookIn->HD,methodObj->Ja,hasDictIn->Jb,takerIn->Ka,codeIn->Kr,kitx_dict->LL,isFn->LQ,cellsFrom_some->LR,plainGet_of->Mo,methodCall_KW->Ms,callWith_K->NF,boot_drawn->NG,plainOver->Ov,handedIn->OU,kitx_list->Pm,boot_toks->Pp,makesIn->Pu,OpenLaw->Pw,WalkO->Ra,kitx_tuple->TU,SharedT->Vq
open PySem.Heap renaming get?_push_of_some->Ah,lt_size->Ar,get?_push_size->AB,get?_update_other->Bc,SameBut->BL,get?_update_self->Ej,size_push->Gd
open PySem.Str renaming ofString->Al
open Bool renaming false_ne_true->Am,and_eq_true->BM,eq_iff_iff->Dt,and_false->DO,false_and->Fd,false_eq_true->HC,not_true->Jg,and_self->Jh,eq_false_iff->JX,or_eq_true->Kp,true_and->MC,or_false->MD,false_or->ME,not_eq_eq_eq_not->NS,beq_eq_decide_eq->NT,and_eq_true_iff->OE,decide_and->RT,and_true->T4,or_true->VA
open PySem.Value renaming ref->AC,str->Dk,int->DL,type->DX,isStrOf->Ec,none->F6,bool->I9,float->NI,isInt->Vo,bytes->Vp
open PySem.Builtin renaming bitAnd->AD,bitOr->AM,bitXor->Bd,bitNot->En
open Nat renaming le_refl->AJ,le_trans->A3,ne_of_lt->A8,lt_of_lt_of_le->Bo,lt_of_succ_lt_succ->Dr,zero_le->Ek,lt_succ_of_lt->Ev,lt_irrefl->EX,zero_add->E7,ne_of_gt->E8,min_eq_left->Fh,min_eq_right->Fs,lt_of_le_of_lt->Ft,le_of_lt->Fu,le_add_right->GD,lt_or_ge->G1,succ_lt_succ->Hk,reduceEqDiff->Hl,lt_succ_self->Hn,add_sub_cancel_left->Ho,add_le_add_left->Jd,sub_self->Jv,le_succ->JO,lt_trichotomy->Kb,min_self->La,reduceSub->ML,reduceAdd->MM,succ_pos->Nz,sub_zero->NA,le_of_ble_eq_true->Ox,mod_lt->Qd,add_right_comm->Qi,succ_ne_self->RH,reduceLeDiff->RI,not_lt_zero->SI,mul_add->Vk,reduceMul->Vs,le_of_eq->WE,and_comm->WF,div_one->Ze,not_lt->cE
open PySem.PassesOwn renaming never->AK
open PySem.F renaming plainAttrs_list->AN,type_list_append->Bk,slot_list_append->Bl,type_list_extend->Cy,slot_list_extend->Cz,slot_dict_setdefault->Fz,type_list_index->Gj,slot_list_index->Gk,args_dict_setdefault_3->JC,entry_dict_setdefault->JS,slot_tuple_index->Li,type_list_pop->Mt,slot_list_pop->Mu
open Array renaming getElem?_eq_getElem->AW,length_toList->BH,getElem?_toList->C6,getElem?_eq_none->DY,getD_eq_getD_getElem?->FT,toList_setIfInBounds->F8,getElem?_eq_some_iff->F9,toList_replicate->Hr,toArray_toList->Ii,mem_toList_iff->Ij,size_extract->Iv,eq_empty_of_size_eq_zero->Ke,forIn_toList->Ld,size->Ll,size_append->Mn,toList_extract->NU,getElem_toList->NV,toList_append->OF,toList_push->PK,size_map->RU,toList->T5
open Option.some renaming inj->Bb,injEq->Ie
open PySem.Heap.SameBut renaming update->Bf,refl->CM
open Ne renaming symm->Bm
open Int renaming toNat_natCast->Bt,emod_lt_of_pos->BP,emod_nonneg->Ci,pow_succ->F1,fdiv_eq_ediv_of_nonneg->LV,one_mul->Ng,le_of_lt->NQ,pow_pos->Qb,reduceToNat->SK,ediv_nonneg->SM,mul_nonneg->T3,reduceSub->Vt,reducePow->Vu,reduceNeg->Vv,reduceMul->Vw,reduceAdd->Vx,mul_assoc->Vy,zero_add->WI,reduceLT->WJ,reduceLE->WK,reduceEq->WL,pow_zero->WM,ofNat_le->WN,mul_comm->WO,ediv_one->WP,mul_one->Zg,le_refl->Zh
open PyProof.Rows renaming callWith_type1->BF,envOfC->EQ,slot_tuple_getitem->EU,callWith_builtin1->E2,bitOr_and->FR,bitAnd_pp->Ib,boot_tuple->IB,AllBare->IE,sortedS->K8,StrsAre->Lg,boot_list->LN,boot_dict->LO,subscriptTail->OQ,subscriptTail_builtinR->P9,IntsAre->Ql,boot_sorted->RE,Subscript_->TX,boot_isinstance->YS,call_int_bit_length->Zc,bitAnd_zero->Zd,tail_any->bU,slicePart_none->bV
open PySem.PyData renaming keyHash->BI
open PySem.Builtin.Frozenset renaming unchanged->BQ,updateFrom->HF,isAnySet->Ih,sizeOf->IC,baseOf->ID,symmetricDifferenceUpdate->RN,newFrom->RO,newClass->RP,merge->RQ,intersection->RS
open Or renaming inl->B4,inr->Hb
open PySem.NameKind renaming free->Cb,cell->Ig
open True renaming intro->Cm
open PySem.Around renaming under_plainId->CU,under->MF
open PySem.Challenge renaming pw_beatwright_k41_needs->C4,rw_beatwright_k41_needs->H0,rw_beatwright_k41_needs->T0,pw_beatwright_k41_needs->T1
open PySem.SetTable renaming below->C5,grown->DB,eraseAt->DC,fits->EH,sizeAbove->EM,fill->Ic,insertAt->IV,laid->KO,layClean->NJ,roomFor->Ou,relaid->OS,fresh->Pt
open False renaming elim->C9
open ForInStep renaming yield->Dd
open Sum.inr renaming inj->DN
open PySem.Paired renaming length->D7,snoc->T2
open PySem.Builtin.Slice renaming slicePlaces->Ed,sliceAdjust->FC,sliceApplied->Jf,slicePartIndex->WS,sliceFields->WT
open List.Perm renaming refl->Eh,eq_of_pairwise->G4,swap->O3
open PySem.Builtin.Tuple renaming tupleExact->Eo,tupleItemsOf->WR
open PySem.Builtin.Int renaming intBits->Ep
open PySem.SeqAt renaming EqAt->Eu,in_tupleAt->Qf,in_listAt->Q9
open PySem.Builtin.Range renaming rangeSize->EA,rangeFitsLong->IX,small->KP
open Option renaming join_eq_some_iff->EZ,map_eq_some_iff->E6,map_some->G0,map->Hc,isSome_iff_exists->Ls,map_eq_none_iff->Mv,isSome_map->ND,isSome_some->Ow,join_some->Pn,getD_none->Py
open PySem.Builtin.List renaming listExtendWith->Fi,listTooLong->JV,listSameRef->JW,listTouch->Zi,listLengthHint->Zj
open Sum renaming inr->FF,inl->J3
open PUnit renaming unit->F7
open List.Pairwise renaming sublist->Gn,filter->Kt,nil->WG,imp_of_mem->WH
open Nat.succ renaming inj->GQ
open PySem.Calls renaming callWith_builtin->Hq,spliced_cons->Je,spliced_nil->JE,Name_function_global->Lk,evalArgs_plain->NR
open PySem.Obj renaming mapSeq->HE,data_mapDictKeys->OW,data_mapFields->Qh
open PySem.SeqAt.EqAt renaming of_refs->HP,str_int->Mq,int_str->Mr,same->NK
open PySem.Data renaming set->Iq,fields->Ku,seq->SN
open PySem.W.OpenLaw renaming wellSaid->Jc,wellSaid->OV
open PySem.Builtin.Dict renaming updateFrom->Kd,selfAndRest->Zk,pairItems->Zl,keyAndDefault->Zm,addKeywords->Zn
open PySem.Manifest renaming sig_set_iterator->Ks,owners->OX
open PySem.pickOrder renaming go->K9
open PySem.SetTable.below renaming go->Lh
open PySem.AutoSeq1 renaming wpAny_loadPart'->MI
open PySem.Heap.DictOf renaming new->Nm
open PySem.Code renaming isFrame->Nn,frames->WQ
open List.cons renaming inj->PJ
open Prod.mk renaming injEq->Rb,inj->SF
open String renaming ofList->RF
open PySem.Shared renaming TypeIs->RG
open Std.Legacy.Range renaming size->SA,forIn_eq_forIn_range'->SD
open Prod renaming snd->SE,ext->SG
open PySem.IsRange renaming new->SJ
open PySem.W.KeqHits renaming hit->TZ
open PySem.Walks renaming range->Vm,list->Wu
open PySem.W.WShape renaming has->Vn
open PySem.Heap.IsSliceOf renaming new->Vz
open PySem.W.Looks renaming here->Wv
open PySem.EqMixed renaming ne_str_int->Ww,ne_str_bool->Wx,ne_int_str->Wy,ne_bool_str->Wz,eq_str_int->WA,eq_str_bool->WB,eq_int_str->WC,eq_bool_str->WD
open PySem.W.WData renaming int->YT
open PySem.SeqAt.RcNeAt renaming tuples->YU,lists_lengths->YV,lists->YW
open PySem.Within renaming cons->YX
open PySem.EqNone renaming ne_str_none->YY,ne_none_str->YZ,ne_none_none->Y0,ne_none_int->Y1,ne_none_bool->Y2,ne_int_none->Y3,ne_bool_none->Y4,eq_str_none->Y5,eq_none_str->Y6,eq_none_none->Y7,eq_none_int->Y8,eq_none_bool->Y9,eq_int_none->Za,eq_bool_none->Zb
open List.Sublist renaming refl->Zf
open PySem.Builtin.Str renaming tooLong->cI
set_option hygiene false
local macro_rules|`(tactic| symm)=>`(tactic| (refine Aq λG' kk'=>?_))
local macro_rules|`(tactic| cutsat)=>`(tactic| (refine kk' ?_;clear kk'))
local macro_rules|`(tactic| sleep 3)=>`(tactic| (intro U H Q hI';symm;obtain⟨Z,τ,M,Q2,st,hr,h,k⟩:=hI';cutsat))
set_option hygiene true
namespace L2
open PySem PySem.Spec PyProof.Rows
abbrev B7:=Sum Int Str
noncomputable def KH:B7->Ad->Bool
 |.inl k,v=>Vo k v
 |.inr x,v=>Ec x v
noncomputable def gG (w:Bj):B7->Int
 |.inl k=>hashInt k
 |.inr x=>Fv w x
theorem Rw:∀{k:B7}{v:Ad},KH k v=true->(∃i t,k=J3 i/\v=DL i t)\/(∃x t,k=FF x/\v=Dk x t)
 |.inl i,v,h=>by
  obtain⟨t,e⟩:=Value.isInt_shape (k:=i) (v:=v) h;exact .inl ⟨i,t,rfl,e⟩
 |.inr x,v,h=>by
  obtain⟨t,e⟩:=Value.isStrOf_shape (x:=x) (v:=v) h;exact .inr ⟨x,t,rfl,e⟩
theorem ZoE (i:Int)(t:Tok):KH (.inl i) (.int i t)=true:=by simp[KH,Vo]
theorem ZoD (x:Str)(t:Tok):KH (.inr x) (.str x t)=true:=by simp[KH,Ec]
theorem jz (a b:Int):decide ((J3 a:B7)=J3 b)=(a == b):=by
 by_cases e:a=b
 .subst e;simp
 .have h:¬(J3 a:B7)=J3 b:=λq=>e (Sum.inl.inj q);rw[decide_eq_false h];exact(beq_eq_false_iff_ne.mpr e).symm
theorem j3 (a b:Str):decide ((FF a:B7)=FF b)=decide (a=b):=by
 by_cases e:a=b
 .subst e;simp
 .have h:¬(FF a:B7)=FF b:=λq=>e (DN q);rw[decide_eq_false h,decide_eq_false e]
theorem j1 (a:Int)(b:Str):decide ((J3 a:B7)=FF b)=false:=decide_eq_false (λq=>nomatch q)
theorem j2 (a:Str)(b:Int):decide ((FF a:B7)=J3 b)=false:=decide_eq_false (λq=>nomatch q)
noncomputable def BV (prog:AX)(w:Bj):PySem.KeyKind prog w B7 where
 is:=KH
 hash:=gG w
 inj:=λv a b ha hb=>by
  rcases Rw ha with⟨i,t,rfl,rfl⟩|⟨x,t,rfl,rfl⟩
  .rcases Rw hb with⟨j,u,rfl,e⟩|⟨y,u,rfl,e⟩
   .injection e with e1 _;rw[e1]
   .exact nomatch e
  .rcases Rw hb with⟨j,u,rfl,e⟩|⟨y,u,rfl,e⟩
   .exact nomatch e
   .injection e with e1 _;rw[e1]
 byValue:=λk v h=>by
  rcases Rw h with⟨i,t,rfl,rfl⟩|⟨x,t,rfl,rfl⟩<;>rfl
 pyHash:=λhv h=>by
  rcases Rw hv with⟨i,t,rfl,rfl⟩|⟨x,t,rfl,rfl⟩
  .exact wpAny_pyHash_int h
  .exact wpAny_pyHash_str h
 eqBool:=λhu hv h=>by
  rcases Rw hu with⟨i,t,rfl,rfl⟩|⟨x,t,rfl,rfl⟩
  .rcases Rw hv with⟨j,u,rfl,rfl⟩|⟨y,u,rfl,rfl⟩
   .rw[jz]at h;exact LF h
   .rw[j1]at h;exact Mr i t y u _ _ _ _ h
  .rcases Rw hv with⟨j,u,rfl,rfl⟩|⟨y,u,rfl,rfl⟩
   .rw[j2]at h;exact Mq x t j u _ _ _ _ h
   .rw[j3]at h;exact wpAny_eqBool_str h
 «strs»:=λk x t v h=>by
  rcases Rw h with⟨i,u,rfl,e⟩|⟨y,u,rfl,e⟩
  .exact nomatch e
  .injection e with e1 _
   subst e1;cases v<;>rfl
theorem ZmG (prog:AX)(w:Bj)(k:B7)(v:Ad):(BV prog w).is k v=KH k v:=rfl
theorem ZkK (prog:AX)(w:Bj)(i:Int)(t:Tok):(BV prog w).is (.inl i) (.int i t)=true:=ZoE i t
theorem ZkJ (prog:AX)(w:Bj)(x:Str)(t:Tok):(BV prog w).is (.inr x) (.str x t)=true:=ZoD x t
inductive V where
 |non | bl (b:Bool) | int (i:Int) | str (x:Str) | byt (b:Array UInt8) | flt (b:UInt64) | ref (a:Ao) | ty (n:String)
 deriving DecidableEq
def RelV:V->Ad->Prop
 |.non,u=>u=F6
 |.bl b,u=>u=I9 b
 |.int i,u=>∃t,u=DL i t
 |.str x,u=>∃t,u=Dk x t
 |.byt b,u=>∃t,u=Vp b t
 |.flt b,u=>∃t,u=NI b t
 |.ref a,u=>u=AC a
 |.ty n,u=>u=DX n
abbrev BJ:List V->List Ad->Prop:=D8 RelV
theorem BJ.length {xs:List V}{us:List Ad}(r:BJ xs us):xs.length=us.length:=D7 r
theorem BJ.get:∀{xs:List V}{us:List Ad}{i:Nat}{x:V},BJ xs us->xs[i]? = some x->∃u,us[i]? = some u/\RelV x u
 |_,_,_,_,.nil,e=>by simp at e
 |_,_,0,_,.cons r _,e=>by simp at e;subst e;exact⟨_,rfl,r⟩
 |_,_,i+1,x,.cons _ t,e=>by
  obtain⟨u,h1,h2⟩:=BJ.get (i:=i) (x:=x) t (by simpa using e);exact⟨u,by simpa using h1,h2⟩
theorem BJ.append:∀{xs ys:List V}{us ws:List Ad},BJ xs us->BJ ys ws->BJ (xs++ys) (us++ws)
 |_,_,_,_,.nil,s=>s
 |_,_,_,_,.cons r t,s=>.cons r (BJ.append t s)
theorem BJ.take:∀{xs:List V}{us:List Ad}(n:Nat),BJ xs us->BJ (xs.take n) (us.take n)
 |_,_,0,_=>.nil
 |_,_,_+1,.nil=>.nil
 |_,_,n+1,.cons r t=>.cons r (BJ.take n t)
theorem BJ.drop:∀{xs:List V}{us:List Ad}(n:Nat),BJ xs us->BJ (xs.drop n) (us.drop n)
 |_,_,0,r=>r
 |_,_,_+1,.nil=>.nil
 |_,_,n+1,.cons _ t=>BJ.drop n t
def Ip:Option V->Option Ad->Prop
 |some v,some u=>RelV v u
 |none,none=>True
 |_,_=>False
def KV {κ:Type}:List (κ×V)->List (κ×Ad)->Prop:=D8 λ(p:κ×V) (q:κ×Ad)=>p.1=q.1/\RelV p.2 q.2
noncomputable def kV:B7->V
 |.inl i=>.int i
 |.inr x=>.str x
inductive HO where
  |lst (xs:List V)
  |tup (xs:List V)
  |dK (AR:List (B7×V)) | dT (AR:List (List B7×V))
  |set (S:Int->Bool) (n:Nat)
  |ins (C dx:Ao) (fs:List (Str×V))
  |own (x:Ao)
  |xd (fs:List (Str×V))
  |met (f x:Ao)
  |rng (lo hi:Int)
  |frz (o:Obj) (u:HO)
  |tbl (ps:Array Ad)
  |ext (φ:BU->Prop)
abbrev Hp:=Ao->Option HO
noncomputable def CF (H:Hp)(a:Ao)(o:HO):Hp:=λb=>if b=a then some o else H b
theorem MH {H:Hp}{a:Ao}{o:HO}:CF H a o a=some o:=by unfold CF;rw[if_pos rfl]
theorem HW {H:Hp}{a b:Ao}{o:HO}(h:b≠a):CF H a o b=H b:=by unfold CF;rw[if_neg h]
theorem ji {H:Hp}{a b:Ao}{o u:HO}(h:H a=some o)(h':H b=some u)(d:o≠u):a≠b:=by
 intro e;subst e;rw[h]at h';exact d (Bb h')
theorem Wc {H:Hp}{a b:Ao}{o:HO}(h:H a=some o)(h':H b=none):a≠b:=by
 intro e;subst e;rw[h]at h';cases h'
section
variable (P:AX)(w:Bj)
def Mh (h:BU)(a:Ao)(items:Array Ad):Prop:=∃o,h.get? a=some o/\o.cls=.type "tuple"/\∃n,o.data=.seq items n/\o.dict=none
omit P w in
theorem Mh.tup {h:BU}{a:Ao}{items:Array Ad}(x:Mh h a items):IsTup h a items:=let ⟨o,e,c,n,d,_⟩:=x;⟨o,e,c,n,d⟩
omit P w in
theorem Mh.new (h:BU)(items:Array Ad):Mh (h.push {cls:=.type "tuple",data:=.seq items}) h.objs.size items:=⟨_,AB _ rfl,rfl,_,rfl,rfl⟩
def CZ (H:Hp)(h:BU)(a:Ao):HO->Prop
 |.lst xs=>xs.length<=An/\∃(Bn:List Ad) (n:Nat),BJ xs Bn/\h.get? a=some {cls:=.type "list",data:=.seq Bn.toArray n}
 |.tup xs=>xs.length<=An/\∃Bn:List Ad,BJ xs Bn/\Mh h a Bn.toArray
 |.dK AR=>AR.length<=An/\(a == Ff)=false/\∃vs,KV AR vs/\h.DictOf (BV P w) a vs
 |.dT AR=>AR.length<=An/\(a == Ff)=false/\∃xs:List (List B7×Ao×Ad),
   D8 (λ(p:List B7×V) (q:List B7×Ao×Ad)=>p.1=q.1/\H q.2.1=some (.tup (p.1.map kV))/\RelV p.2 q.2.2) AR xs /\
   ∃o es ep,h.get? a=some o/\o.ExactDict/\o.data=.dict es ep/\es.toList=xs.map (entryOfKey (LG (BV P w)))/\(xs.map (·.1)).Nodup
 |.set S n=>h.SetOf (intKind P w) a S n
 |.ins C dx fs=>H dx=some (.own a)/\fs.length<=1000/\dx≠a/\h.get? a=some (Di C dx) /\
   ∃mA,h.Ns1 dx mA/\(∀f,Ip (fs.lookup f) (mA f))/\MK mA (fs.map (·.1))
 |.own _=>∃o,h.get? a=some o
 |.xd fs=>∃mA,h.Ns1 a mA/\∀f,Ip (fs.lookup f) (mA f)
 |.rng lo hi=>∃t u v,h.get? a=some {cls:=.type "range",data:=.fields #[.int lo t,.int hi u,.int 1 v]}
 |.frz o u=>h.get? a=some o/\CZ H h a u
 |.tbl ps=>h.get? a=some {cls:=.none,data:=.fields ps}
 |.met f x=>h.get? a=some (Ja (.ref f) (.ref x))
 |.ext φ=>φ h/\(∃o,h.get? a=some o)/\∀h1 h2:BU,φ h1->(∀o,h1.get? a=some o->h2.get? a=some o)->φ h2
def Iu (H:Hp)(h:BU):Prop:=∀a o,H a=some o->CZ P w H h a o
end
section
variable {P:AX}{w:Bj}{H H':Hp}{h h':BU}{a:Ao}{o:HO}
theorem CZ.lt (x:CZ P w H h a o):a<h.objs.size:=by
 cases o with
 |lst xs=>obtain⟨_,_,_,_,e⟩:=x;exact Ar e
 |tup xs=>obtain⟨_,_,_,p⟩:=x;exact(Mh.tup p).lt
 |dK AR=>obtain⟨_,_,_,_,o,_,_,e,_⟩:=x;exact Ar e
 |dT AR=>obtain⟨_,_,_,_,o,_,_,e,_⟩:=x;exact Ar e
 |set S n=>obtain⟨o,_,_,_,e,_⟩:=x;exact Ar e
 |ins C dx fs=>obtain⟨_,_,_,e,_⟩:=x;exact Ar e
 |own y=>obtain⟨_,e⟩:=x;exact Ar e
 |xd fs=>obtain⟨_,⟨_,_,_,e,_⟩,_⟩:=x;exact Ar e
 |rng lo hi=>obtain⟨_,_,_,e⟩:=x;exact Ar e
 |frz ob u=>obtain⟨e,_⟩:=x;exact Ar e
 |tbl ps=>exact Ar (show h.get? a=some _ from x)
 |met f y=>exact Ar (show h.get? a=some _ from x)
 |ext φ=>obtain⟨_,⟨_,e⟩,_⟩:=x;exact Ar e
theorem D8.mapP {α β:Type}{F G:α->β->Prop}:∀{l₁:List α}{l₂:List β},D8 F l₁ l₂->(∀a b,F a b->G a b)->D8 G l₁ l₂
 |_,_,.nil,_=>.nil
 |_,_,.cons r t,f=>.cons (f _ _ r) (D8.mapP t f)
theorem CZ.stay (x:CZ P w H h a o)(k:∀b u,(b=a\/H b=some (.own a))->h.get? b=some u->h'.get? b=some u)
  (ho:∀b,H b=some (.own a)->H' b=some (.own a)) (ht:∀b xs,H b=some (.tup xs)->H' b=some (.tup xs)):CZ P w H' h' a o:=by
 induction o with
 |lst xs=>obtain⟨z,Bn,n,r,e⟩:=x;exact⟨z,Bn,n,r,k _ _ (.inl rfl) e⟩
 |tup xs=>obtain⟨z,Bn,r,ob,e,c⟩:=x;exact⟨z,Bn,r,ob,k _ _ (.inl rfl) e,c⟩
 |dK AR=>obtain⟨z,y,vs,r,ob,es,ep,e,c⟩:=x;exact⟨z,y,vs,r,ob,es,ep,k _ _ (.inl rfl) e,c⟩
 |dT AR=>symm;obtain⟨z,y,xs,r,ob,es,ep,e,c⟩:=x;cutsat;exact⟨z,y,xs,D8.mapP r λp q z=>⟨z.1,ht _ _ z.2.1,z.2.2⟩,ob,es,ep,k _ _ (.inl rfl) e,c⟩
 |set S n=>obtain⟨ob,es,ep,t,e,c⟩:=x;exact⟨ob,es,ep,t,k _ _ (.inl rfl) e,c⟩
 |ins C dx fs=>symm;obtain⟨d,z,ne,e,mA,⟨od,es,ep,e2,c⟩,r⟩:=x;cutsat;exact⟨ho _ d,z,ne,k _ _ (.inl rfl) e,mA,⟨od,es,ep,k _ _ (.inr d) e2,c⟩,r⟩
 |own y=>obtain⟨ob,e⟩:=x;exact⟨ob,k _ _ (.inl rfl) e⟩
 |xd fs=>obtain⟨mA,⟨od,es,ep,e,c⟩,r⟩:=x;exact⟨mA,⟨od,es,ep,k _ _ (.inl rfl) e,c⟩,r⟩
 |rng lo hi=>obtain⟨t,u,v,e⟩:=x;exact⟨t,u,v,k _ _ (.inl rfl) e⟩
 |frz ob u ih=>obtain⟨e,q⟩:=x;exact⟨k _ _ (.inl rfl) e,ih q⟩
 |tbl ps=>have e:h.get? a=some {cls:=.none,data:=.fields ps}:=x;show h'.get? a=some {cls:=.none,data:=.fields ps};exact k a _ (.inl rfl) e
 |met f y=>have e:h.get? a=some (Ja (.ref f) (.ref y)):=x;show h'.get? a=some (Ja (.ref f) (.ref y));exact k a _ (.inl rfl) e
 |ext φ=>obtain⟨p,⟨o,e⟩,st⟩:=x;exact⟨st _ _ p λo q=>k _ _ (.inl rfl) q,⟨o,k _ _ (.inl rfl) e⟩,st⟩
theorem Iu.lt (x:Iu P w H h)(e:H a=some o):a<h.objs.size:=(x a o e).lt
theorem Iu.fresh (x:Iu P w H h)(e:h.objs.size<=a):H a=none:=by
 cases q:H a with
 |none=>rfl
 |some u=>exact absurd (Bo (x.lt q) e) (EX _)
theorem Iu.kept (x:Iu P w H h)(k:∀b u,h.get? b=some u->h'.get? b=some u):Iu P w H h':=λa o e=>
 (x a o e).stay (λb u _ q=>k b u q) (λ_ q=>q) λ_ _ q=>q
theorem Iu.laid (x:Iu P w H h)(k:∀b u,h.get? b=some u->h'.get? b=some u)(hp:h.objs.size<=a)(new:CZ P w (CF H a o) h' a o):Iu P w (CF H a o) h':=λb u e=>by
 have hn:=x.fresh hp;by_cases hb:b=a
 .subst hb;rw[MH]at e;cases e;exact new
 .rw[HW hb]at e;exact(x b u e).stay (λc v _ q=>k c v q) (λc q=>by rw[HW (Wc q hn)];exact q) λc xs q=>by rw[HW (Wc q hn)];exact q
end
def Rd (H:Hp)(a:Ao)(u:HO):Prop:=H a=some u\/∃o,H a=some (.frz o u)
theorem Rd.ok {P:AX}{w:Bj}{H:Hp}{h:BU}{a:Ao}{u:HO}(r:Rd H a u)(x:Iu P w H h):CZ P w H h a u:=by
 rcases r with r|⟨o,r⟩
 .exact x a u r
 .obtain⟨_,q⟩:=x a _ r;exact q
def YI:Option HO->Prop
 |some (.lst _)=>True
 |some (.dK _)=>True
 |some (.dT _)=>True
 |some (.set _ _)=>True
 |some (.ins _ _ _)=>True
 |some (.ext _)=>True
 |_=>False
section
variable {P:AX}{w:Bj}{H:Hp}{h h':BU}{x e:Ao}{o':HO}
theorem Iu.write (ok:Iu P w H h)(mu:YI (H x))(he:e=x\/H e=some (.own x))(k:∀b u,b≠e->h.get? b=some u->h'.get? b=some u)(heo:∃u,h'.get? e=some u)
  (new:CZ P w (CF H x o') h' x o'):Iu P w (CF H x o') h':=λb u q=>by
 have nown:∀c y,H c=some (.own y)->c≠x:=λc y r z=>by subst z;rw[r]at mu;exact mu
 have ntup:∀c xs,H c=some (.tup xs)->c≠x:=λc xs r z=>by subst z;rw[r]at mu;exact mu
 by_cases hb:b=x
 .subst hb;rw[MH]at q;cases q;exact new
 .rw[HW hb]at q;by_cases hbe:b=e
  .have q':H b=some (.own x):=by
    rcases he with z|z
    .exact absurd (hbe.trans z) hb
    .rw[hbe];exact z
   rw[q]at q';cases q';obtain⟨v,hv⟩:=heo;exact⟨v,by rw[hbe];exact hv⟩
  .refine(ok b u q).stay (λc v hc r=>k c v ?_ r) (λc r=>by rw[HW (nown c b r)];exact r) λc xs r=>by rw[HW (ntup c xs r)];exact r
   rcases hc with rfl|hc
   .exact hbe
   .rintro rfl;rcases he with z|z
    .exact nown c b hc z
    .rw[hc]at z;cases z;exact hb rfl
end
structure Un (fs ex:List Ao)(H H':Hp)(h h':BU):Prop where
 keep:∀b o,h.get? b=some o->H b=none->b∉fs->b∉ex->h'.get? b=some o
 slot:∀b o,h.get? b=some o->H b=none->b∈fs->b∉ex->∃sl,h'.get? b=some {o with slots:=sl}
 free:∀b o,h.get? b=some o->H b=none->b∉ex->H' b=none
 there:∀b o,h.get? b=some o->b∉ex->∃o',h'.get? b=some o'
 tups:∀b xs,H b=some (.tup xs)->H' b=some (.tup xs)
 frzs:∀b o u,H b=some (.frz o u)->H' b=some (.frz o u)
 tbls:∀b ps,H b=some (.tbl ps)->∃more,H' b=some (.tbl (ps++more))
section
variable {fs fs' ex ex':List Ao}{H H1 H2:Hp}{h h1 h2 h':BU}{a x e:Ao}{o:HO}
theorem Un.any (u:Un fs ex H H1 h h1){b:Ao}{ob:Obj}(q:h.get? b=some ob)(n:H b=none)(hx:b∉ex):∃sl,h1.get? b=some {ob with slots:=sl}:=by
 by_cases hb:b∈fs
 .exact u.slot b ob q n hb hx
 .exact⟨ob.slots,u.keep b ob q n hb hx⟩
theorem Un.kept (k:∀b u,h.get? b=some u->h'.get? b=some u):Un fs ex H H h h':=
 ⟨λb ob q _ _ _=>k b ob q,λb ob q _ _ _=>⟨ob.slots,k b ob q⟩,λ_ _ _ n _=>n,λb ob q _=>⟨ob,k b ob q⟩,λ_ _ q=>q,λ_ _ _ q=>q,λ_ ps q=>⟨#[],by rw[q];simp⟩⟩
theorem Un.refl:Un fs ex H H h h:=Un.kept λ_ _ q=>q
theorem Un.laid (k:∀b u,h.get? b=some u->h'.get? b=some u)(hp:h.objs.size<=a)(hn:H a=none):Un fs ex H (CF H a o) h h' where
 keep:=λb u q _ _ _=>k b u q
 slot:=λb u q _ _ _=>⟨u.slots,k b u q⟩
 free:=λb u q n _=>by rw[HW (A8 (Bo (Ar q) hp))];exact n
 there:=λb u q _=>⟨u,k b u q⟩
 tups:=λb xs q=>by rw[HW (Wc q hn)];exact q
 frzs:=λb u xs q=>by rw[HW (Wc q hn)];exact q
 tbls:=λb ps q=>⟨#[],by rw[HW (Wc q hn),q];simp⟩
theorem Un.write (mu:YI (H x))(he:e=x\/H e=some (.own x))(k:∀b u,b≠e->h.get? b=some u->h'.get? b=some u)(heo:∃u,h'.get? e=some u):Un fs ex H (CF H x o) h h':=by
 have hx:∀b,H b=none->b≠x:=λb n z=>by subst z;rw[n]at mu;exact mu
 have hb:∀b,H b=none->b≠e:=λb n z=>by
  subst z;rcases he with r|r
  .exact hx b n r
  .rw[n]at r;cases r
 have hm:∀b u,H b=some u->¬YI (some u)->b≠x:=λb u q nm z=>by subst z;rw[q]at mu;exact nm mu
 refine ⟨λb u q n _ _=>k b u (hb b n) q,λb u q n _ _=>⟨u.slots,k b u (hb b n) q⟩,λb u q n _=>by rw [HW (hx b n)];exact n,λb u q _=>?_,
  λb xs q=>by rw [HW (hm b _ q λz=>z)];exact q,λb u xs q=>by rw [HW (hm b _ q λz=>z)];exact q,λb ps q=>⟨#[],by rw [HW (hm b _ q λz=>z),q];simp⟩⟩
 by_cases hbe:b=e
 .subst hbe;exact heo
 .exact⟨u,k b u hbe q⟩
end
noncomputable def Zr (h:BU)(H:Hp):List Ao:=(Bu h.objs.size).filter λa=>(H a).isSome
noncomputable def L7 (h:BU)(H:Hp):BU:=PySem.W.hideAll h (Zr h H)
theorem ZoM (h:BU)(H:Hp):(L7 h H).objs.size=h.objs.size:=PySem.W.hideAll_size _ _
theorem zt {h:BU}{H:Hp}{b:Ao}{o:Obj}(e:h.get? b=some o)(n:H b=none):(L7 h H).get? b=some o:=
 PySem.W.hideAll_get _ e λhm=>by
  have q:(H b).isSome=true:=(Bw.mp hm).2;rw[n]at q;simp at q
theorem um {h:BU}{H:Hp}{b:Ao}{o:Obj}(e:(L7 h H).get? b=some o):h.get? b=some o/\H b=none:=by
 have e':h.get? b=some o:=PySem.W.of_hideAll (Zr h H) e;refine⟨e',?_⟩;cases q:H b with
 |none=>rfl
 |some x=>have hm:b∈Zr h H:=Bw.mpr ⟨CB.mpr (Ar e'),by simp[q]⟩;have z:(L7 h H).get? b=none:=PySem.W.hideAll_none (Zr h H) hm;rw[z]at e;cases e
noncomputable def Sk (g h:BU)(L:Ao):List (Ao×Obj):=(Bu h.objs.size).filterMap λa=>if a=L\/(g.get? a).isSome=true then none else(h.get? a).map λo=>(a,o)
noncomputable def Db (g h:BU)(L d:Ao):List (Ao×Obj):=(Sk g h L).filter λp=>decide (p.1≠d)
structure Mod (K:Ac)(mg:Str->Option Ad)(base:BU):Prop where
 kin:K.In base
 glob:base.Ns B3 mg
 blt:∃mb,base.Ns TW mb/\∀x:Str,x≠"__name__"->mb x=DK x
 nolimit:base.NoLimit
structure Cx where
 prog:AX
 w:Bj
 K:Ac
 mg:Str->Option Ad
 base:BU
 A:Bq
 N:List Str
 s₀:Aj
 H₀:Hp
 env:Env
 outer:List Env
 stack:List Env
 ex:List Ao
 fn:Str->Bool
 calm:Bool
 pn:List (Ao×Obj)
 xe:Ad->Aj->Prop
 fz:List (Ao×Obj×HO):=[]
noncomputable def PX (l:List Env):List Ao:=l.filterMap (·.frame)
noncomputable abbrev Cx.fs (X:Cx):List Ao:=PX X.outer
def YD (sc:JB)(x:Str):Prop:=sc.names.lookup x=some .local\/sc.names.lookup x=some .cell\/sc.names.lookup x=some .free
def U9 (sc:JB)(x:Str):Prop:=sc.names.lookup x=some .local\/sc.names.lookup x=some .cell
def lX (env:Env)(h:BU)(m:Str->Option Ad)(x:Str)(u:Ad):Prop:=
 (env.kindOf x=some .local/\m x=some u)\/((env.kindOf x=some .cell\/env.kindOf x=some .free)/\∃c,env.cells.lookup x=some c/\h.IsCell c (some u))
structure Cx.Ok (X:Cx):Prop where
 mod:Mod X.K X.mg X.base
 kind:X.env.scope.kind=.function
 glob:X.env.globals=B3
 blt:X.env.builtins=TW
 above:X.s₀.heap.objs.size<=X.env.locals
 inj:∀x y c,X.env.cells.lookup x=some c->X.env.cells.lookup y=some c->x=y
 has:∀x,(X.env.kindOf x=some .cell\/X.env.kindOf x=some .free)->∃c,X.env.cells.lookup x=some c
 cab:∀x c,X.fn x=true->X.env.cells.lookup x=some c->X.s₀.heap.objs.size<=c
 hd:X.calm=true->X.A.handled=none
 frames:X.A.frames=some X.stack
 stk:X.stack=X.outer\/(X.stack=X.env::X.outer/\X.env.frame=some X.env.locals)
 exf:∀b∈X.ex,b≠X.env.locals/\∀x c,X.env.cells.lookup x=some c->c≠b
 bs:∀b o,X.base.get? b=some o->X.s₀.heap.get? b=some o/\X.H₀ b=none
 bsz:X.base.objs.size<=X.s₀.heap.objs.size
 noex:∀b o,X.base.get? b=some o->b∉X.ex
 exfs:∀b∈X.ex,b∉X.fs
 funs:X.s₀.heap.FunFrames X.base X.outer
 frf:∀b∈X.fs,X.H₀ b=none
structure A6 (X:Cx)(Af:List (Ao×Obj))(U:List (Option V))(H:Hp)(s:Aj):Prop where
 ok:X.Ok
 os:s.os=X.s₀.os
 bare:IE s.gens
 base:Un X.fs X.ex X.H₀ H X.s₀.heap s.heap
 loc:∃m,s.heap.Ns X.env.locals m/\∀(i:Nat) (x:Str) (v:V),X.N[i]? = some x->U[i]? = some (some v)->YD X.env.scope x->∃u,RelV v u/\lX X.env s.heap m x u
 cell:∀x c,X.env.cells.lookup x=some c->∃v,s.heap.IsCell c v
 free:H X.env.locals=none
 freeC:∀x c,X.env.cells.lookup x=some c->H c=none
 pin:∀p∈X.pn++Af,s.heap.get? p.1=some p.2/\H p.1=none/\p.1≠X.env.locals/\p.1∉X.fs/\∀v,p.2.data≠.cell v
 hok:Iu X.prog X.w H s.heap
 len:U.length=X.N.length
 fzd:∀f∈X.fz,H f.1=some (.frz f.2.1 f.2.2)
section
variable {X:Cx}{Af:List (Ao×Obj)}{U:List (Option V)}{H H':Hp}{s:Aj}{h':BU}
theorem Cx.Ok.nofr (ok:X.Ok){b:Ao}{o:Obj}(e:X.base.get? b=some o):b∉X.fs:=λhb=>by
 have:=(ok.funs.mem hb).1;rw[e]at this;cases this
theorem A6.bs (I:A6 X Af U H s):∀b o,X.base.get? b=some o->s.heap.get? b=some o/\H b=none:=λb o e=>
 ⟨I.base.keep b o (I.ok.bs b o e).1 (I.ok.bs b o e).2 (I.ok.nofr e) (I.ok.noex b o e),I.base.free b o (I.ok.bs b o e).1 (I.ok.bs b o e).2 (I.ok.noex b o e)⟩
theorem A6.bk (I:A6 X Af U H s):∀b o,X.base.get? b=some o->s.heap.get? b=some o:=λb o e=>(I.bs b o e).1
theorem A6.mod (I:A6 X Af U H s):Mod X.K X.mg X.base:=I.ok.mod
theorem A6.kIn (I:A6 X Af U H s):X.K.In s.heap:=I.ok.mod.kin.keeps I.bk
theorem A6.lt (I:A6 X Af U H s):X.env.locals<s.heap.objs.size:=let ⟨_,hn,_⟩:=I.loc;hn.lt
theorem A6.sz (I:A6 X Af U H s):X.s₀.heap.objs.size<=s.heap.objs.size:=A3 I.ok.above (Fu I.lt)
theorem A6.nofs (I:A6 X Af U H s){a:Ao}(h:s.heap.objs.size<=a):a∉X.fs:=λhb=>by
 obtain⟨_,o,ho,_⟩:=I.ok.funs.mem hb;exact absurd (Bo (Ar ho) (A3 I.sz h)) (EX _)
theorem A6.cne (I:A6 X Af U H s):∀x c,X.env.cells.lookup x=some c->c≠X.env.locals:=λx c e z=>by
 obtain⟨v,o,ho,hd⟩:=I.cell x c e;obtain⟨m,⟨o',es,ep,ho',hd',_⟩,_⟩:=I.loc;rw[z,ho']at ho;cases ho;rw[hd']at hd;cases hd
theorem A6.funs (I:A6 X Af U H s):s.heap.FunFrames X.base X.outer:=by
 have all:∀(l:List Env),(∀b∈PX l,b∈X.fs)->X.s₀.heap.FunFrames X.base l->s.heap.FunFrames X.base l:=by
  intro l;induction l with
  |nil=>intro _ _;trivial
  |cons env r ih=>intro hs hl;symm;obtain⟨hk,⟨L,o,hf,hn,ho,hd⟩,hr⟩:=hl;cutsat;have hL:L∈X.fs:=hs L (by unfold PX;rw[C2,hf];exact AF);obtain⟨sl,e⟩:=I.base.slot L o ho (I.ok.frf L hL) hL λz=>I.ok.exfs L z hL;exact⟨hk,⟨L,_,hf,hn,e,hd⟩,ih (λb hb=>hs b (by unfold PX;rw[C2,hf];exact AE _ hb)) hr⟩
 exact all X.outer (λ_ hb=>hb) I.ok.funs
theorem A6.stack (I:A6 X Af U H s):s.heap.FunFrames X.base X.stack:=by
 rcases I.ok.stk with e|⟨e,hf⟩
 .rw[e];exact I.funs
 .rw[e];obtain⟨m,hn,_⟩:=I.loc;refine .cons (by rw[I.ok.kind];decide) hf hn ?_ I.funs;exact Heap.get?_none_of_le (A3 I.ok.bsz I.ok.above)
theorem A6.stkSub (I:A6 X Af U H s):∀b∈PX X.stack,b∈X.env.locals::X.fs:=λb hb=>by
 rcases I.ok.stk with e|⟨e,hf⟩
 .rw[e]at hb;exact AE _ hb
 .rw[e]at hb;unfold PX at hb;rw[C2,hf]at hb;exact hb
theorem A6.stkFree (I:A6 X Af U H s):∀b∈PX X.stack,H b=none:=λb hb=>by
 rcases A5.mp (I.stkSub b hb)with e|hb
 .rw[e];exact I.free
 .obtain⟨_,o,ho,_⟩:=I.ok.funs.mem hb;exact I.base.free b o ho (I.ok.frf b hb) λz=>I.ok.exfs b z hb
theorem A6.step {g':Array cG}{t':Nat}{d':Drawn}{ch:List Ao}(I:A6 X Af U H s)
  (hch:∀b∈ch,(b∈X.ex\/X.s₀.heap.objs.size<=b)/\b≠X.env.locals/\(∀x c,X.env.cells.lookup x=some c->c≠b)/\∀p∈X.pn++Af,p.1≠b)
  (keep:∀b o,b≠X.env.locals->b∉X.fs->b∉ch->s.heap.get? b=some o->H b=none->h'.get? b=some o)
  (slot:∀b o,b≠X.env.locals->b∈X.fs->b∉ch->s.heap.get? b=some o->H b=none->∃sl,h'.get? b=some {o with slots:=sl}) (free:∀b o,b∉ch->s.heap.get? b=some o->H b=none->H' b=none)
  (there:∀b o,b∉ch->s.heap.get? b=some o->∃o',h'.get? b=some o')
  (tups:∀b xs,H b=some (.tup xs)->H' b=some (.tup xs)) (frzs:∀b o u,H b=some (.frz o u)->H' b=some (.frz o u)) (tbls:∀b ps,H b=some (.tbl ps)->∃more,H' b=some (.tbl (ps++more)))
  (ns:∀m,s.heap.Ns X.env.locals m->h'.Ns X.env.locals m) (hok:Iu X.prog X.w H' h') (hg:IE g') :
  A6 X Af U H' {s with heap:=h',gens:=g',drawn:=d',toks:=t' }:=by
 have neL:∀b o,X.s₀.heap.get? b=some o->b≠X.env.locals:=λb o e=>A8 (Bo (Ar e) I.ok.above)
 have neC:∀b o,X.s₀.heap.get? b=some o->b∉X.ex->b∉ch:=λb o e hx hb=>by
  rcases(hch b hb).1 with z|z
  .exact hx z
  .exact absurd (Bo (Ar e) z) (EX _)
 have cellK:∀x c,X.env.cells.lookup x=some c->∀v,s.heap.IsCell c v->h'.IsCell c v:=λx c e v ⟨o,ho,hd⟩=>by
  have nch:c∉ch:=λz=>(hch c z).2.2.1 x c e rfl;by_cases hc:c∈X.fs
  .obtain⟨sl,q⟩:=slot c o (I.cne x c e) hc nch ho (I.freeC x c e);exact⟨_,q,hd⟩
  .exact⟨o,keep c o (I.cne x c e) hc nch ho (I.freeC x c e),hd⟩
 refine⟨I.ok,I.os,hg,⟨λb o e n hb hx=>?_,λb o e n hb hx=>?_,λb o e n hx=>?_,λb o e hx=>?_,λb xs e=>tups b xs (I.base.tups b xs e),λb o xs e=>frzs b o xs (I.base.frzs b o xs e),λb ps e=>?_⟩,?_,λx c e=>?_,?_,λx c e=>?_,λp hp=>?_,hok,I.len,λf hf=>frzs f.1 f.2.1 f.2.2 (I.fzd f hf)⟩
 .exact keep b o (neL b o e) hb (neC b o e hx) (I.base.keep b o e n hb hx) (I.base.free b o e n hx)
 .obtain⟨sl,e1⟩:=I.base.slot b o e n hb hx;obtain⟨sl',e2⟩:=slot b _ (neL b o e) hb (neC b o e hx) e1 (I.base.free b o e n hx);exact⟨sl',e2⟩
 .obtain⟨o',e1⟩:=I.base.there b o e hx;exact free b o' (neC b o e hx) e1 (I.base.free b o e n hx)
 .obtain⟨o',e1⟩:=I.base.there b o e hx;exact there b o' (neC b o e hx) e1
 .obtain⟨m1,e1⟩:=I.base.tbls b ps e;obtain⟨m2,e2⟩:=tbls b _ e1;exact⟨m1++m2,by rw[e2,Array.append_assoc]⟩
 .obtain⟨m,hn,hl⟩:=I.loc;refine⟨m,ns m hn,λi x v e1 e2 e3=>?_⟩;obtain⟨u,r,l⟩:=hl i x v e1 e2 e3;refine⟨u,r,?_⟩;rcases l with l|⟨k,c,e,z⟩
  .exact .inl l
  .exact .inr ⟨k,c,e,cellK x c e _ z⟩
 .obtain⟨v,z⟩:=I.cell x c e;exact⟨v,cellK x c e v z⟩
 .obtain⟨m,⟨o,_,_,ho,_⟩,_⟩:=I.loc;exact free _ o (λz=>(hch _ z).2.1 rfl) ho I.free
 .obtain⟨v,o,ho,hd⟩:=I.cell x c e;exact free c o (λz=>(hch c z).2.2.1 x c e rfl) ho (I.freeC x c e)
 .obtain⟨e,n,ne,nf,d⟩:=I.pin p hp;have nch:p.1∉ch:=λz=>(hch p.1 z).2.2.2 p hp rfl;exact⟨keep p.1 p.2 ne nf nch e n,free p.1 p.2 nch e n,ne,nf,d⟩
theorem A6.un {t':Nat}(I:A6 X Af U H s)(u:Un X.fs [] H H' s.heap h')(hok:Iu X.prog X.w H' h'):A6 X Af U H' {s with heap:=h',toks:=t' }:=by
 symm;obtain⟨m,⟨o,es,ep,ho,r⟩,_⟩:=id I.loc;cutsat;obtain⟨sl,hL⟩:=u.any ho I.free (by simp)
 exact I.step (g':=s.gens) (d':=s.drawn) (ch:=[]) (λ_ z=>nomatch z) (λb o _ hb _ e n=>u.keep b o e n hb (by simp)) (λb o _ hb _ e n=>u.slot b o e n hb (by simp)) (λb o _ e n=>u.free b o e n (by simp)) (λb o _ e=>u.there b o e (by simp)) u.tups u.frzs u.tbls (λm' hm=>by
  obtain ⟨o',es',ep',ho',r'⟩:=hm;rw [ho] at ho';cases ho';exact ⟨_,es',ep',hL,r'⟩) hok I.bare
theorem A6.call {g':Array cG}{t':Nat}{d':Drawn}{ch:List Ao}(I:A6 X Af U H s)(u:Un (PX X.stack) ch H H' s.heap h')(hok:Iu X.prog X.w H' h')(hg:IE g')
  (hch:∀b∈ch,(b∈X.ex\/X.s₀.heap.objs.size<=b)/\b≠X.env.locals/\(∀x c,X.env.cells.lookup x=some c->c≠b)/\∀p∈X.pn++Af,p.1≠b) :
  A6 X Af U H' {s with heap:=h',gens:=g',drawn:=d',toks:=t' }:=by
 symm;obtain⟨m,⟨o,es,ep,ho,r⟩,_⟩:=id I.loc;cutsat;obtain⟨sl,hL⟩:=u.any ho I.free λz=>(hch _ z).2.1 rfl
 exact I.step (ch:=ch) hch (λb o hL hb hc e n=>u.keep b o e n (λz=>(A5.mp (I.stkSub b z)).elim hL hb) hc) (λb o _ _ hc e n=>u.any e n hc) (λb o hc e n=>u.free b o e n hc) (λb o hc e=>u.there b o e hc) u.tups u.frzs u.tbls (λm' hm=>by
  obtain ⟨o',es',ep',ho',r'⟩:=hm;rw [ho] at ho';cases ho';exact ⟨_,es',ep',hL,r'⟩) hok hg
theorem A6.turned {t':Nat}{it:Ao}(I:A6 X Af U H s)(k:∀b o,b≠it->s.heap.get? b=some o->h'.get? b=some o)(hn:H it=none)(hL:it≠X.env.locals)
  (h1:it∈X.ex\/X.s₀.heap.objs.size<=it) (h2:∀x c,X.env.cells.lookup x=some c->c≠it) (h3:∀p∈X.pn++Af,p.1≠it):A6 X Af U H {s with heap:=h',toks:=t' }:=by
 have nit:∀b u,H b=some u->b≠it:=λb u e z=>by rw[z,hn]at e;cases e
 refine I.step (g':=s.gens) (d':=s.drawn) (ch:=[it]) (λb hb=>?_) (λb o _ _ hc e _=>k b o (λz=>hc (by simp[z])) e) (λb o _ _ hc e _=>⟨o.slots,k b o (λz=>hc (by simp[z])) e⟩) (λ_ _ _ _ n=>n)
  (λb o hc e=>⟨o,k b o (λz=>hc (by simp[z])) e⟩) (λ_ _ e=>e) (λ_ _ _ e=>e) (λb ps e=>⟨#[],by rw[e];simp⟩) (λm hm=>?_) (λb u e=>?_) I.bare
 .have e:b=it:=by simpa using hb
  subst e;exact⟨h1,hL,h2,h3⟩
 .obtain⟨o,es,ep,ho,r⟩:=hm;exact⟨o,es,ep,k _ o (Bm hL) ho,r⟩
 .refine(I.hok b u e).stay (λc v hc q=>k c v ?_ q) (λ_ q=>q) λ_ _ q=>q;rcases hc with z|z
  .rw[z];exact nit b u e
  .exact nit c _ z
theorem A6.tok (I:A6 X Af U H s)(t:Nat):A6 X Af U H {s with toks:=t}:=I.un (h':=s.heap) (t':=t) Un.refl I.hok
theorem A6.kept {t':Nat}(I:A6 X Af U H s)(k:∀b u,s.heap.get? b=some u->h'.get? b=some u):A6 X Af U H {s with heap:=h',toks:=t' }:=I.un (Un.kept k) (I.hok.kept k)
theorem A6.laid {a:Ao}{o:HO}{t':Nat}(I:A6 X Af U H s)(k:∀b u,s.heap.get? b=some u->h'.get? b=some u)(hp:s.heap.objs.size<=a)(new:CZ X.prog X.w (CF H a o) h' a o) :
  A6 X Af U (CF H a o) {s with heap:=h',toks:=t' }:=I.un (Un.laid k hp (I.hok.fresh hp)) (I.hok.laid k hp new)
theorem A6.write {x e:Ao}{o:HO}{t':Nat}(I:A6 X Af U H s)(mu:YI (H x))(he:e=x\/H e=some (.own x))(k:∀b u,b≠e->s.heap.get? b=some u->h'.get? b=some u)(heo:∃u,h'.get? e=some u)
  (new:CZ X.prog X.w (CF H x o) h' x o):A6 X Af U (CF H x o) {s with heap:=h',toks:=t' }:=I.un (Un.write mu he k heo) (I.hok.write mu he k heo new)
theorem A6.pins_of {pins':List (Ao×Obj)}(I:A6 X Af U H s)(h:∀p∈pins',s.heap.get? p.1=some p.2/\H p.1=none/\p.1≠X.env.locals/\p.1∉X.fs/\∀v,p.2.data≠.cell v):A6 X pins' U H s:=
 ⟨I.ok,I.os,I.bare,I.base,I.loc,I.cell,I.free,I.freeC,λp hp=>(AT.mp hp).elim (λz=>I.pin p (CN _ z)) (h p),I.hok,I.len,I.fzd⟩
theorem sT {N:List Str}(hN:N.Nodup){i j:Nat}{x:Str}(a:N[i]? = some x)(b:N[j]? = some x):i=j:=by
 obtain⟨h1,e1⟩:=Ai.mp a;obtain⟨h2,e2⟩:=Ai.mp b;exact(Jz hN).mp (e1.trans e2.symm)
theorem uY {M:cF}{A:Bq}{E:Ad->Aj->Prop}{i:Nat}{x:Str}{v:V}{u:Ad}{Q:Unit->Aj->Prop}(I:A6 X Af U H s)(hN:X.N.Nodup)(hi:X.N[i]? = some x)(hx:U9 X.env.scope x)(r:RelV v u)
  (h:∀s',A6 X Af (U.set i (some v)) H s'->(∃a,BL a s.heap s'.heap/\(a=X.env.locals\/X.env.cells.lookup x=some a))->Q () s') (hf:X.fn x=true\/X.env.scope.names.lookup x=some .local:=by first | exact .inl rfl | exact .inr rfl | assumption):Av M A (storeName X.env x u) Q E s:=by
 obtain⟨m,hn,hl⟩:=id I.loc;have hcls:(X.env.scope.kind == .class || (X.env.scope.kind == .module && X.env.locals != X.env.globals))=false:=by rw[I.ok.kind];rfl
 have hiσ:i<U.length:=by rw[I.len];exact(Ai.mp hi).1
 have cne:=I.cne
 have tracked:∀{a:Ao} {h':BU},(∃o,s.heap.get? a=some o/\H a=none)->BL a s.heap h'->Iu X.prog X.w H h':=λ{a h'} ha hs b ob e=>by
  obtain⟨_,_,hfree⟩:=ha;refine(I.hok b ob e).stay (λc w' hc q=>(hs.2 c ?_).trans q) (λ_ q=>q) λ_ _ q=>q;rintro rfl;rcases hc with rfl|hc
  .rw[hfree]at e;cases e
  .rw[hfree]at hc;cases hc
 rcases hx with hk|hk
 .refine wpAny_storeName_local hk hn (λh' hn' hs=>?_) hcls;obtain⟨oL,_,_,hoL,_⟩:=id hn;refine h _ ⟨I.ok,I.os,I.bare,⟨λb o e n hb hx=>?_,λb o e n hb hx=>?_,I.base.free,λb o e hx=>?_,I.base.tups,I.base.frzs,I.base.tbls⟩,⟨_,hn',λj y v' e1 e2 e3=>?_⟩,λy c e=>?_,I.free,I.freeC,λp hp=>?_,tracked ⟨oL,hoL,I.free⟩ hs,by simpa using I.len,I.fzd⟩ ⟨_,hs,.inl rfl⟩
  .exact(hs.2 b (A8 (Bo (Ar e) I.ok.above))).trans (I.base.keep b o e n hb hx)
  .obtain⟨sl,e1⟩:=I.base.slot b o e n hb hx;exact⟨sl,(hs.2 b (A8 (Bo (Ar e) I.ok.above))).trans e1⟩
  .obtain⟨o',e1⟩:=I.base.there b o e hx;exact⟨o',(hs.2 b (A8 (Bo (Ar e) I.ok.above))).trans e1⟩
  .by_cases hj:j=i
   .subst hj;rw[hi]at e1;cases e1;rw[Nk hiσ]at e2;cases e2;exact⟨u,r,.inl ⟨hk,by simp⟩⟩
   .rw[OD (Bm hj)]at e2;obtain⟨u',r',q⟩:=hl j y v' e1 e2 e3;refine⟨u',r',?_⟩;rcases q with⟨k,e⟩|⟨k,c,e,z⟩
    .refine .inl ⟨k,?_⟩;have:y≠x:=λe=>hj (sT hN e1 (e ▸ hi));simp[this,e]
    .exact .inr ⟨k,c,e,z.sameBut hs (cne y c e)⟩
  .obtain⟨w',z⟩:=I.cell y c e;exact⟨w',z.sameBut hs (cne y c e)⟩
  .obtain⟨e,n,ne,nf,d⟩:=I.pin p hp;exact⟨(hs.2 p.1 ne).trans e,n,ne,nf,d⟩
 .have hfn:X.fn x=true:=by
   rcases hf with z|z
   .exact z
   .rw[z]at hk;cases hk
  obtain⟨c,hc⟩:=I.ok.has x (.inl hk);obtain⟨w',z⟩:=I.cell x c hc;refine wpAny_storeName_cell I.ok.kind hk hc z (λh' hc' hs=>?_);obtain⟨oc,hoc,hocd⟩:=id z;refine h {s with heap:=h' } ⟨I.ok,I.os,I.bare,⟨λb o e n hb hx=>?_,λb o e n hb hx=>?_,I.base.free,λb o e hx=>?_,I.base.tups,I.base.frzs,I.base.tbls⟩,⟨m,hn.sameBut hs (Bm (cne x c hc)),λj y v' e1 e2 e3=>?_⟩,λy c' e=>?_,I.free,I.freeC,λp hp=>?_,tracked ⟨oc,hoc,I.freeC x c hc⟩ hs,by simpa using I.len,I.fzd⟩ ⟨c,hs,.inr hc⟩
  .exact(hs.2 b (A8 (Bo (Ar e) (I.ok.cab x c hfn hc)))).trans (I.base.keep b o e n hb hx)
  .obtain⟨sl,e1⟩:=I.base.slot b o e n hb hx;exact⟨sl,(hs.2 b (A8 (Bo (Ar e) (I.ok.cab x c hfn hc)))).trans e1⟩
  .obtain⟨o',e1⟩:=I.base.there b o e hx;exact⟨o',(hs.2 b (A8 (Bo (Ar e) (I.ok.cab x c hfn hc)))).trans e1⟩
  .by_cases hj:j=i
   .subst hj;rw[hi]at e1;cases e1;rw[Nk hiσ]at e2;cases e2;exact⟨u,r,.inr ⟨.inl hk,c,hc,hc'⟩⟩
   .rw[OD (Bm hj)]at e2;obtain⟨u',r',q⟩:=hl j y v' e1 e2 e3;refine⟨u',r',?_⟩;rcases q with q|⟨k,c',e,z'⟩
    .exact .inl q
    .refine .inr ⟨k,c',e,z'.sameBut hs ?_⟩;rintro rfl;exact hj (sT hN e1 (I.ok.inj _ _ _ e hc ▸ hi))
  .by_cases hcc:c'=c
   .subst hcc;exact⟨_,hc'⟩
   .obtain⟨w2,z2⟩:=I.cell y c' e;exact⟨w2,z2.sameBut hs hcc⟩
  .obtain⟨e,n,ne,nf,d⟩:=I.pin p hp;refine⟨(hs.2 p.1 ?_).trans e,n,ne,nf,d⟩;intro q;rw[q,hoc]at e;have q':oc=p.2:=Bb e;exact d w' (by rw[<- q'];exact hocd)
theorem tJ {M:cF}{A:Bq}{E:Ad->Aj->Prop}{i:Nat}{x:Str}{v:V}{u:Ad}{Q:Unit->Aj->Prop}(I:A6 X Af U H s)(hN:X.N.Nodup)(hi:X.N[i]? = some x)(hx:U9 X.env.scope x)(r:RelV v u)
  (h:∀s',A6 X Af (U.set i (some v)) H s'->Q () s') (hf:X.fn x=true\/X.env.scope.names.lookup x=some .local:=by first | exact .inl rfl | exact .inr rfl | assumption):Av M A (storeName X.env x u) Q E s:=
 uY I hN hi hx r (λs' I' _=>h s' I') hf
theorem A6.call' {s':Aj}{ch:List Ao}(I:A6 X Af U H s)(ho:s'.os=s.os)(u:Un (PX X.stack) ch H H' s.heap s'.heap)(hok:Iu X.prog X.w H' s'.heap)(hg:IE s'.gens)
  (hch:∀b∈ch,(b∈X.ex\/X.s₀.heap.objs.size<=b)/\b≠X.env.locals/\(∀x c,X.env.cells.lookup x=some c->c≠b)/\∀p∈X.pn++Af,p.1≠b):A6 X Af U H' s':=by
 obtain⟨h',g',d',t',o'⟩:=s';have e:o'=s.os:=ho;subst e;exact I.call (g':=g') (t':=t') (d':=d') u hok hg hch
end
abbrev XK:=Ad->Option Ao->Hp->Prop
abbrev St:=List (Option V)
abbrev VK:=V->Hp->Prop
abbrev TE:=St->Hp->VK->Prop
abbrev TT:=St->Hp->(Bool->Hp->Prop)->Prop
abbrev TA:=St->Hp->(List V->Hp->Prop)->Prop
structure Ml where
 nx:St->Hp->Prop
 rt:VK
 bk:St->Hp->Prop:=λ_ _=>False
 ct:St->Hp->Prop:=λ_ _=>False
abbrev TS:=Ml->St->Hp->Prop
def EP (X:Cx)(Af:List (Ao×Obj))(U:St)(Q:VK)(u:Ad)(s':Aj):Prop:=∃v H',A6 X Af U H' s'/\RelV v u/\Q v H'
def TP (X:Cx)(Af:List (Ao×Obj))(U:St)(Q:Bool->Hp->Prop)(b:Bool)(s':Aj):Prop:=∃H',A6 X Af U H' s'/\Q b H'
def AP (X:Cx)(Af:List (Ao×Obj))(U:St)(Q:List V->Hp->Prop)(us:List Ad)(s':Aj):Prop:=∃vs H',A6 X Af U H' s'/\BJ vs us/\Q vs H'
theorem EP.el {X:Cx}{Af:List (Ao×Obj)}{U:St}{Q:VK}{u:Ad}{s:Aj}{G:Prop}:EP X Af U Q u s->(∀v H,A6 X Af U H s->RelV v u->Q v H->G)->G:=λ⟨v,H,i,r,q⟩ k=>k v H i r q
theorem AP.el {X:Cx}{Af:List (Ao×Obj)}{U:St}{Q:List V->Hp->Prop}{u:List Ad}{s:Aj}{G:Prop}:AP X Af U Q u s->(∀v H,A6 X Af U H s->BJ v u->Q v H->G)->G:=λ⟨v,H,i,r,q⟩ k=>k v H i r q
theorem TP.el {X:Cx}{Af:List (Ao×Obj)}{U:St}{Q:Bool->Hp->Prop}{u:Bool}{s:Aj}{G:Prop}:TP X Af U Q u s->(∀H,A6 X Af U H s->Q u H->G)->G:=λ⟨H,i,q⟩ k=>k H i q
def SP (X:Cx)(Af:List (Ao×Obj))(D:Ml)(f:Flow)(s':Aj):Prop:=
 match f with
 |.next=>∃U' H',A6 X Af U' H' s'/\D.nx U' H'
 |.brk=>∃U' H',A6 X Af U' H' s'/\D.bk U' H'
 |.cont=>∃U' H',A6 X Af U' H' s'/\D.ct U' H'
 |.ret u=>∃v U' H',A6 X Af U' H' s'/\RelV v u/\D.rt v H'
def PE (X:Cx)(e:Bv)(t:TE):Prop:=
 ∀(Af:List (Ao×Obj)) (s:Aj) (U:St) (H:Hp) (Q:VK),A6 X Af U H s->t U H Q->Av (AA X.prog X.w) X.A (eval e X.env) (EP X Af U Q) X.xe s
def PT (X:Cx)(e:Bv)(t:TT):Prop:=
 ∀(Af:List (Ao×Obj)) (s:Aj) (U:St) (H:Hp) (Q:Bool->Hp->Prop),A6 X Af U H s->t U H Q->Av (AA X.prog X.w) X.A (Qe e X.env (eval e X.env)) (TP X Af U Q) X.xe s
def PW (X:Cx)(e:Bv)(t:TT):Prop:=
 ∀(whole:Sem Ad) (Af:List (Ao×Obj)) (s:Aj) (U:St) (H:Hp) (Q:Bool->Hp->Prop),A6 X Af U H s->t U H Q->Av (AA X.prog X.w) X.A (Qe e X.env whole) (TP X Af U Q) X.xe s
theorem PW.pt {X:Cx}{e:Bv}{t:TT}(h:PW X e t):PT X e t:=h _
def PA (X:Cx)(es:List Bv)(t:TA):Prop:=
 ∀(pos:Pos) (Af:List (Ao×Obj)) (s:Aj) (U:St) (H:Hp) (Q:List V->Hp->Prop),A6 X Af U H s->t U H Q->Av (AA X.prog X.w) X.A (Vh (Cg pos (Au es X.env))) (AP X Af U Q) X.xe s
def PS (X:Cx)(st:A4)(t:TS):Prop:=
 ∀(Af:List (Ao×Obj)) (s:Aj) (U:St) (H:Hp) (D:Ml),A6 X Af U H s->t D U H->Av (AA X.prog X.w) X.A (exec st X.env) (SP X Af D) X.xe s
def K3 (X:Cx)(st:List A4)(t:TS):Prop:=
 ∀(Af:List (Ao×Obj)) (s:Aj) (U:St) (H:Hp) (D:Ml),A6 X Af U H s->t D U H->Av (AA X.prog X.w) X.A (execs st X.env) (SP X Af D) X.xe s
theorem Dv {α:Type}{t:Sem α}{Q Q':α->Aj->Prop}{M:cF}{A:Bq}{E:Ad->Aj->Prop}{s:Aj}(h:Av M A t Q E s)(hQ:∀a s,Q a s->Q' a s):Av M A t Q' E s:=BO h hQ λ_ _ x=>x
section
variable {X:Cx}
theorem bin {a b:Bv}{ta tb:TE}(ha:PE X a ta)(hb:PE X b tb){Af:List (Ao×Obj)}{s:Aj}{U:St}{H:Hp}{R:V->V->Hp->Prop}(I:A6 X Af U H s)(h:ta U H λx H1=>tb U H1 λy H2=>R x y H2)
  {α:Type} {Q:α->Aj->Prop} {f:Ad->Ad->Sem α}
  (hf:∀v u s2 x y H2,A6 X Af U H2 s2->RelV x v->RelV y u->R x y H2->Av (AA X.prog X.w) X.A (f v u) Q X.xe s2) :
  Av (AA X.prog X.w) X.A (eval a X.env) (λv s₁=>Av (AA X.prog X.w) X.A (eval b X.env) (λu s₂=>Av (AA X.prog X.w) X.A (f v u) Q X.xe s₂) X.xe s₁) X.xe s:=by
 refine Dv (ha Af s U H _ I h) λv s1 e=>e.el λx H1 I1 r1 q1=>?_;refine Dv (hb Af s1 U H1 _ I1 q1) λu s2 e=>e.el λy H2 I2 r2 q2=>?_;exact hf v u s2 x y H2 I2 r1 r2 q2
def RW (i:Nat):TE:=λU H Q=>∃v,U[i]? = some (some v)/\Q v H
def tC (v:V):TE:=λ_ H Q=>Q v H
theorem pC {i:Nat}{x:Str}{pos:Pos}(hN:X.N[i]? = some x)(hv:YD X.env.scope x)(hd:(x == ("__debug__":Str))=false:=by decide)(hcd:(x == ("__classdict__":Str))=false:=by decide):PE X (.Name x pos) (RW i):=by
 intro Af s U H Q I h;obtain⟨v,e,h⟩:=h;obtain⟨m,hn,hl⟩:=I.loc;obtain⟨u,r,l⟩:=hl i x v hN e hv;have fin:EP X Af U Q u s:=⟨v,H,I,r,h⟩;rcases l with⟨hk,hm⟩|⟨hk,c,hc,hcell⟩
 .exact TL (wpAny_loadName_local I.ok.kind hk hn hm fin) hd
 .rcases hk with hk|hk
  .exact TL (wpAny_loadName_cell I.ok.kind hk hc hcell fin) hd
  .exact TL (wpAny_loadName_free I.ok.kind hk hc hcell fin hcd) hd
theorem p7 {i j pos}:PE X (.Constant (.int i) j pos) (tC (.int i)):=λ_ _ _ H _ I h=>wpAny_Constant_int ⟨.int i,H,I.tok _,⟨_,rfl⟩,h⟩
theorem kx {b j pos}:PE X (.Constant (.bool b) j pos) (tC (.bl b)):=λ_ _ _ H _ I h=>Constant_bool ⟨.bl b,H,I,rfl,h⟩
theorem p8 {j pos}:PE X (.Constant .none j pos) (tC .non):=λ_ _ _ H _ I h=>Constant_none ⟨.non,H,I,rfl,h⟩
theorem qa {x j pos}:PE X (.Constant (.str x) j pos) (tC (.str x)):=λ_ _ _ H _ I h=>Calls.Constant_str ⟨.str x,H,I.tok _,⟨_,rfl⟩,h⟩
def Gl (X:Cx)(x:Str):Prop:=X.env.kindOf x=some .globalImplicit
theorem jB {E:Ad->Aj->Prop}{Af:List (Ao×Obj)}{s:Aj}{U:St}{H:Hp}{x:Str}{u:Ad}{pos:Pos}{Q:Ad->Aj->Prop}(I:A6 X Af U H s)(hg:Gl X x)(hm:X.mg x=some u)(h:Q u s)
  (hd:(x == ("__debug__":Str))=false:=by decide):Av (AA X.prog X.w) X.A (eval (.Name x pos) X.env) Q E s:=
 Lk I.ok.kind hg (Calls.loadGlobal_global (by rw[I.ok.glob];exact I.mod.glob.keeps I.bk) hm h) hd
theorem PZ {E:Ad->Aj->Prop}{Af:List (Ao×Obj)}{s:Aj}{U:St}{H:Hp}{x:Str}{u:Ad}{pos:Pos}{Q:Ad->Aj->Prop}(I:A6 X Af U H s)(hg:Gl X x)(hm:X.mg x=none)(hv:DK x=some u)(h:Q u s)
  (hn:x≠"__name__":=by decide) (hd:(x == ("__debug__":Str))=false:=by decide):Av (AA X.prog X.w) X.A (eval (.Name x pos) X.env) Q E s:=by
 obtain⟨mb,h1,h2⟩:=I.mod.blt;exact Lk I.ok.kind hg (Calls.loadGlobal_builtin (by rw[I.ok.glob];exact I.mod.glob.keeps I.bk) hm (by rw[I.ok.blt];exact h1.keeps I.bk) ((h2 x hn).trans hv) h) hd
theorem qQ {x:Str}{v:V}{u:Ad}{pos:Pos}(hg:Gl X x)(hm:X.mg x=some u)(r:RelV v u)(hd:(x == ("__debug__":Str))=false:=by decide):PE X (.Name x pos) (tC v):=
 λ_ _ _ H _ I h=>jB I hg hm ⟨v,H,I,r,h⟩ hd
theorem uy {x:Str}{v:V}{u:Ad}{pos:Pos}(hg:Gl X x)(hm:X.mg x=none)(hv:DK x=some u)(r:RelV v u)(hn:x≠"__name__":=by decide)(hd:(x == ("__debug__":Str))=false:=by decide):PE X (.Name x pos) (tC v):=
 λ_ _ _ H _ I h=>PZ I hg hm hv ⟨v,H,I,r,h⟩ hn hd
variable {a b:Bv}{ta tb:TE}{pos:Pos}
def tB (t:TE):TT:=λU H Q=>t U H λx H1=>∃c,x=.bl c/\Q c H1
theorem nh {e:Bv}{t:TE}(h:PE X e t)(he:∀whole,Qe e X.env whole=(do let v <- whole;Nf e.pos;GF [v] (truthy v)):=by intro _;rfl):PT X e (tB t):=by
 intro Af s U H Q I hw;refine isTrue_plain (Dv (h Af s U H _ I hw) λv s1 e=>e.el λx H1 I1 r1 q1=>?_) (he _);obtain⟨d,rfl,q⟩:=q1;cases r1;exact EE ⟨H1,I1,q⟩
variable {tA tB':TT}{Db:List Bv}
def cX (t u:TT):TT:=λU H Q=>t U H λc H1=>if c=true then u U H1 Q else Q false H1
def ie (t u:TT):TT:=λU H Q=>t U H λc H1=>if c=true then Q true H1 else u U H1 Q
def cQ (t:TT):TT:=λU H Q=>t U H λc H1=>Q (!c) H1
theorem xf (ha:PT X a tA):PW X (.BoolOp .And [a] pos) tA:=by
 intro wh Af s U H Q I h;refine isTrue_and (Dv (ha Af s U H Q I h) λc s1 e=>?_);cases c with
 |true=>exact isTrue_and_nil e
 |false=>exact e
theorem nk (ha:PT X a tA):PW X (.BoolOp .Or [a] pos) tA:=by
 intro wh Af s U H Q I h;refine isTrue_or (Dv (ha Af s U H Q I h) λc s1 e=>?_);cases c with
 |false=>exact isTrue_or_nil e
 |true=>exact e
theorem nj (ha:PT X a tA)(hb:PW X (.BoolOp .And (b::Db) pos) tB'):PW X (.BoolOp .And (a::b::Db) pos) (cX tA tB'):=by
 intro wh Af s U H Q I h;refine isTrue_and (Dv (ha Af s U H _ I h) λc s1 e=>e.el λH1 I1 q1=>?_);cases c with
 |true=>exact hb wh Af s1 U H1 Q I1 q1
 |false=>exact⟨H1,I1,q1⟩
theorem lh (ha:PT X a tA)(hb:PW X (.BoolOp .Or (b::Db) pos) tB'):PW X (.BoolOp .Or (a::b::Db) pos) (ie tA tB'):=by
 intro wh Af s U H Q I h;refine isTrue_or (Dv (ha Af s U H _ I h) λc s1 e=>e.el λH1 I1 q1=>?_);cases c with
 |true=>exact⟨H1,I1,q1⟩
 |false=>exact hb wh Af s1 U H1 Q I1 q1
theorem ng (ha:PT X a tA):PT X (.UnaryOp .Not a pos) (cQ tA):=by
 intro Af s U H Q I h;exact isTrue_not (ha Af s U H (λc H1=>Q (!c) H1) I h)
def Xp (ta tb:TE):TE:=λU H Q=>ta U H λx H1=>∃c,x=.bl c/\if c=true then tb U H1 Q else Q (.bl false) H1
def cP (ta tb:TE):TE:=λU H Q=>ta U H λx H1=>∃c,x=.bl c/\if c=true then Q (.bl true) H1 else tb U H1 Q
theorem p9 {op}{t:TE}(h:PE X a t):PE X (.BoolOp op [a] pos) t:=λAf s U H Q I hw=>BoolOp_one (h Af s U H Q I hw)
theorem pq (ha:PE X a ta)(hb:PE X (.BoolOp .And (b::Db) pos) tb):PE X (.BoolOp .And (a::b::Db) pos) (Xp ta tb):=by
 intro Af s U H Q I h;refine BoolOp_and (Dv (ha Af s U H _ I h) λv s1 e=>e.el λx H1 I1 r1 q1=>?_);obtain⟨c,rfl,q1⟩:=q1;cases r1;refine EE ?_;cases c with
 |true=>exact hb Af s1 U H1 Q I1 q1
 |false=>exact⟨.bl false,H1,I1,rfl,q1⟩
theorem k7 (ha:PE X a ta)(hb:PE X (.BoolOp .Or (b::Db) pos) tb):PE X (.BoolOp .Or (a::b::Db) pos) (cP ta tb):=by
 intro Af s U H Q I h;refine BoolOp_or (Dv (ha Af s U H _ I h) λv s1 e=>e.el λx H1 I1 r1 q1=>?_);obtain⟨c,rfl,q1⟩:=q1;cases r1;refine EE ?_;cases c with
 |false=>exact hb Af s1 U H1 Q I1 q1
 |true=>exact⟨.bl true,H1,I1,rfl,q1⟩
def ig (t:TT)(ta tb:TE):TE:=λU H Q=>t U H λc H1=>if c=true then ta U H1 Q else tb U H1 Q
theorem Ε {c:Bv}(hc:PT X c tA)(ha:PE X a ta)(hb:PE X b tb):PE X (.IfExp c a b pos) (ig tA ta tb):=by
 intro Af s U H Q I h;refine wpAny_IfExp (Dv (hc Af s U H _ I h) λd s1 e=>e.el λH1 I1 q1=>?_);cases d with
 |true=>exact ha Af s1 U H1 Q I1 q1
 |false=>exact hb Af s1 U H1 Q I1 q1
end
def FO (K:Ac)(H:Hp)(a:Ao)(xs:List V):Prop:=
 Rd H a (.lst xs) \/
  ∃(o:Obj) (Bn:Array Ad) (n:Nat),K.lookup a=some o/\o.cls=.type "list"/\o.dict=none/\o.data=.seq Bn n/\Bn.size<=An/\BJ xs Bn.toList
def LC (K:Ac)(H:Hp)(a:Ao)(xs:List V):Prop:=
 Rd H a (.tup xs) \/
  ∃(o:Obj) (Bn:Array Ad) (n:Nat),K.lookup a=some o/\o.cls=.type "tuple"/\o.data=.seq Bn n/\Bn.size<=An/\BJ xs Bn.toList
noncomputable def hJ:Ad->Option V
 |.none=>some .non
 |.bool b=>some (.bl b)
 |.int i _=>some (.int i)
 |.str x _=>some (.str x)
 |.bytes b _=>some (.byt b)
 |.float b _=>some (.flt b)
 |.ref a=>some (.ref a)
 |.type n=>some (.ty n)
 |_=>none
theorem RelV.abs {x:V}{u:Ad}(r:RelV x u):hJ u=some x:=by
 cases x with
 |non=>cases r;rfl
 |bl _=>cases r;rfl
 |int _=>obtain⟨t,rfl⟩:=r;rfl
 |str _=>obtain⟨t,rfl⟩:=r;rfl
 |byt _=>obtain⟨t,rfl⟩:=r;rfl
 |flt _=>obtain⟨t,rfl⟩:=r;rfl
 |ref _=>cases r;rfl
 |ty _=>cases r;rfl
theorem RelV.inj {x y:V}{u:Ad}(r:RelV x u)(q:RelV y u):x=y:=Bb (r.abs.symm.trans q.abs)
theorem BJ.inj:∀{xs ys:List V}{us:List Ad},BJ xs us->BJ ys us->xs=ys
 |_,_,_,.nil,.nil=>rfl
 |_,_,_,.cons r t,.cons r' t'=>by rw[r.inj r',BJ.inj t t']
section
variable {X:Cx}{Af:List (Ao×Obj)}{U:St}{H:Hp}{s:Aj}{a:Ao}{xs ys:List V}
theorem FO.of {K:Ac}(h:H a=some (.lst xs)):FO K H a xs:=.inl (.inl h)
theorem A6.list (I:A6 X Af U H s)(h:FO X.K H a xs):∃Bn:List Ad,BJ xs Bn/\PlainL s.heap a Bn.toArray/\xs.length<=An:=by
 rcases h with h|⟨o,Bn,n,hk,hc,hd,hs,hz,r⟩
 .obtain⟨z,Bn,n,r,e⟩:=h.ok I.hok;exact⟨Bn,r,⟨_,n,e,rfl,rfl,rfl⟩,z⟩
 .refine⟨Bn.toList,r,⟨o,n,I.kIn a o hk,hc,hd,by simpa using hs⟩,?_⟩;have e:=r.length;simp only[BH]at e;ext
theorem A6.tuple (I:A6 X Af U H s)(h:LC X.K H a xs):∃Bn:List Ad,BJ xs Bn/\IsTup s.heap a Bn.toArray/\xs.length<=An:=by
 rcases h with h|⟨o,Bn,n,hk,hc,hs,hz,r⟩
 .obtain⟨z,Bn,r,p⟩:=h.ok I.hok;exact⟨Bn,r,p.tup,z⟩
 .refine⟨Bn.toList,r,⟨o,I.kIn a o hk,hc,n,by simpa using hs⟩,?_⟩;have e:=r.length;simp only[BH]at e;ext
theorem A6.list_inj (I:A6 X Af U H s)(h:FO X.K H a xs)(h':FO X.K H a ys):xs=ys:=by
 obtain⟨Bn,r,⟨o,n,e,_,_,d⟩,_⟩:=I.list h;obtain⟨its',r',⟨o',n',e',_,_,d'⟩,_⟩:=I.list h';rw[e]at e';cases e';rw[d]at d';injection d' with d1 _
 have:Bn=its':=by simpa using congrArg T5 d1
 subst this;exact r.inj r'
theorem A6.tuple_inj (I:A6 X Af U H s)(h:LC X.K H a xs)(h':LC X.K H a ys):xs=ys:=by
 obtain⟨Bn,r,⟨o,e,_,n,d⟩,_⟩:=I.tuple h;obtain⟨its',r',⟨o',e',_,n',d'⟩,_⟩:=I.tuple h';rw[e]at e';cases e';rw[d]at d';injection d' with d1 _
 have:Bn=its':=by simpa using congrArg T5 d1
 subst this;exact r.inj r'
end
noncomputable abbrev Cx.wish (X:Cx)(E:Ad->Aj->Prop):Cx:={X with xe:=E}
noncomputable abbrev Cx.nox (X:Cx):Cx:=X.wish λ_ _=>False
theorem Cx.Ok.wish {X:Cx}(ok:X.Ok)(E:Ad->Aj->Prop):(X.wish E).Ok:=
 ⟨ok.mod,ok.kind,ok.glob,ok.blt,ok.above,ok.inj,ok.has,ok.cab,ok.hd,ok.frames,ok.stk,ok.exf,ok.bs,ok.bsz,ok.noex,ok.exfs,ok.funs,ok.frf⟩
theorem Cx.Ok.unwish {X:Cx}{E:Ad->Aj->Prop}(ok:(X.wish E).Ok):X.Ok:=
 ⟨ok.mod,ok.kind,ok.glob,ok.blt,ok.above,ok.inj,ok.has,ok.cab,ok.hd,ok.frames,ok.stk,ok.exf,ok.bs,ok.bsz,ok.noex,ok.exfs,ok.funs,ok.frf⟩
section
variable {X:Cx}{Af:List (Ao×Obj)}{U:St}{H:Hp}{s:Aj}{E:Ad->Aj->Prop}
theorem A6.wish (I:A6 X Af U H s)(E:Ad->Aj->Prop):A6 (X.wish E) Af U H s:=⟨I.ok.wish E,I.os,I.bare,I.base,I.loc,I.cell,I.free,I.freeC,I.pin,I.hok,I.len,I.fzd⟩
theorem A6.unwish (I:A6 (X.wish E) Af U H s):A6 X Af U H s:=⟨I.ok.unwish,I.os,I.bare,I.base,I.loc,I.cell,I.free,I.freeC,I.pin,I.hok,I.len,I.fzd⟩
theorem SP.unwish {D:Ml}{f:Flow}{s':Aj}(h:SP (X.wish E) Af D f s'):SP X Af D f s':=by
 cases f with
 |next=>obtain⟨U',H',I,q⟩:=h;exact⟨U',H',I.unwish,q⟩
 |brk=>obtain⟨U',H',I,q⟩:=h;exact⟨U',H',I.unwish,q⟩
 |cont=>obtain⟨U',H',I,q⟩:=h;exact⟨U',H',I.unwish,q⟩
 |ret u=>obtain⟨v,U',H',I,r,q⟩:=h;exact⟨v,U',H',I.unwish,r,q⟩
theorem K3.nox {st:List A4}{t:TS}(h:K3 X.nox st t):K3 X st t:=λAf s U H D I hw=>
 BO (h Af s U H D (I.wish _) hw) (λ_ _ q=>q.unwish) λ_ _ z=>C9 z
end
section
variable {X:Cx}{st:A4}{Db:List A4}{t u:TS}{e:Bv}{te:TE}{pos:Pos}
def Xi:TS:=λD U H=>D.nx U H
def cM (t u:TS):TS:=λD U H=>t {D with nx:=u D} U H
theorem ww:K3 X [] Xi:=λ_ _ U H _ I h=>IS ⟨U,H,I,h⟩
theorem sX (h1:PS X st t)(h2:K3 X Db u):K3 X (st::Db) (cM t u):=by
 intro Af s U H D I h;refine Wp (Dv (h1 Af s U H {D with nx:=u D} I h) λf s1 q=>?_);cases f with
 |next=>obtain⟨U',H',I',q⟩:=q;exact h2 Af s1 U' H' D I' q
 |ret v=>exact q
 |brk=>exact q
 |cont=>exact q
theorem xa (h1:PS X st t):K3 X [st] t:=by
 intro Af s U H D I h;refine Wp (Dv (h1 Af s U H D I h) λf s1 q=>?_);cases f with
 |next=>exact IS q
 |ret v=>exact q
 |brk=>exact q
 |cont=>exact q
theorem A6.quiet {Af:List (Ao×Obj)}{U:St}{H:Hp}{s:Aj}(I:A6 X Af U H s):interactive X.env=false:=by simp[interactive,I.ok.kind]
def Xl (te:TE):TS:=λD U H=>te U H λ_ H1=>D.nx U H1
theorem wv (he:PE X e te)(hs:D4 e none pos.line X.env=pure false:=by rfl):PS X (.Expr e pos) (Xl te):=by
 intro Af s U H D I h;exact wpAny_Expr_any (Dv (he Af s U H _ I h) λv s1 e=>e.el λx H1 I1 r1 q1=>⟨U,H1,I1,q1⟩) I.quiet hs
def cN (te:TE):TS:=λD U H=>te U H D.rt
theorem m9 (he:PE X e te):PS X (.Return (some e) pos) (cN te):=by
 intro Af s U H D I h;exact wpAny_Return_some (Dv (he Af s U H _ I h) λv s1 e=>e.el λx H1 I1 r1 q1=>⟨x,U,H1,I1,r1,q1⟩)
def cS (c:TT)(t u:TS):TS:=λD U H=>c U H λb H1=>if b=true then t D U H1 else u D U H1
theorem lg {c:Bv}{a b:List A4}{tc:TT}(hc:PT X c tc)(ha:K3 X a t)(hb:K3 X b u):PS X (.If c a b pos) (cS tc t u):=by
 intro Af s U H D I h;refine wpAny_If (Dv (hc Af s U H _ I h) λd s1 e=>e.el λH1 I1 q1=>?_);cases d with
 |true=>exact ha Af s1 U H1 D I1 q1
 |false=>exact hb Af s1 U H1 D I1 q1
end
abbrev TG:=V->St->Hp->(St->Hp->Prop)->Prop
abbrev TC:=List V->St->Hp->(St->Hp->Prop)->Prop
def PG (X:Cx)(target:Bv)(t:TG):Prop:=
 ∀(Af:List (Ao×Obj)) (s:Aj) (U:St) (H:Hp) (v:V) (u:Ad) (Q:St->Hp->Prop),A6 X Af U H s->RelV v u->t v U H Q ->
  Av (AA X.prog X.w) X.A (LP target X.env u) (λ_ s'=>∃U' H',A6 X Af U' H' s'/\Q U' H') X.xe s
def TF (X:Cx)(ts:List Bv)(t:TC):Prop:=
 ∀(Af:List (Ao×Obj)) (s:Aj) (U:St) (H:Hp) (vs:List V) (us:List Ad) (Q:St->Hp->Prop),A6 X Af U H s->BJ vs us->t vs U H Q ->
  Av (AA X.prog X.w) X.A (assignInOrder ((CW ts X.env).map (·.2)) us) (λ_ s'=>∃U' H',A6 X Af U' H' s'/\Q U' H') X.xe s
section
variable {X:Cx}{pos:Pos}
def KI (i:Nat):TG:=λv U H Q=>Q (U.set i (some v)) H
theorem Md {i:Nat}{x:Str}(hN:X.N.Nodup)(hi:X.N[i]? = some x)(hx:U9 X.env.scope x)(hf:X.fn x=true\/X.env.scope.names.lookup x=some .local:=by first | exact .inl rfl | exact .inr rfl | assumption):PG X (.Name x pos) (KI i):=by
 intro Af s U H v u Q I r h;exact Vf (tJ I hN hi hx r (λs' I'=>⟨_,H,I',h⟩) hf)
def XY:TC:=λvs U H Q=>vs=[]/\Q U H
def To (t:TG)(u:TC):TC:=λvs U H Q=>∃v r,vs=v::r/\t v U H λU' H'=>u r U' H' Q
theorem UN:TF X [] XY:=by
 intro Af s U H vs us Q I r h;obtain⟨e,h⟩:=h;subst e;cases r;exact assignInOrder_nil ⟨U,H,I,h⟩
theorem Nc {e:Bv}{es:List Bv}{t:TG}{u:TC}(h1:PG X e t)(h2:TF X es u)
  (hs:(CW (e::es) X.env).map (·.2)=LP e X.env::(CW es X.env).map (·.2):=by rfl):TF X (e::es) (To t u):=by
 intro Af s U H vs us Q I r h;obtain⟨v,vr,e1,h⟩:=h;subst e1;cases r with
 |cons r rr=>rw[hs];refine assignInOrder_cons (Dv (h1 Af s U H _ _ _ I r h) λ_ s1 ⟨U1,H1,I1,q1⟩=>?_);exact h2 Af s1 U1 H1 _ _ Q I1 rr q1
def QH (K:Ac)(n:Nat)(t:TC):TG:=λv U H Q=>∃a xs,v=.ref a/\LC K H a xs/\xs.length=n/\t xs U H Q
theorem pE {es:List Bv}{k:Nat}{t:TC}{n:Nat}(hc:X.calm=true)(h:TF X es t)
  (hn:(CW es X.env).length=n:=by rfl) (hst:(CW es X.env).findIdx? (·.1)=none:=by rfl):PG X (.Tuple es k pos) (QH X.K n t):=by
 intro Af s U H v u Q I r hw;obtain⟨a,xs,e1,hq,hl,hw⟩:=hw;subst e1;cases r;obtain⟨Bn,rv,ht,hz⟩:=I.tuple hq;refine assign_Tuple_tuple (I.ok.hd hc) ht (by simp[hn,<- hl,rv.length]) hst λh' hx=>?_;have I1:A6 X Af U H {s with heap:=h' }:=I.kept (t':=s.toks) λb o e=>hx b o (A8 (Ar e)) e;exact h Af _ U H xs _ Q I1 (by simpa using rv) hw
def O4 (te:TE)(g:TG):TS:=λD U H=>te U H λx H1=>g x U H1 D.nx
theorem m6 {tg e:Bv}{te:TE}{g:TG}(he:PE X e te)(hg:PG X tg g)(hs:swapsWithSole [tg] e pos.line X.env=pure false:=by rfl)(hw:swappedStores [tg] e X.env=pure none:=by rfl)
  (h1:(CW [tg] X.env).map (·.2)=[LP tg X.env]:=by rfl):PS X (.Assign [tg] e pos) (O4 te g):=by
 intro Af s U H D I h;refine wpAny_Assign_stores (Dv (he Af s U H _ I h) λv s1 e=>e.el λx H1 I1 r1 q1=>?_) hs hw;rw[h1];exact Dv (hg Af s1 U H1 x v _ I1 r1 q1) λ_ s2 q=>q
theorem nc {i:Nat}{x:Str}{e:Bv}{te:TE}{pos':Pos}(hN:X.N.Nodup)(hi:X.N[i]? = some x)(hx:U9 X.env.scope x)(he:PE X e te)(hs:D4 e (some (.Name x pos')) pos.line X.env=pure false:=by rfl)(hf:X.fn x=true\/X.env.scope.names.lookup x=some .local:=by first | exact .inl rfl | exact .inr rfl | assumption) :
  PS X (.Assign [.Name x pos'] e pos) (O4 te (KI i)):=by
 intro Af s U H D I h;refine wpAny_Assign_Name (Dv (he Af s U H _ I h) λv s1 e=>e.el λy H1 I1 r1 q1=>?_) hs;exact tJ I1 hN hi hx r1 (λs2 I2=>⟨_,H1,I2,q1⟩) hf
end
section
variable {X:Cx}{pos:Pos}
def Ub (c:TT)(tb:TS):TS:=λD U H=>∃W:Nat->St->Hp->Prop,(∃m,W m U H)/\∀m U H,W m U H ->
 c U H λb H1=>if b=true then∃N:St->Hp->Prop,(∀U' H',N U' H'->∃m',m' < m/\W m' U' H')/\tb {D with nx:=N,ct:=N,bk:=D.nx} U H1 else D.nx U H1
theorem Ι {c:Bv}{body:List A4}{tc:TT}{tb:TS}(hp:Px (AA X.prog X.w) X.A X.env X.xe)(hc:PT X c tc)(hb:K3 X body tb):PS X (.While c body [] pos) (Ub tc tb):=by
 intro Af s U H D I h;obtain⟨W,⟨m0,w0⟩,turn⟩:=h;refine wpAny_While (codeAny_whileLoop (λn s'=>∃U' H',A6 X Af U' H' s'/\W n U' H') ?_ m0 ⟨U,H,I,w0⟩);rintro n s1 ⟨U1,H1,I1,w1⟩;refine Es hp (Dv (hc Af s1 U1 H1 _ I1 (turn n U1 H1 w1)) λb s2 e=>e.el λH2 I2 q2=>?_);cases b with
 |true=>
  obtain⟨N,hN,q2⟩:=q2;rw[if_pos rfl];refine Es hp (Dv (hb Af s2 U1 H2 _ I2 q2) λf s3 q3=>?_);cases f with
  |next=>obtain⟨U3,H3,I3,n3⟩:=q3;obtain⟨m',hm,w3⟩:=hN U3 H3 n3;exact⟨m',hm,U3,H3,I3,w3⟩
  |cont=>obtain⟨U3,H3,I3,n3⟩:=q3;obtain⟨m',hm,w3⟩:=hN U3 H3 n3;exact⟨m',hm,U3,H3,I3,w3⟩
  |brk=>exact q3
  |ret v=>exact q3
 |false=>rw[if_neg Am];exact IS ⟨U1,H2,I2,q2⟩
end
structure It where
 go:Nat->Hp->Prop
 yld:Nat->Hp->V->Hp->Prop
 stop:Nat->Hp->Prop
def Jq (X:Cx)(Af:List (Ao×Obj))(H:Hp)(b:Ao):Prop:=
 H b=none/\b≠X.env.locals/\b∉X.fs/\(b∈X.ex\/X.s₀.heap.objs.size<=b)/\(∀x c,X.env.cells.lookup x=some c->c≠b)/\∀p∈X.pn++Af,p.1≠b
theorem A6.fpOk {X:Cx}{Af:List (Ao×Obj)}{U:St}{H H':Hp}{s:Aj}{b:Ao}(I:A6 X Af U H s)(hb:s.heap.objs.size<=b)(hn:H' b=none):Jq X Af H' b:=by
 refine⟨hn,E8 (Bo I.lt hb),I.nofs hb,.inr (A3 I.sz hb),λx c e z=>?_,λp hp z=>?_⟩
 .obtain⟨v,q⟩:=I.cell x c e;exact absurd (Bo q.lt (by rw[z];exact hb)) (EX _)
 .exact absurd (Bo (Ar (I.pin p hp).1) (by rw[z];exact hb)) (EX _)
structure Mg (P:AX)(w:Bj)(K:Ac)(F:List (Ao×Obj×HO))(tg:Bv)(J:It)(fp:List Ao)(it:Ao)(tn:Nat->BU->Prop):Prop where
 mem:it∈fp
 obj:∀i h,tn i h->∀b∈fp,∃o,h.get? b=some o/\∀v,o.data≠.cell v
 keep:∀i h h',tn i h->(∀b∈fp,∀o,h.get? b=some o->h'.get? b=some o)->tn i h'
 item:∀(X:Cx),X.prog=P->X.w=w->X.K=K->X.fz=F->X.calm=true->∀(i:Nat) (Af:List (Ao×Obj)) (s:Aj) (U:St) (H:Hp) (E:Ad->Aj->Prop),A6 X Af U H s->(∀b∈fp,Jq X Af H b)->tn i s.heap->J.go i H ->
  Av (AA P w) X.A (Iy (.ref it)) (λr s1=>∃ u,r=some u /\
   Av (AA P w) X.A (IU tg (.ref it) u) (λ_ s2=>∃ x H',A6 X Af U H' s2/\RelV x u/\J.yld i H x H'/\tn (i+1) s2.heap/\∀ b∈fp,H' b=none) E s1) E s
 done:∀(X:Cx),X.prog=P->X.w=w->X.K=K->X.fz=F->X.calm=true->∀(i:Nat) (Af:List (Ao×Obj)) (s:Aj) (U:St) (H:Hp) (E:Ad->Aj->Prop),A6 X Af U H s->(∀b∈fp,Jq X Af H b)->tn i s.heap->J.stop i H ->
  Av (AA P w) X.A (Iy (.ref it)) (λr s1=>r=none/\A6 X Af U H s1) E s
 self:∀(A:Bq) (i:Nat) (s:Aj) (Q:Ad->Aj->Prop) (E:Ad->Aj->Prop),tn i s.heap->Q (.ref it) s->Av (AA P w) A (TR (.ref it)) Q E s
abbrev TI:=St->Hp->(It->Hp->Prop)->Prop
def YH (X:Cx)(Af:List (Ao×Obj))(U:St)(tg:Bv)(R:It->Hp->Prop)(itv:Ad)(s2:Aj):Prop:=
 ∃(it:Ao) (fp:List Ao) (tn:Nat->BU->Prop) (J:It) (H':Hp),itv=.ref it/\A6 X Af U H' s2/\Mg X.prog X.w X.K X.fz tg J fp it tn/\tn 0 s2.heap/\(∀b∈fp,Jq X Af H' b)/\R J H'
def PI (X:Cx)(tg iter:Bv)(wi:TI):Prop:=
 ∀(Af:List (Ao×Obj)) (s:Aj) (U:St) (H:Hp) (R:It->Hp->Prop),A6 X Af U H s->wi U H R ->
  Av (AA X.prog X.w) X.A (eval iter X.env) (λv s1=>Av (AA X.prog X.w) X.A (TR v) (YH X Af U tg R) X.xe s1) X.xe s
theorem VP {M:cF}{A:Bq}{E:Ad->Aj->Prop}{s:Aj}{tg:Bv}{it:Ao}{u:Ad}{o:Obj}{n:String}{vs:Array Ad}{Q:Unit->Aj->Prop}(ho:s.heap.get? it=some o)(hc:o.cls=.type n)(hd:o.data=.fields vs)
    (hn:["enumerate", "zip", "dict_itemiterator", "dict_reverseitemiterator", "odict_iterator", "itertools.zip_longest", "itertools.pairwise"].contains n=false) (hQ:Q () s):Av M A (IU tg (.ref it) u) Q E s:=by
  unfold IU
  cases tg<;>first
    |exact Ae hQ
    | (cases u<;>first
        |exact Ae hQ
        | (refine Aa (wpAny_load ho ?_)
           rw [hc,hd];show Av M A (if (["enumerate", "zip", "dict_itemiterator", "dict_reverseitemiterator", "odict_iterator", "itertools.zip_longest", "itertools.pairwise"].contains n && vs[0]? == some (LJ _))=true then _ else _) Q E s;rw [if_neg (by intro h;rw [hn,Fd] at h;cases h)];exact Ae hQ))
noncomputable def gy (K:Ac)(a:Ao):It:=
 ⟨λi H=>∃xs x,FO K H a xs/\xs[i]? = some x,λi H x H'=>H'=H/\∀xs,FO K H a xs->xs[i]? = some x,λi H=>∃xs,FO K H a xs/\xs.length<=i⟩
noncomputable def gu (K:Ac)(a:Ao):It:=
 ⟨λi H=>∃xs x,LC K H a xs/\xs[i]? = some x,λi H x H'=>H'=H/\∀xs,LC K H a xs->xs[i]? = some x,λi H=>∃xs,LC K H a xs/\xs.length<=i⟩
noncomputable def bR (lo:Int)(n:Nat):It:=⟨λi _=>i<n,λi H x H'=>H'=H/\x=.int (lo+i),λi _=>n<=i⟩
theorem Znh {P:AX}{w:Bj}{K:Ac}{F:List (Ao×Obj×HO)}{tg:Bv}(a it:Ao):Mg P w K F tg (gy K a) [it] it (λi h=>h.IsListIter it a i) where
 mem:=by simp
 obj:=λi h st b hb=>by
  have e:b=it:=by simpa using hb
  subst e;obtain⟨o,e,c,d⟩:=st;exact⟨o,e,λv z=>by rw[d]at z;cases z⟩
 keep:=λi h h' st k=>st.at λo e=>k it (by simp) o e
 item:=by
  intro X hP hw hK hF hc i Af s U H E I hf st hg;subst hP hw hK;obtain⟨xs,x,hq,hx⟩:=hg;obtain⟨Bn,rv,p,hz⟩:=I.list hq;obtain⟨u,hu,ru⟩:=rv.get hx;obtain⟨f0,f1,f2,f3,f4,f5⟩:=hf it (by simp);refine P6 st p.isList (x:=u) (by simpa using hu) λh' st' sb=>?_;have I1:A6 X Af U H {s with heap:=h' }:=I.turned (t':=s.toks) (λb o hb e=>(sb.2 b hb).trans e) f0 f1 f3 f4 f5;obtain⟨o,e,c,d⟩:=id st';exact⟨u,rfl,VP (s:={s with heap:=h' }) e c d (by decide) ⟨x,H,I1,ru,⟨rfl,λys hy=>by rw[I.list_inj hy hq];exact hx⟩,st',λb hb=>(hf b hb).1⟩⟩
 done:=by
  intro X hP hw hK hF hc i Af s U H E I hf st hg;subst hP hw hK;obtain⟨xs,hq,hx⟩:=hg;obtain⟨Bn,rv,p,hz⟩:=I.list hq;obtain⟨f0,f1,f2,f3,f4,f5⟩:=hf it (by simp);have hl:=rv.length;exact Q7 (I.ok.hd hc) st p.isList (by simp;ext) λh' eb=>⟨rfl,I.turned (t':=s.toks) (λb o hb e=>eb b o hb e) f0 f1 f3 f4 f5⟩
 self:=λ_ _ _ _ _ st h=>wpAny_pyIter_listiter st h
theorem Zmq {P:AX}{w:Bj}{K:Ac}{F:List (Ao×Obj×HO)}{tg:Bv}(a it:Ao):Mg P w K F tg (gu K a) [it] it (λi h=>h.IsTupleIter it a i) where
 mem:=by simp
 obj:=λi h st b hb=>by
  have e:b=it:=by simpa using hb
  subst e;obtain⟨o,e,c,d⟩:=st;exact⟨o,e,λv z=>by rw[d]at z;cases z⟩
 keep:=λi h h' st k=>st.at λo e=>k it (by simp) o e
 item:=by
  intro X hP hw hK hF hc i Af s U H E I hf st hg;subst hP hw hK;obtain⟨xs,x,hq,hx⟩:=hg;obtain⟨Bn,rv,p,hz⟩:=I.tuple hq;obtain⟨u,hu,ru⟩:=rv.get hx;obtain⟨f0,f1,f2,f3,f4,f5⟩:=hf it (by simp);refine wpAny_pyNext_tuple_item st (show s.heap.IsTuple a Bn.toArray from p) (x:=u) (by simpa using hu) λh' st' sb=>?_;have I1:A6 X Af U H {s with heap:=h' }:=I.turned (t':=s.toks) (λb o hb e=>(sb.2 b hb).trans e) f0 f1 f3 f4 f5;obtain⟨o,e,c,d⟩:=id st';exact⟨u,rfl,VP (s:={s with heap:=h' }) e c d (by decide) ⟨x,H,I1,ru,⟨rfl,λys hy=>by rw[I.tuple_inj hy hq];exact hx⟩,st',λb hb=>(hf b hb).1⟩⟩
 done:=by
  intro X hP hw hK hF hc i Af s U H E I hf st hg;subst hP hw hK;obtain⟨xs,hq,hx⟩:=hg;obtain⟨Bn,rv,p,hz⟩:=I.tuple hq;obtain⟨f0,f1,f2,f3,f4,f5⟩:=hf it (by simp);have hl:=rv.length;exact wpAny_pyNext_tuple_end (I.ok.hd hc) st (show s.heap.IsTuple a Bn.toArray from p) (by simp;ext) λh' eb=>⟨rfl,I.turned (t':=s.toks) (λb o hb e=>eb b o hb e) f0 f1 f3 f4 f5⟩
 self:=λ_ _ _ _ _ st h=>wpAny_pyIter_tupleiter st h
theorem Zmr {P:AX}{w:Bj}{K:Ac}{F:List (Ao×Obj×HO)}{tg:Bv}(it:Ao)(lo:Int)(n:Nat):Mg P w K F tg (bR lo n) [it] it (λi h=>MA h it (lo+(i:Nat)*1) ((n:Int)-(i:Nat)) 1) where
 mem:=by simp
 obj:=λi h st b hb=>by
  have e:b=it:=by simpa using hb
  subst e
  exact ⟨_,st,λv z=>by
   have z':Ku _=Data.cell v:=z;cases z'⟩
 keep:=λi h h' st k=>k it (by simp) _ st
 item:=by
  intro X hP hw hK hF hc i Af s U H E I hf st hg;subst hP hw hK;obtain⟨f0,f1,f2,f3,f4,f5⟩:=hf it (by simp);have W:=Vm (prog:=X.prog) (w:=X.w) (I.ok.hd hc) it lo 1 n;refine W.item i s _ _ hg st λv h' tk hv st' kk=>?_;obtain⟨t,rfl⟩:=hv;have I1:A6 X Af U H {s with heap:=h',toks:=tk}:=I.turned (λb o hb e=>kk b o (by simpa using hb) e) f0 f1 f3 f4 f5;refine⟨_,rfl,VP (s:={s with heap:=h',toks:=tk}) (n:="range_iterator") st' rfl rfl (by decide) ⟨.int (lo+i),H,I1,⟨t,?_⟩,⟨rfl,rfl⟩,st',λb hb=>(hf b hb).1⟩⟩;rw[Zg]
 done:=by
  intro X hP hw hK hF hc i Af s U H E I hf st hg;subst hP hw hK;obtain⟨f0,f1,f2,f3,f4,f5⟩:=hf it (by simp);exact P5 (I.ok.hd hc) st (by have:n<=i:=hg;ext) λh' eb=>⟨rfl,I.turned (t':=s.toks) (λb o hb e=>eb b o hb e) f0 f1 f3 f4 f5⟩
 self:=λ_ _ _ _ _ st h=>P7 st h
section
variable {X:Cx}{tg:Bv}
def XV (K:Ac)(tl:TE):TI:=λU H R=>tl U H λx H1=>∃a,x=.ref a/\(∃xs,FO K H1 a xs)/\R (gy K a) H1
def gI (K:Ac)(tl:TE):TI:=λU H R=>tl U H λx H1=>∃a,x=.ref a/\(∃xs,LC K H1 a xs)/\R (gu K a) H1
theorem wj {l:Bv}{tl:TE}(hl:PE X l tl):PI X tg l (XV X.K tl):=by
 intro Af s U H R I h;refine Dv (hl Af s U H _ I h) λv s1 e=>e.el λx H1 I1 r1 q1=>?_;obtain⟨a,e,⟨xs,hq⟩,q⟩:=q1;subst e;cases r1;obtain⟨Bn,rv,p,hz⟩:=I1.list hq;refine Hx p.isList ?_;refine⟨s1.heap.objs.size,[s1.heap.objs.size],_,_,H1,rfl,I1.kept (t':=s1.toks) λb o e=>Ah _ e,Znh a _,⟨_,AB _ rfl,rfl,rfl⟩,λb hb=>?_,q⟩;have e:b=s1.heap.objs.size:=by simpa using hb
 subst e;exact I1.fpOk (AJ _) (I1.hok.fresh (AJ _))
theorem mj {l:Bv}{tl:TE}(hl:PE X l tl):PI X tg l (gI X.K tl):=by
 intro Af s U H R I h;refine Dv (hl Af s U H _ I h) λv s1 e=>e.el λx H1 I1 r1 q1=>?_;obtain⟨a,e,⟨xs,hq⟩,q⟩:=q1;subst e;cases r1;obtain⟨Bn,rv,p,hz⟩:=I1.tuple hq;refine wpAny_pyIter_tuple (show s1.heap.IsTuple a Bn.toArray from p) ?_;refine⟨s1.heap.objs.size,[s1.heap.objs.size],_,_,H1,rfl,I1.kept (t':=s1.toks) λb o e=>Ah _ e,Zmq a _,⟨_,AB _ rfl,rfl,rfl⟩,λb hb=>?_,q⟩;have e:b=s1.heap.objs.size:=by simpa using hb
 subst e;exact I1.fpOk (AJ _) (I1.hok.fresh (AJ _))
theorem Qv {Af:List (Ao×Obj)}{U:St}{H:Hp}{s:Aj}{R:It->Hp->Prop}{E:Ad->Aj->Prop}{lo hi:Int}{t u v:Tok}{tk:Nat}(I:A6 X Af U H s)(h1:-(2^62)<=lo)(h2:lo<2^62)(h3:-(2^62)<=hi)(h4:hi<2^62)
  (q:R (bR lo (hi-lo).toNat) H):Av (AA X.prog X.w) X.A (TR (.ref s.heap.objs.size)) (YH X Af U tg R) E {s with heap:=s.heap.push {cls:=.type "range",data:=.fields #[.int lo t,.int hi u,.int 1 v]},toks:=tk}:=by
 refine TJ (SJ ..) (small_one h1 h2 h3 h4) ?_;have I1:A6 X Af U H {s with heap:=s.heap.push {cls:=.type "range",data:=.fields #[.int lo t,.int hi u,.int 1 v]},toks:=tk}:=I.kept λb o e=>Ah _ e
 refine ⟨(s.heap.push { cls:=.type "range",data:=.fields #[.int lo t,.int hi u,.int 1 v] }).objs.size,[(s.heap.push { cls:=.type "range",data:=.fields #[.int lo t,.int hi u,.int 1 v] }).objs.size],_,_,H,rfl,
  I1.kept (t':=tk) λb o e=>Ah _ e,Zmr _ lo (hi-lo).toNat,?_,λb hb=>?_,q⟩
 .have e1:lo+((0:Nat):Int)*1=lo:=by simp
  have e2:(((hi-lo).toNat:Nat):Int)-((0:Nat):Int)=EA lo hi 1:=by rw[rangeSize_one];split<;>ext
  show MA _ _ (lo+((0:Nat):Int)*1) ((((hi-lo).toNat:Nat):Int)-((0:Nat):Int)) 1;rw[e1,e2];exact AB _ rfl
 .have e:b=(s.heap.push {cls:=.type "range",data:=.fields #[.int lo t,.int hi u,.int 1 v]}).objs.size:=by simpa using hb
  subst e;exact I1.fpOk (AJ _) (I1.hok.fresh (AJ _))
def XU (ta:TA):TI:=λU H R=>ta U H λvs H1=>∃j:Int,vs=[.int j]/\-(2^62)<=j/\j<2^62/\R (bR 0 j.toNat) H1
theorem Zo9 {a:Bv}{ta:TA}{p pos:Pos}(hg:Gl X "range")(hm:X.mg "range" = none)(ha:PA X [a] ta)(hs:Au [a] X.env=[(false,eval a X.env)]:=by rfl):PI X tg (.Call (.Name "range" p) [a] [] pos) (XU ta):=by
 intro Af s U H R I h;refine Call_ (PZ I hg hm boot_range (BF (Dv (ha pos Af s U H _ I h) λus s1 e=>e.el λvs H1 I1 r1 q1=>?_) hs rfl));obtain⟨j,e,q1,q2,q⟩:=q1;subst e;cases r1 with
 |cons r rr=>cases rr;obtain⟨t,rfl⟩:=r;exact call_range_1 (Qv I1 (by ext) (by ext) q1 q2 (by simpa using q))
def cT (wi:TI)(g:TG)(tb:TS):TS:=λD U H=>wi U H λJ H1=>∃W:Nat->Nat->St->Hp->Prop,(∃m,W 0 m U H1)/\∀i m U H,W i m U H ->
 (J.stop i H/\D.nx U H)\/(J.go i H/\∃N:St->Hp->Prop,(∀U' H',N U' H'->∃m',m' < m/\W (i+1) m' U' H')/\∀x H',J.yld i H x H'->g x U H' λU2 H2=>tb {D with nx:=N,ct:=N,bk:=D.nx} U2 H2)
noncomputable def IJ (fp:List Ao)(h:BU):List (Ao×Obj):=fp.filterMap λb=>(h.get? b).map λo=>(b,o)
theorem aZ {fp:List Ao}{h:BU}{b:Ao}{o:Obj}(hb:b∈fp)(e:h.get? b=some o):(b,o)∈IJ fp h:=CO.mpr ⟨b,hb,by rw[e];rfl⟩
theorem uE {fp:List Ao}{h:BU}{p:Ao×Obj}(hp:p∈IJ fp h):p.1∈fp/\h.get? p.1=some p.2:=by
 obtain⟨b,hb,e⟩:=CO.mp hp;cases q:h.get? b with
 |none=>rw[q]at e;cases e
 |some o=>rw[q]at e;have e':(b,o)=p:=Bb e;subst e';exact⟨hb,q⟩
theorem A6.pinned {Af:List (Ao×Obj)}{U:St}{H:Hp}{s:Aj}{fp:List Ao}(I:A6 X Af U H s)(hf:∀b∈fp,Jq X Af H b)(ho:∀b∈fp,∃o,s.heap.get? b=some o/\∀v,o.data≠.cell v):A6 X (Af++IJ fp s.heap) U H s:=
 I.pins_of λp hp=>(AT.mp hp).elim (λz=>I.pin p (AU _ z)) λz=>by
  obtain⟨hb,e⟩:=uE z;obtain⟨f0,f1,f2,_⟩:=hf p.1 hb;obtain⟨o,e',d⟩:=ho p.1 hb;rw[e]at e';cases e';exact⟨e,f0,f1,f2,d⟩
theorem A6.unpinned {Af pl:List (Ao×Obj)}{U:St}{H:Hp}{s:Aj}(I:A6 X (Af++pl) U H s):A6 X Af U H s:=I.pins_of λp hp=>I.pin p (AU _ (CN _ hp))
theorem m8 {iter:Bv}{body:List A4}{wi:TI}{g:TG}{tb:TS}{pos:Pos}(hp:Px (AA X.prog X.w) X.A X.env X.xe)(hc:X.calm=true)(hi:PI X tg iter wi)(hg:PG X tg g)(hb:K3 X body tb)
  (hs:∀x,BB iter X.env x=pure x:=by intro _;rfl):PS X (.For tg iter body [] pos) (cT wi g tb):=by
 intro Af s U H D I h;refine wpAny_For (Dv (hi Af s U H _ I h) λv s1 h1=>Dv h1 λitv s2 h2=>?_) hs;symm;obtain⟨it,fp,tn,J,H2,e,I2,T,st2,f2,W,⟨m0,w0⟩,turn⟩:=h2;cutsat;subst e;have stat:∀{H':Hp},(∀b∈fp,H' b=none)->∀b∈fp,Jq X Af H' b:=λhn b hb=>⟨hn b hb,(f2 b hb).2⟩;refine codeAny_forLoop_any (λn s'=>∃i U' H',A6 X Af U' H' s'/\tn i s'.heap/\(∀b∈fp,H' b=none)/\W i n U' H') ?_ m0 ⟨0,U,H2,I2,st2,λb hb=>(f2 b hb).1,w0⟩;intro n s3 hI';refine Aq λG' kk'=>?_;obtain⟨i,U3,H3,I3,st3,fr3,w3⟩:=hI';refine kk' ?_;clear kk';rcases turn i n U3 H3 w3 with⟨stop,qn⟩|⟨go,N,hN,step⟩
 .refine Es hp (Dv (T.done X rfl rfl rfl rfl hc i Af s3 U3 H3 X.xe I3 (stat fr3) st3 stop) λr s4 ⟨hr,I4⟩=>?_);subst hr;exact IS ⟨U3,H3,I4,qn⟩
 .refine Es hp (Dv (T.item X rfl rfl rfl rfl hc i Af s3 U3 H3 X.xe I3 (stat fr3) st3 go) λr s4 ⟨u,hr,h4⟩=>?_);subst hr;refine Es hp (Dv h4 λ_ s5 ⟨x,H5,I5,r5,y5,st5,fr5⟩=>?_);have I5':=I5.pinned (stat fr5) (T.obj _ _ st5);refine Es hp (Dv (hg _ s5 U3 H5 x u _ I5' r5 (step x H5 y5)) λ_ s6 ⟨U6,H6,I6,q6⟩=>?_);refine Es hp (Dv (hb _ s6 U6 H6 _ I6 q6) λf s7 q7=>?_)
  have NH:∀{U7:St} {H7:Hp},A6 X (Af++IJ fp s5.heap) U7 H7 s7->N U7 H7->∃m,m<n/\∃i U' H',A6 X Af U' H' s7/\tn i s7.heap/\(∀b∈fp,H' b=none)/\W i m U' H':=λ{U7 H7} I7 n7=>by
   obtain⟨m',hm,w7⟩:=hN U7 H7 n7;refine⟨m',hm,i+1,U7,H7,I7.unpinned,T.keep _ _ _ st5 λb hb o e=>(I7.pin (b,o) (AU _ (AU _ (aZ hb e)))).1,λb hb=>?_,w7⟩;obtain⟨o,e,d⟩:=T.obj _ _ st5 b hb;exact(I7.pin (b,o) (AU _ (AU _ (aZ hb e)))).2.1
  cases f with
  |next=>obtain⟨U7,H7,I7,n7⟩:=q7;exact NH I7 n7
  |cont=>obtain⟨U7,H7,I7,n7⟩:=q7;exact NH I7 n7
  |brk=>obtain⟨U7,H7,I7,q7⟩:=q7;exact⟨U7,H7,I7.unpinned,q7⟩
  |ret v=>obtain⟨x7,U7,H7,I7,r7,q7⟩:=q7;exact⟨x7,U7,H7,I7.unpinned,r7,q7⟩
end
abbrev R2:=V->V->Hp->VK->Prop
def Gb (X:Cx)(f:Ad->Ad->Sem Ad)(r:R2):Prop:=
 ∀(Af:List (Ao×Obj)) (s:Aj) (U:St) (H:Hp) (x y:V) (v u:Ad) (Q:VK),A6 X Af U H s->RelV x v->RelV y u->r x y H Q ->
  Av (AA X.prog X.w) X.A (f v u) (EP X Af U Q) X.xe s
def Rx (X:Cx)(f:Ad->Sem Ad)(r:V->Hp->VK->Prop):Prop:=
 ∀(Af:List (Ao×Obj)) (s:Aj) (U:St) (H:Hp) (x:V) (v:Ad) (Q:VK),A6 X Af U H s->RelV x v->r x H Q ->
  Av (AA X.prog X.w) X.A (f v) (EP X Af U Q) X.xe s
def Fe (X:Cx)(f:Ad)(r:List V->Hp->VK->Prop):Prop:=
 ∀(Af:List (Ao×Obj)) (s:Aj) (U:St) (H:Hp) (xs:List V) (us:List Ad) (Q:VK),A6 X Af U H s->BJ xs us->r xs H Q ->
  Av (AA X.prog X.w) X.A (IA f us) (EP X Af U Q) X.xe s
def Xg (r:R2)(ta tb:TE):TE:=λU H Q=>ta U H λx H1=>tb U H1 λy H2=>r x y H2 Q
def gz (r:V->Hp->VK->Prop)(ta:TE):TE:=λU H Q=>ta U H λx H1=>r x H1 Q
def rI (C:Int->Int->Prop)(g:Int->Int->V):R2:=λx y H Q=>∃i j,x=.int i/\y=.int j/\C i j/\Q (g i j) H
def PN (g:Int->Int->V):R2:=λx y H Q=>∃i j,x=.int i/\y=.int j/\Q (g i j) H
def rU (g:Int->V):V->Hp->VK->Prop:=λx H Q=>∃i,x=.int i/\Q (g i) H
section
variable {X:Cx}{a b c:Bv}{ta tb tc:TE}{pos:Pos}
theorem Uy (ha:PE X a ta)(hb:PE X b tb){Af:List (Ao×Obj)}{s:Aj}{U:St}{H:Hp}{R:V->V->Hp->Prop}(I:A6 X Af U H s)
  (h:ta U H λx H1=>tb U H1 λy H2=>R x y H2) {Q:Ad->Aj->Prop} {f:Ad->Ad->Sem Ad}
  (hf:∀v u s2 x y H2,A6 X Af U H2 s2->RelV x v->RelV y u->R x y H2->Av (AA X.prog X.w) X.A (f v u) Q X.xe s2) :
  Av (AA X.prog X.w) X.A (eval a X.env) (λv s₁=>Av (AA X.prog X.w) X.A (eval b X.env) (λu s₂=>Av (AA X.prog X.w) X.A (f v u) Q X.xe s₂) X.xe s₁) X.xe s:=by
 refine Dv (ha Af s U H _ I h) λv s1 e=>e.el λx H1 I1 r1 q1=>?_;refine Dv (hb Af s1 U H1 _ I1 q1) λu s2 e=>e.el λy H2 I2 r2 q2=>?_;exact hf v u s2 x y H2 I2 r1 r2 q2
theorem k6 {op:NM}{r:R2}(ho:Gb X (By op) r)(ha:PE X a ta)(hb:PE X b tb):PE X (.BinOp a op b pos) (Xg r ta tb):=by
 intro Af s U H Q I h;exact wpAny_BinOp (Uy ha hb I h λv u s2 x y H2 I2 rx ry q=>ho Af s2 U H2 x y v u Q I2 rx ry q)
theorem k8 {op:UnaryOp}{r:V->Hp->VK->Prop}(ho:Rx X (Nd op) r)(ha:PE X a ta):PE X (.UnaryOp op a pos) (gz r ta):=by
 intro Af s U H Q I h;exact UnaryOp_ (Dv (ha Af s U H _ I h) λv s1 e=>e.el λx H1 I1 r1 q1=>ho Af s1 U H1 x v Q I1 r1 q1)
theorem VD {f:Ad->Ad->Sem Ad}{C:Int->Int->Prop}{g:Int->Int->Int}
  (RB:∀(i j:Int) (t u:Tok) (s:Aj) (Q:Ad->Aj->Prop) (E:Ad->Aj->Prop),C i j->Q (.int (g i j) s.toks) {s with toks:=s.toks+1}->Av (AA X.prog X.w) X.A (f (.int i t) (.int j u)) Q E s) :
  Gb X f (rI C λi j=>.int (g i j)):=by
 intro Af s U H x y v u Q I rx ry h;obtain⟨i,j,rfl,rfl,hc,q⟩:=h;obtain⟨t,rfl⟩:=rx;obtain⟨t',rfl⟩:=ry;exact RB i j t t' s _ _ hc ⟨.int (g i j),H,I.tok _,⟨_,rfl⟩,q⟩
theorem Qz {f:Ad->Ad->Sem Ad}{g:Int->Int->Int}
  (RB:∀(i j:Int) (t u:Tok) (s:Aj) (Q:Ad->Aj->Prop) (E:Ad->Aj->Prop),Q (.int (g i j) s.toks) {s with toks:=s.toks+1}->Av (AA X.prog X.w) X.A (f (.int i t) (.int j u)) Q E s) :
  Gb X f (PN λi j=>.int (g i j)):=by
 intro Af s U H x y v u Q I rx ry h;obtain⟨i,j,rfl,rfl,q⟩:=h;obtain⟨t,rfl⟩:=rx;obtain⟨t',rfl⟩:=ry;exact RB i j t t' s _ _ ⟨.int (g i j),H,I.tok _,⟨_,rfl⟩,q⟩
theorem R7 {f:Ad->Ad->Sem Ad}{g:Int->Int->Bool}
  (RB:∀(i j:Int) (t u:Tok) (s:Aj) (Q:Ad->Aj->Prop) (E:Ad->Aj->Prop),Q (.bool (g i j)) s->Av (AA X.prog X.w) X.A (f (.int i t) (.int j u)) Q E s) :
  Gb X f (PN λi j=>.bl (g i j)):=by
 intro Af s U H x y v u Q I rx ry h;obtain⟨i,j,rfl,rfl,q⟩:=h;obtain⟨t,rfl⟩:=rx;obtain⟨t',rfl⟩:=ry;exact RB i j t t' s _ _ ⟨.bl (g i j),H,I,rfl,q⟩
def Vb (i j:Int):Prop:=0<j/\j<1073741824
def Ph (i j:Int):Prop:=0<=j/\j<=1000000/\i.natAbs<2^64
def Pj (i j:Int):Prop:=(-(2^64)<i/\i<2^64)\/(-(2^64)<j/\j<2^64)
theorem Pj.ok {i j:Int}(h:Pj i j):IntMulOk i j:=by
 rcases h with⟨h1,h2⟩|⟨h1,h2⟩
 .exact .of_left (intBits_le_64 h1 h2)
 .exact .of_right (intBits_le_64 h1 h2)
theorem Zmp (k:Nat):(0:Int)<=2^k:=by
 rw[two_pow_cast];exact Int.natCast_nonneg _
theorem o5:Gb X (By .Add) (PN λi j=>.int (i+j)):=Qz λ_ _ _ _ _ _ _ q=>add_int q
theorem pi:Gb X (By .Sub) (PN λi j=>.int (i-j)):=Qz λ_ _ _ _ _ _ _ q=>sub_int q
theorem o9:Gb X (By .Mult) (rI Pj λi j=>.int (i*j)):=VD λ_ _ _ _ _ _ _ hc q=>mul_int q hc.ok
theorem uq:Gb X (By .FloorDiv) (rI Vb λi j=>.int (i / j)):=VD λi j _ _ _ _ _ hc q=>by
 have h1:(0:Int)<j:=hc.1;have h2:j<1073741824:=hc.2;exact floordiv_int (by ext) (by rw[LV i (by ext)];exact q) (.inl (PyProof.noPylong_small (by ext)))
theorem o8:Gb X (By .Mod) (rI (λ_ j=>0<j) λi j=>.int (i%j)):=VD λi j _ _ _ _ _ hc q=>by
 have h1:(0:Int)<j:=hc;exact mod_int' (by ext) (by rw[Int.fmod_eq_emod_of_nonneg i (by ext)];exact q)
theorem pb:Gb X (By .Pow) (rI Ph λi j=>.int (i^j.toNat)):=VD λ_ _ _ _ _ _ _ hc q=>pow_int_small hc.1 hc.2.1 hc.2.2 q
theorem pd:Gb X (By .LShift) (rI Ph λi j=>.int (i*2^j.toNat)):=VD λ_ _ _ _ _ _ _ hc q=>lshift_int_small hc.1 hc.2.1 hc.2.2 q
theorem ph:Gb X (By .RShift) (rI (λ_ j=>0<=j) λi j=>.int (i / 2^j.toNat)):=VD λi j _ _ _ _ _ hc q=>
 rshift_int hc (by rw[LV i (Zmp _)];exact q)
theorem o7:Gb X (By .BitAnd) (PN λi j=>.int (AD i j)):=Qz λ_ _ _ _ _ _ _ q=>and_int q
theorem kt:Gb X (By .BitOr) (PN λi j=>.int (AM i j)):=Qz λ_ _ _ _ _ _ _ q=>or_int q
theorem pj:Gb X (By .BitXor) (PN λi j=>.int (Bd i j)):=Qz λ_ _ _ _ _ _ _ q=>xor_int q
theorem mF {f:Ad->Sem Ad}{g:Int->Int}
  (RB:∀(i:Int) (t:Tok) (s:Aj) (Q:Ad->Aj->Prop) (E:Ad->Aj->Prop),Q (.int (g i) s.toks) {s with toks:=s.toks+1}->Av (AA X.prog X.w) X.A (f (.int i t)) Q E s) :
  Rx X f (rU λi=>.int (g i)):=by
 intro Af s U H x v Q I rx h;obtain⟨i,rfl,q⟩:=h;obtain⟨t,rfl⟩:=rx;exact RB i t s _ _ ⟨.int (g i),H,I.tok _,⟨_,rfl⟩,q⟩
theorem ui:Rx X (Nd .USub) (rU λi=>.int (-i)):=mF λ_ _ _ _ _ q=>neg_int q
theorem uh:Rx X (Nd .Invert) (rU λi=>.int (En i)):=mF λ_ _ _ _ _ q=>invert_int q
end
noncomputable def Ud:V->V->Bool
 |.non,.non=>true | .non,.int _=>true | .int _,.non=>true | .non,.bl _=>true | .bl _,.non=>true | .non,.str _=>true | .str _,.non=>true
 |.int _,.int _=>true | .bl _,.bl _=>true | .str _,.str _=>true | .byt _,.byt _=>true
 |.int _,.str _=>true | .str _,.int _=>true | .bl _,.str _=>true | .str _,.bl _=>true
 |_,_=>false
def ip:R2:=λx y H Q=>Ud x y=true/\Q (.bl (decide (x=y))) H
def im:R2:=λx y H Q=>Ud x y=true/\Q (.bl (!decide (x=y))) H
theorem qS {i j:Int}:decide (V.int i=V.int j)=(i == j):=by
 rw[Dt];simp
theorem oE {i j:Bool}:decide (V.bl i=V.bl j)=(i == j):=by
 rw[Dt];simp
theorem qT {i j:Str}:decide (V.str i=V.str j)=(i == j):=by
 rw[Dt];simp
theorem qR {i j:Array UInt8}:decide (V.byt i=V.byt j)=(i.toList == j.toList):=by
 rw[Dt];cases i;cases j;simp
section
variable {X:Cx}{a b c:Bv}{ta tb tc:TE}{pos:Pos}
theorem Is {Af:List (Ao×Obj)}{U:St}{H:Hp}{s:Aj}{Q:VK}{k k':Bool}(I:A6 X Af U H s)(q:Q (.bl k) H)(e:k=k'):EP X Af U Q (.bool k') s:=by
 subst e;exact⟨.bl k,H,I,rfl,q⟩
theorem kh:Gb X (A9 .Eq) ip:=by
 intro Af s U H x y v u Q I rx ry h;obtain⟨hs,q⟩:=h;cases x with
 |non=>
  cases rx;cases y with
  |non=>cases ry;exact Y7 (Is I q (by simp))
  |bl j=>cases ry;exact Y9 (Is I q (by simp))
  |int j=>obtain⟨t',rfl⟩:=ry;exact Y8 (Is I q (by simp))
  |str j=>obtain⟨t',rfl⟩:=ry;exact Y6 (Is I q (by simp))
  |_=>exact absurd (show false=true from hs) Am
 |bl i=>
  cases rx;cases y with
  |non=>cases ry;exact Zb (Is I q (by simp))
  |bl j=>cases ry;exact eq_bool (Is I q oE)
  |str j=>obtain⟨t',rfl⟩:=ry;exact WD (Is I q (by simp))
  |_=>exact absurd (show false=true from hs) Am
 |int i=>
  obtain⟨t,rfl⟩:=rx;cases y with
  |non=>cases ry;exact Za (Is I q (by simp))
  |int j=>obtain⟨t',rfl⟩:=ry;exact eq_int (Is I q qS)
  |str j=>obtain⟨t',rfl⟩:=ry;exact WC (Is I q (by simp))
  |_=>exact absurd (show false=true from hs) Am
 |str i=>
  obtain⟨t,rfl⟩:=rx;cases y with
  |non=>cases ry;exact Y5 (Is I q (by simp))
  |bl j=>cases ry;exact WB (Is I q (by simp))
  |int j=>obtain⟨t',rfl⟩:=ry;exact WA (Is I q (by simp))
  |str j=>obtain⟨t',rfl⟩:=ry;exact eq_str (Is I q qT)
  |_=>exact absurd (show false=true from hs) Am
 |byt i=>
  obtain⟨t,rfl⟩:=rx;cases y with
  |byt j=>obtain⟨t',rfl⟩:=ry;exact PySem.W.eq_bytes (Is I q qR)
  |_=>exact absurd (show false=true from hs) Am
 |_=>cases y<;>exact absurd (show false=true from hs) Am
theorem kq:Gb X (A9 .NotEq) im:=by
 intro Af s U H x y v u Q I rx ry h;obtain⟨hs,q⟩:=h;cases x with
 |non=>
  cases rx;cases y with
  |non=>cases ry;exact Y0 (Is I q (by simp))
  |bl j=>cases ry;exact Y2 (Is I q (by simp))
  |int j=>obtain⟨t',rfl⟩:=ry;exact Y1 (Is I q (by simp))
  |str j=>obtain⟨t',rfl⟩:=ry;exact YZ (Is I q (by simp))
  |_=>exact absurd (show false=true from hs) Am
 |bl i=>
  cases rx;cases y with
  |non=>cases ry;exact Y4 (Is I q (by simp))
  |bl j=>cases ry;exact ne_bool (Is I q (congrArg not oE))
  |str j=>obtain⟨t',rfl⟩:=ry;exact Wz (Is I q (by simp))
  |_=>exact absurd (show false=true from hs) Am
 |int i=>
  obtain⟨t,rfl⟩:=rx;cases y with
  |non=>cases ry;exact Y3 (Is I q (by simp))
  |int j=>obtain⟨t',rfl⟩:=ry;exact ne_int (Is I q (congrArg not qS))
  |str j=>obtain⟨t',rfl⟩:=ry;exact Wy (Is I q (by simp))
  |_=>exact absurd (show false=true from hs) Am
 |str i=>
  obtain⟨t,rfl⟩:=rx;cases y with
  |non=>cases ry;exact YY (Is I q (by simp))
  |bl j=>cases ry;exact Wx (Is I q (by simp))
  |int j=>obtain⟨t',rfl⟩:=ry;exact Ww (Is I q (by simp))
  |str j=>obtain⟨t',rfl⟩:=ry;exact ne_str (Is I q (congrArg not qT))
  |_=>exact absurd (show false=true from hs) Am
 |byt i=>
  obtain⟨t,rfl⟩:=rx;cases y with
  |byt j=>obtain⟨t',rfl⟩:=ry;exact PySem.W.ne_bytes (Is I q (congrArg not qR))
  |_=>exact absurd (show false=true from hs) Am
 |_=>cases y<;>exact absurd (show false=true from hs) Am
theorem km:Gb X (A9 .Lt) (PN λi j=>.bl (decide (i<j))):=R7 λ_ _ _ _ _ _ _ q=>lt_int q
theorem kl:Gb X (A9 .LtE) (PN λi j=>.bl (decide (i<=j))):=R7 λ_ _ _ _ _ _ _ q=>le_int q
theorem kj:Gb X (A9 .Gt) (PN λi j=>.bl (decide (j<i))):=R7 λ_ _ _ _ _ _ _ q=>gt_int q
theorem ki:Gb X (A9 .GtE) (PN λi j=>.bl (decide (j<=i))):=R7 λ_ _ _ _ _ _ _ q=>ge_int q
theorem ur:Gb X (A9 .IsNot) (λx y H Q=>y=.non/\Q (.bl (!decide (x=.non))) H):=by
 intro Af s U H x y v u Q I rx ry h;obtain⟨rfl,q⟩:=h;cases ry;refine isnot_none_gen (Is I q ?_)
 cases x<;>first
  |(cases rx;rfl)
  |(obtain⟨t,rfl⟩:=rx;rfl)
theorem QF (b:Bv){op:cH}(h:op≠.In:=by decide)(h2:op≠.NotIn:=by decide):FZ op b=false:=by
 have e1:(op == CmpOp.In)=false:=by cases op<;>first | rfl | exact absurd rfl h
 have e2:(op == CmpOp.NotIn)=false:=by cases op<;>first | rfl | exact absurd rfl h2
 cases b<;>simp[FZ,e1,e2]
theorem u5 {op:cH}{r:R2}(ho:Gb X (A9 op) r)(ha:PE X a ta)(hb:PE X b tb)(hm:FZ op b=false):PE X (.Compare a [op] [b] pos) (Xg r ta tb):=by
 intro Af s U H Q I h;exact wpAny_Compare1 (Uy ha hb I h λv u s2 x y H2 I2 rx ry q=>ho Af s2 U H2 x y v u Q I2 rx ry q) hm
def Xe (t:TE):TT:=λU H Q=>t U H λx H'=>∃k,x=.bl k/\Q k H'
theorem xb {op:cH}{r:R2}(ho:Gb X (A9 op) r)(ha:PE X a ta)(hb:PE X b tb)(hm:FZ op b=false):PT X (.Compare a [op] [b] pos) (Xe (Xg r ta tb)):=by
 intro Af s U H Q I h
 refine wpAny_isTrue_Compare1 (Dv (ha Af s U H _ I h) λv s1 e=>e.el λx H1 I1 r1 q1=>Dv (hb Af s1 U H1 _ I1 q1) λu s2 e=>e.el λy H2 I2 r2 q2 =>
  Dv (ho Af s2 U H2 x y v u _ I2 r1 r2 q2) λc s3 e=>e.el λz H3 I3 r3 ⟨k,e,q3⟩=>?_) hm
 subst e;cases r3;exact EE ⟨H3,I3,q3⟩
def Qq (r r':R2)(ta tb tc:TE):TE:=λU H Q=>ta U H λx H1=>tb U H1 λy H2=>r x y H2 λz H3=>∃k,z=.bl k /\
 (if k=true then tc U H3 λw' H4=>r' y w' H4 Q else Q (.bl false) H3)
theorem ω {op op':cH}{r r':R2}(ho:Gb X (A9 op) r)(ho':Gb X (A9 op') r')(ha:PE X a ta)(hb:PE X b tb)(hc:PE X c tc)
  (hm:lastMarks [op,op'] [b,c]=false:=by with_unfolding_all rfl):PE X (.Compare a [op,op'] [b,c] pos) (Qq r r' ta tb tc):=by
 intro Af s U H Q I h
 refine Compare_chain (Dv (ha Af s U H _ I h) λv s1 e=>e.el λx H1 I1 r1 q1=>chain_link (Dv (hb Af s1 U H1 _ I1 q1) λu s2 e=>e.el λy H2 I2 r2 q2 =>
  Dv (ho Af s2 U H2 x y v u _ I2 r1 r2 q2) λd s3 e=>e.el λz H3 I3 r3 ⟨k,e,q3⟩=>?_)) hm
 subst e;cases r3;refine EE ?_;cases k with
 |false=>exact ite_ff ⟨.bl false,H3,I3,rfl,q3⟩
 |true=>exact ite_tt (chain_last (Dv (hc Af s3 U H3 _ I3 q3) λw' s4 ⟨z',H4,I4,r4,q4⟩=>ho' Af s4 U H4 y z' u w' Q I4 r2 r4 q4))
theorem KD:(An:Nat)<2^63:=by rw[Jw];decide
theorem Zmy:Gb X (By .Add) (λx y H Q=>∃i j,x=.str i/\y=.str j/\i.length+j.length<=An/\Q (.str (i++j)) H):=by
 intro Af s U H x y v u Q I rx ry h;obtain⟨i,j,rfl,rfl,hz,q⟩:=h;obtain⟨t,rfl⟩:=rx;obtain⟨t',rfl⟩:=ry;exact add_str (λt' tk=>⟨.str (i++j),H,I.tok _,⟨_,rfl⟩,q⟩) hz
theorem Hg {x:V}{us:List Ad}(r:BJ [x] us):∃u,us=[u]/\RelV x u:=by
 cases r with
 |cons r1 r2=>cases r2;exact⟨_,rfl,r1⟩
theorem MP {x y:V}{us:List Ad}(r:BJ [x,y] us):∃u w',us=[u,w']/\RelV x u/\RelV y w':=by
 cases r with
 |cons r1 r2=>
  cases r2 with
  |cons r3 r4=>cases r4;exact⟨_,_,rfl,r1,r3⟩
theorem π (hc:X.calm=true):Fe X (.builtin "max") (λxs H Q=>∃i j,xs=[.int i,.int j]/\Q (.int (if j > i then j else i)) H):=by
 intro Af s U H xs us Q I r h;obtain⟨i,j,rfl,q⟩:=h;symm;obtain⟨u,w',e1',⟨t,e2'⟩,⟨t',e3'⟩⟩:=MP r;cutsat;subst e1' e2' e3';refine max_two_ints (I.ok.hd hc) λh' tk k=>⟨_,H,I.kept k,?_,q⟩;by_cases hj:j > i
 .rw[if_pos hj,if_pos hj];exact⟨_,rfl⟩
 .rw[if_neg hj,if_neg hj];exact⟨_,rfl⟩
theorem ρ (hc:X.calm=true):Fe X (.builtin "min") (λxs H Q=>∃i j,xs=[.int i,.int j]/\Q (.int (if j<i then j else i)) H):=by
 intro Af s U H xs us Q I r h;obtain⟨i,j,rfl,q⟩:=h;symm;obtain⟨u,w',e1',⟨t,e2'⟩,⟨t',e3'⟩⟩:=MP r;cutsat;subst e1' e2' e3';refine min_two_ints (I.ok.hd hc) λh' tk k=>⟨_,H,I.kept k,?_,q⟩;by_cases hj:j<i
 .rw[if_pos hj,if_pos hj];exact⟨_,rfl⟩
 .rw[if_neg hj,if_neg hj];exact⟨_,rfl⟩
end
structure Oo (h:BU)(x dx C:Ao)(mA:Str->Option Ad):Prop where
 obj:h.get? x=some (Di C dx)
 ns:h.Ns1 dx mA
 ne:dx≠x
theorem Zoy {h:BU}{dx:Ao}{mA:Str->Option Ad}(n:h.Ns1 dx mA):∃od,h.get? dx=some od/\∀name,HD name od=some (mA name):=by
 symm;obtain⟨o,es,ep,ho,hd,hk,_,hm⟩:=n;cutsat;refine⟨o,ho,λname=>?_⟩;have e:=hm name;unfold nsFind findBy at e;rw[<- Array.find?_toList]at e;unfold HD;rw[hd];dsimp only;split
 .rename_i y q;rw[q]at e;exact congrArg some e
 .rename_i q;rw[q]at e
  have a:es.toList.any (·.refKey)=false:=by
   rw[Qk];intro y hy;obtain⟨z,t,hkey⟩:=hk y (Ij.mp hy);simp[DictEntry.refKey,hkey]
  have a':¬es.toList.any (·.refKey)=true:=by rw[a];exact Am
  rw[if_neg a'];exact congrArg some e
theorem Oo.look {h:BU}{x dx C:Ao}{mA:Str->Option Ad}(I:Oo h x dx C mA):∃od,PySem.W.InstAt h x (Di C dx) C (some od)/\∀name,HD name od=some (mA name):=
 let ⟨od,ho,hl⟩:=Zoy I.ns
 ⟨od,⟨I.obj,rfl,rfl,ho⟩,hl⟩
section
variable {prog:AX}{w:Bj}{A:Bq}{E:Ad->Aj->Prop}{s:Aj}{K:Ac}{x dx C f:Ao}{mA:Str->Option Ad}{name:Str}{v:Ad}
theorem vk {expr:Bool}{Q:Ad->Aj->Prop}(X:K.In s.heap)(I:Oo s.heap x dx C mA)(hg:GH K C name=true)(hh:Jb K C=true)
  (ha:CQ K (.ref C) name=some none) (hv:mA name=some v) (hv':OU v=true) (h:Q v {s with toks:=s.toks+1}) :
  Av (AA prog w) A (getAttr (.ref x) name expr) Q E s:=by
 obtain⟨od,J,hl⟩:=I.look;exact PySem.W.get_value X J (Mo hg).1 (PySem.W.findObj_own hh ha rfl (by rw[hl,hv])) hv' h
theorem zr {pl:Sem Bool}{Q:Ad×List Ad->Aj->Prop}(X:K.In s.heap)(I:Oo s.heap x dx C mA)(hg:GH K C name=true)
  (hf:CQ K (.ref C) name=some (some (.ref f))) (ht:LQ K (.ref f)=true) (hv:mA name=none) (h:Q (.ref f,[.ref x]) s) :
  Av (AA prog w) A (JP (.ref x) name pl) Q E s:=by
 obtain⟨od,J,hl⟩:=I.look;exact PySem.W.method_fn X J (Mo hg).1 (Mo hg).2 hf (beq_iff_eq.mp ht) (by show(HD name od).map (·.isSome)=some false;rw[hl,hv];rfl) h
theorem xp {ns:List Str}{Q:Unit->Aj->Prop}(X:K.In s.heap)(I:Oo s.heap x dx C mA)
  (hs:CQ K (.ref C) "__setattr__" = some (some (.builtin "object.__setattr__"))) (hp:Ov K C=true) (ht:Ka K C name=some none) (hh:Jb K C=true)
  (hw:MK mA ns) (hsz:ns.length<=An)
  (h:∀h',Oo h' x dx C (λy=>if y=name then some v else mA y)->BL dx s.heap h'->Q () {s with heap:=h',toks:=s.toks+2}) :
  Av (AA prog w) A (setAttr (.ref x) name v) Q E s:=by
 obtain⟨od,J,hl⟩:=I.look;refine PySem.W.set_plain X J hs (PySem.W.osa_open (s:={s with toks:=s.toks+1}) (r:=none) X J hp ht λb=>?_);obtain⟨cd,hc,hd'⟩:=PySem.W.any_some hh;have hx:s.heap.get? x=some ⟨.ref C,some dx,.plain,#[]⟩:=I.obj;refine Aa (Ae (Aa (Aa (wpAny_loadPart hx (Aa (Wv (s:={s with toks:=s.toks+1}) (PySem.W.looks_clsIn X hc) ?_))))));rw[hd'];refine Ae (a:=some dx) (Aa (Ae (Aa ?_)));refine wpAny_nsSet1 (s:={s with toks:=s.toks+1}) I.ns λh' hn2 hs2=>?_;obtain⟨oD,esD,epD,hoD,hdD,hcD⟩:=hn2.count (YX name v hw);refine Aa (wpAny_lookBehind hoD (by rw[hdD];exact pastItsLine_dict (A3 hcD (by rw[AO];ext))) ?_);exact Ae (h _ ⟨(hs2.2 _ (Bm I.ne)).trans I.obj,hn2,I.ne⟩ hs2)
theorem zz {R:Qg->Aj->Prop}{vs:List Ad}{kw:List (Str×Ad)}(X:K.In s.heap)(hm:Pu K C=true)
  (hi:CQ K (.ref C) "__init__" = some (some (.ref f))) (hf:PySem.W.typeIn K (.ref f)=some (.type "function"))
  (h:D0 (AA prog w) (A.under (.builtin "type.__call__" ⟨.ref C::vs,kw⟩)) (.call (.ref f) ⟨.ref (s.heap.objs.size+1)::vs,kw⟩) (PySem.W.InitBack (s.heap.objs.size+1) R)
   { s with heap:=(s.heap.push Cu).push (Di C s.heap.objs.size) }) :
  D0 (AA prog w) A (.call (.ref C) ⟨vs,kw⟩) R s:=by
 obtain⟨hh,g,d,t,os⟩:=s;exact PySem.W.make_core (PySem.W.makes_of X hm) (PySem.W.looks_findIn X hi) (λself=>PySem.W.bind_fn X self hf) (.inl rfl) h
end
noncomputable def Hs (f:Str)(v:V):List (Str×V)->List (Str×V)
 |[]=>[(f,v)]
 |(g,x)::r=>if g=f then(g,v)::r else(g,x)::Hs f v r
theorem xH (f g:Str)(v:V):∀fs:List (Str×V),(Hs f v fs).lookup g=if g=f then some v else fs.lookup g
 |[]=>by
  show BK g [(f,v)]=_;by_cases h:g=f
  .have hb:(g == f)=true:=beq_iff_eq.mpr h;simp only[BK,hb,if_pos h]
  .have hb:(g == f)=false:=beq_eq_false_iff_ne.mpr h;simp only[BK,hb,if_neg h]
 |(k,x)::r=>by
  have ih:=xH f g v r;rw[show Hs f v ((k,x)::r)=(if k=f then(k,v)::r else(k,x)::Hs f v r)from rfl];by_cases hk:k=f
  .rw[if_pos hk];by_cases h:g=k
   .have hb:(g == k)=true:=beq_iff_eq.mpr h;simp only[BK,hb,if_pos (h.trans hk)]
   .have hb:(g == k)=false:=beq_eq_false_iff_ne.mpr h;simp only[BK,hb,if_neg (λe:g=f=>h (e.trans hk.symm))]
  .rw[if_neg hk];by_cases h:g=k
   .have hb:(g == k)=true:=beq_iff_eq.mpr h;simp only[BK,hb,if_neg (λe:g=f=>hk (h.symm.trans e))]
   .have hb:(g == k)=false:=beq_eq_false_iff_ne.mpr h;simp only[BK,hb];exact ih
theorem kH (f:Str)(v:V):∀fs:List (Str×V),f∈(Hs f v fs).map (·.1)/\∀g,g∈fs.map (·.1)->g∈(Hs f v fs).map (·.1)
 |[]=>⟨by simp[Hs],λg h=>by simp at h⟩
 |(k,x)::r=>by
  obtain⟨i1,i2⟩:=kH f v r;rw[show Hs f v ((k,x)::r)=(if k=f then(k,v)::r else(k,x)::Hs f v r)from rfl];by_cases hk:k=f
  .rw[if_pos hk];subst hk;exact⟨by simp,λg h=>by simpa using h⟩
  .rw[if_neg hk];refine⟨?_,λg h=>?_⟩
   .rw[AQ];exact AE _ i1
   .rw[AQ]at h ⊢;rcases A5.mp h with e|e
    .exact A5.mpr (.inl e)
    .exact AE _ (i2 g e)
theorem xG (f:Str)(v:V):∀fs:List (Str×V),(Hs f v fs).length<=fs.length+1
 |[]=>by simp[Hs]
 |(k,x)::r=>by
  have ih:=xG f v r;rw[show Hs f v ((k,x)::r)=(if k=f then(k,v)::r else(k,x)::Hs f v r)from rfl];by_cases hk:k=f
  .rw[if_pos hk,AO,AO];ext
  .rw[if_neg hk,AO,AO];ext
theorem Ip.some_of {v:V}{o:Option Ad}(r:Ip (some v) o):∃u,o=some u/\RelV v u:=by
 cases o with
 |none=>exact(show False from r).elim
 |some u=>exact⟨u,rfl,r⟩
theorem Ip.none_of {o:Option Ad}(r:Ip none o):o=none:=by
 cases o with
 |none=>rfl
 |some u=>exact(show False from r).elim
theorem ZoO {v:V}{u:Ad}(r:RelV v u):OU u=true:=by
 cases v with
 |non=>cases(show u=F6 from r);rfl
 |bl b=>cases(show u=I9 b from r);rfl
 |int i=>obtain⟨t,e⟩:=(show∃t,u=DL i t from r);cases e;rfl
 |str x=>obtain⟨t,e⟩:=(show∃t,u=Dk x t from r);cases e;rfl
 |byt b=>obtain⟨t,e⟩:=(show∃t,u=Vp b t from r);cases e;rfl
 |flt b=>obtain⟨t,e⟩:=(show∃t,u=NI b t from r);cases e;rfl
 |ref a=>cases(show u=AC a from r);rfl
 |ty n=>cases(show u=DX n from r);rfl
section
variable {P:AX}{w:Bj}{H H':Hp}{h h':BU}{a C dx:Ao}{fs fs':List (Str×V)}
theorem ZX (hok:Iu P w H h)(e:H a=some (.ins C dx fs)):∃mA,Oo h a dx C mA/\(∀f,Ip (fs.lookup f) (mA f))/\MK mA (fs.map (·.1))/\fs.length<=1000/\H dx=some (.own a):=by
 obtain⟨d,z,ne,ob,mA,n,r,q⟩:=(show CZ P w H h a (.ins C dx fs)from hok a _ e);exact⟨mA,⟨ob,n,ne⟩,r,q,z,d⟩
end
structure Ot (K:Ac)(C:Ao):Prop where
 pg:GH K C Str.empty=true
 hd:Jb K C=true
 po:Ov K C=true
 sa:CQ K (.ref C) "__setattr__" = some (some (.builtin "object.__setattr__"))
theorem Ot.get {K:Ac}{C:Ao}(c:Ot K C)(f:Str):GH K C f=true:=c.pg
def Eb (K:Ac)(C:Ao)(f:Str):Prop:=CQ K (.ref C) f=some none
theorem Eb.taker {K:Ac}{C:Ao}{f:Str}(n:Eb K C f):Ka K C f=some none:=by
 unfold Ka;rw[show CQ K (.ref C) f=some none from n];rfl
structure Sx (K:Ac)(C:Ao)(m:Str)(f:Ao):Prop where
 at_:CQ K (.ref C) m=some (some (.ref f))
 fn:LQ K (.ref f)=true
 kp:FS K (.ref f)=true
section
variable {X:Cx}{Af:List (Ao×Obj)}{U:St}{H:Hp}{s:Aj}{a C dx:Ao}{fs:List (Str×V)}{f:Str}{v:V}{A:Bq}{E:Ad->Aj->Prop}
theorem ZmW {b:Bool}{Q:Ad->Aj->Prop}(I:A6 X Af U H s)(e:H a=some (.ins C dx fs))(c:Ot X.K C)(n:Eb X.K C f)(l:fs.lookup f=some v)
  (h:∀u s',A6 X Af U H s'->RelV v u->Q u s'):Av (AA X.prog X.w) A (getAttr (.ref a) f b) Q E s:=by
 obtain⟨mA,O,r,_,_,_⟩:=ZX I.hok e;obtain⟨u,hu,ru⟩:=Ip.some_of (v:=v) (o:=mA f) (by rw[<- l];exact r f);exact vk I.kIn O (c.get f) c.hd n hu (ZoO ru) (h u _ (I.tok _) ru)
theorem vX {m:Str}{g:Ao}{pl:Sem Bool}{Q:Ad×List Ad->Aj->Prop}(I:A6 X Af U H s)(e:H a=some (.ins C dx fs))(c:Ot X.K C)(k:Sx X.K C m g)(l:fs.lookup m=none)
  (h:Q (.ref g,[.ref a]) s):Av (AA X.prog X.w) A (JP (.ref a) m pl) Q E s:=by
 obtain⟨mA,O,r,_,_,_⟩:=ZX I.hok e;have hn:mA m=none:=Ip.none_of (by rw[<- l];exact r m);exact zr I.kIn O (c.get m) k.at_ k.fn hn h
theorem Zmv {y:V}{u:Ad}{Q:Unit->Aj->Prop}(I:A6 X Af U H s)(e:H a=some (.ins C dx fs))(c:Ot X.K C)(n:Eb X.K C f)(hl:fs.length<1000)(ry:RelV y u)
  (h:∀s',A6 X Af U (CF H a (.ins C dx (Hs f y fs))) s'->Q () s'):Av (AA X.prog X.w) A (setAttr (.ref a) f u) Q E s:=by
 obtain⟨mA,O,r,wi,_,ho⟩:=ZX I.hok e;have hz:(fs.map (·.1)).length<=An:=by rw[Ab,Jw];ext
 refine xp I.kIn O c.sa c.po n.taker c.hd wi hz λh' O' sb=>h _ ?_;have hd:∃o,h'.get? dx=some o:=let ⟨o,_,_,e',_⟩:=O'.ns;⟨o,e'⟩;refine I.write (x:=a) (e:=dx) (by rw[e];exact Cm) (.inr ho) (λb q hb z=>(sb.2 b hb).trans z) hd ?_;refine⟨by rw[HW O.ne];exact ho,?_,O.ne,O'.obj,_,O'.ns,λg=>?_,λg hg=>?_⟩
 .have:=xG f y fs;ext
 .show Ip ((Hs f y fs).lookup g) (if g=f then some u else mA g);rw[xH];by_cases q:g=f
  .rw[if_pos q,if_pos q];exact ry
  .rw[if_neg q,if_neg q];exact r g
 .by_cases q:g=f
  .rw[q];exact(kH f y fs).1
  .refine(kH f y fs).2 g (wi g λz=>hg ?_);show(if g=f then some u else mA g)=none;rw[if_neg q];exact z
theorem A6.made (I:A6 X Af U H s):A6 X Af U (CF (CF H s.heap.objs.size (.own (s.heap.objs.size+1))) (s.heap.objs.size+1) (.ins C s.heap.objs.size []))
  {s with heap:=(s.heap.push Cu).push (Di C s.heap.objs.size)}:=by
 have e1:(s.heap.push Cu).get? s.heap.objs.size=some Cu:=AB s.heap rfl
 have e2:((s.heap.push Cu).push (Di C s.heap.objs.size)).get? (s.heap.objs.size+1)=some (Di C s.heap.objs.size):=by
  have:=AB (s.heap.push Cu) (o:=Di C s.heap.objs.size) rfl;rwa[Gd]at this
 have e3:(s.heap.push Cu).Ns s.heap.objs.size (λ_=>none):=⟨Cu,#[],_,e1,rfl,(λe he=>absurd he (by simp)),λ_=>rfl⟩;have I1:=I.laid (a:=s.heap.objs.size) (o:=.own (s.heap.objs.size+1)) (h':=s.heap.push Cu) (t':=s.toks) (λb u q=>Ah _ q) (AJ _) ⟨_,e1⟩;refine I1.laid (a:=s.heap.objs.size+1) (o:=.ins C s.heap.objs.size []) (t':=s.toks) (λb u q=>Ah _ q) (WE (Gd _ _)) ?_;have ne:s.heap.objs.size≠s.heap.objs.size+1:=A8 (Hn _);refine⟨by rw[HW ne,MH],Ek _,ne,e2,λ_=>none,(Heap.Ns1.of_empty e3).at λo q=>Ah _ q,λ_=>Cm,λy hy=>absurd rfl hy⟩
theorem vc {prog:AX}{w:Bj}{env:Env}{e:Bv}{f:Str}{pos:Pos}{s:Aj}{Q:Ad->Aj->Prop}(hb:CJ e f env (eval e env)=eval e env)
  (h:Av (AA prog w) A (eval e env) (λo s₁=>Av (AA prog w) A (getAttr o f true) Q E s₁) E s):Av (AA prog w) A (eval (.Attribute e f pos) env) Q E s:=
 Attribute_any_ h (by rw[arm_eval_Attribute,hb])
end
def cU (K:Ac)(ta:TE)(f:Str):TE:=λU H Q=>ta U H λx H1=>∃a C dx fs v,x=.ref a/\H1 a=some (.ins C dx fs)/\Ot K C/\Eb K C f/\fs.lookup f=some v/\Q v H1
def dA (K:Ac)(ta tv:TE)(f:Str):TS:=λD U H=>tv U H λy H1=>ta U H1 λx H2=>∃a C dx fs,x=.ref a/\H2 a=some (.ins C dx fs)/\Ot K C/\Eb K C f/\fs.length<1000 /\
 D.nx U (CF H2 a (.ins C dx (Hs f y fs)))
section
variable {X:Cx}{o e value:Bv}{f:Str}{pos pos' tpos:Pos}{ta tv:TE}
theorem p6 (he:PE X e ta)(hb:CJ e f X.env (eval e X.env)=eval e X.env):PE X (.Attribute e f pos) (cU X.K ta f):=by
 intro Af s U H Q I h;refine vc hb (Dv (he Af s U H _ I h) λu s1 e=>e.el λx H1 I1 rx ⟨a,C,dx,fs,v,ex,ea,c,n,l,q⟩=>?_);subst ex;obtain rfl:u=AC a:=rx;exact ZmW I1 ea c n l λu' s2 I2 ru=>⟨v,H1,I2,ru,q⟩
theorem m7 (ha:PE X o ta)(hv:PE X value tv)(hs:D4 value (some (.Attribute o f pos')) pos.line X.env=pure false):PS X (.Assign [.Attribute o f pos'] value pos) (dA X.K ta tv f):=by
 intro Af s U H D I h;refine plainObj_wpAny_Assign_Attribute (Dv (hv Af s U H _ I h) λu s1 e=>e.el λy H1 I1 ry q=>Dv (ha Af s1 U H1 _ I1 q) λov s2 e=>e.el λx H2 I2 rx ⟨a,C,dx,fs,ex,ea,c,n,l,q2⟩=>?_) hs;subst ex;obtain rfl:ov=AC a:=rx;exact Zmv I2 ea c n l ry λs3 I3=>⟨U,_,I3,q2⟩
end
section
variable {X:Cx}{Af:List (Ao×Obj)}{U:St}{H:Hp}{s:Aj}{A:Bq}{E:Ad->Aj->Prop}{Q:Ad->Aj->Prop}{c:Ad}{b:Bool}
inductive Io (K:Ac)(H:Hp):V->Ad->Prop where
 |non:Io K H .non (.type "NoneType")
 |bl (x:Bool):Io K H (.bl x) (.type "bool")
 |int (i:Int):Io K H (.int i) (.type "int")
 |str (x:Str):Io K H (.str x) (.type "str")
 |flt (x:UInt64):Io K H (.flt x) (.type "float")
 |lst {a:Ao} {xs:List V} (e:H a=some (.lst xs)):Io K H (.ref a) (.type "list")
 |frz {a:Ao} {o:Obj} {xs:List V} (e:H a=some (.frz o (.lst xs))):Io K H (.ref a) (.type "list")
 |tup {a:Ao} {xs:List V} (e:H a=some (.tup xs)):Io K H (.ref a) (.type "tuple")
 |dK {a:Ao} {AR:List (B7×V)} (e:H a=some (.dK AR)):Io K H (.ref a) (.type "dict")
 |dT {a:Ao} {AR:List (List B7×V)} (e:H a=some (.dT AR)):Io K H (.ref a) (.type "dict")
 |ins {a C dx:Ao} {fs:List (Str×V)} (e:H a=some (.ins C dx fs)) (cl:Ot K C) (ha:CQ K (.ref C) "__class__" = some (some (.builtin "object.__class__")))
   (hn:PySem.W.specialIn K (.builtin "object.__class__") "__get__" = some (some (.builtin "getset_descriptor.__get__"))) (htk:PySem.W.takesIn K (.builtin "object.__class__")=some true)
   (hm:PySem.W.mroIn K C (.type "object")=some true):Io K H (.ref a) (.ref C)
theorem aY {x:V}{u t:Ad}(I:A6 X Af U H s)(rx:RelV x u)(ty:Io X.K H x t)(e:DD X.K t c=some b)(h:∀tk,Q (.bool b) {s with toks:=tk}) :
  Av (AA X.prog X.w) A (IA (.builtin "isinstance") [u,c]) Q E s:=by
 cases ty with
 |non=>cases(show u=F6 from rx);exact EG PySem.W.kitx_none I.kIn Cm e (λz=>nomatch z) h
 |bl y=>cases(show u=I9 y from rx);exact EG PySem.W.kitx_bool I.kIn Cm e (λz=>nomatch z) h
 |int i=>obtain⟨t,q⟩:=(show∃t,u=DL i t from rx);cases q;exact EG PySem.W.kitx_int I.kIn Cm e (λz=>nomatch z) h
 |str y=>obtain⟨t,q⟩:=(show∃t,u=Dk y t from rx);cases q;exact EG PySem.W.kitx_str I.kIn Cm e (λz=>nomatch z) h
 |flt y=>obtain⟨t,q⟩:=(show∃t,u=NI y t from rx);cases q;exact EG PySem.W.kitx_float I.kIn Cm e (λz=>nomatch z) h
 | @lst a xs ea=>cases(show u=AC a from rx);obtain⟨_,_,n,_,h1⟩:=(show CZ X.prog X.w H s.heap a (.lst xs)from I.hok a _ ea);exact EG Pm I.kIn ⟨_,h1,rfl⟩ e (λz=>nomatch z) h
 | @frz a ob xs ea=>cases(show u=AC a from rx);obtain⟨_,_,_,n,_,h1⟩:=(show CZ X.prog X.w H s.heap a (.frz ob (.lst xs))from I.hok a _ ea);exact EG Pm I.kIn ⟨_,h1,rfl⟩ e (λz=>nomatch z) h
 | @tup a xs ea=>cases(show u=AC a from rx);obtain⟨_,_,_,p⟩:=(show CZ X.prog X.w H s.heap a (.tup xs)from I.hok a _ ea);obtain⟨o,h1,h2,_⟩:=p;exact EG TU I.kIn ⟨o,h1,h2⟩ e (λz=>nomatch z) h
 | @dK a AR ea=>cases(show u=AC a from rx);obtain⟨_,_,vs,_,p⟩:=(show CZ X.prog X.w H s.heap a (.dK AR)from I.hok a _ ea);obtain⟨o,es,ep,h1,h2,_⟩:=p;exact EG LL I.kIn ⟨o,h1,h2.1⟩ e (λz=>nomatch z) h
 | @dT a AR ea=>cases(show u=AC a from rx);obtain⟨_,_,xs,_,o,es,ep,h1,h2,_⟩:=(show CZ X.prog X.w H s.heap a (.dT AR)from I.hok a _ ea);exact EG LL I.kIn ⟨o,h1,h2.1⟩ e (λz=>nomatch z) h
 | @ins a C dx fs ea cl ha hn htk hm=>cases(show u=AC a from rx);obtain⟨mA,O,_⟩:=ZX I.hok ea;obtain⟨od,J,_⟩:=O.look;exact EG (PySem.W.kitx_own (cl.get _) cl.hd ha hn htk hm) I.kIn J e (λz=>nomatch z) h
end
structure Dg (k:Nat)(A:Bq):Prop where
 hd:A.handled=none
 dp:A.depth+3*k+5<bZ
 un:A.units+16*k+200<Dh
theorem Dg.mono {j k:Nat}{A:Bq}(r:Dg k A)(h:j<=k):Dg j A:=⟨r.hd,by have:=r.dp;ext,by have:=r.un;ext⟩
theorem Dg.deeper {k:Nat}{A:Bq}(r:Dg (k+1) A)(env:Env):Dg k (A.deeper env):=
 ⟨r.hd,by have:=r.dp;show A.depth+1+3*k+5<_;ext,by have:=r.un;show A.units+3+16*k+200<_;ext⟩
theorem ZmJ {A:Bq}{C:Ao}{us:List Ad}{kw:List (Str×Ad)}:(A.under (.builtin "type.__call__" ⟨.ref C::us,kw⟩)).depth=A.depth+1:=by
 first | rfl | simp[MF,Code.weight,Code.isCreation,Code.isGuard,Code.isCaller,WQ,Nn,guardIds]
theorem ZmI {A:Bq}{C:Ao}{us:List Ad}{kw:List (Str×Ad)}:(A.under (.builtin "type.__call__" ⟨.ref C::us,kw⟩)).units=A.units+1:=by
 first | rfl | simp[MF,Code.cUnits,WQ,Nn]
theorem Dg.make {k:Nat}{A:Bq}(r:Dg (k+1) A)(C:Ao)(us:List Ad)(kw:List (Str×Ad)):Dg k (A.under (.builtin "type.__call__" ⟨.ref C::us,kw⟩)):=
 ⟨r.hd,by have:=r.dp;rw[ZmJ];ext,by have:=r.un;rw[ZmI];ext⟩
theorem Dg.depth {k:Nat}{A:Bq}(r:Dg k A):A.depth<bZ:=by have:=r.dp;ext
theorem Dg.units {k:Nat}{A:Bq}(r:Dg k A):A.units+64<Dh:=by have:=r.un;ext
def Xh:TA:=λ_ H Q=>Q [] H
def Xo (ta:TE)(tr:TA):TA:=λU H Q=>ta U H λx H1=>tr U H1 λxs H2=>Q (x::xs) H2
section
variable {X:Cx}{e:Bv}{es:List Bv}{te:TE}{t:TA}{pos:Pos}
theorem ZS:PA X [] Xh:=λ_ _ _ _ H Q I h=>JE ⟨[],H,I,.nil,h⟩
theorem Z9 (ha:PE X e te)(hr:PA X es t)(hs:Au (e::es) X.env=(false,eval e X.env)::Au es X.env:=by rfl):PA X (e::es) (Xo te t):=by
 intro pos Af s U H Q I h;rw[hs];show Av _ _ (Vh ((false,eval e X.env)::Cg pos (Au es X.env))) _ _ s;refine Je (Dv (ha Af s U H _ I h) λu s1 e=>e.el λx H1 I1 r1 q1=>?_);exact Dv (hr pos Af s1 U H1 _ I1 q1) λus s2 e=>e.el λxs H2 I2 r2 q2=>⟨x::xs,H2,I2,.cons r1 r2,q2⟩
def cL (t:TA):TE:=λU H Q=>t U H λxs H1=>xs.length<=An/\∀p,H1 p=none->Q (.ref p) (CF H1 p (.tup xs))
def cR (t:TA):TE:=λU H Q=>t U H λxs H1=>xs.length<=An/\∀p,H1 p=none->Q (.ref p) (CF H1 p (.lst xs))
theorem qb {x1}(h:PA X es t):PE X (.Tuple es x1 pos) (cL t):=by
 intro Af s U H Q I hq;refine wpAny_Tuple_spliced (Dv (h pos Af s U H _ I hq) λus s1 e=>e.el λxs H1 I1 r ⟨z,q⟩=>⟨by rw[<- r.length];exact z,?_⟩);have hf:H1 s1.heap.objs.size=none:=I1.hok.fresh (AJ _);refine⟨.ref s1.heap.objs.size,CF H1 s1.heap.objs.size (.tup xs),I1.laid (t':=s1.toks) (λb u e=>Ah _ e) (AJ _) ?_,rfl,q _ hf⟩;exact⟨z,us,r,Mh.new _ _⟩
theorem pB (h:PA X es t):PE X (.List es pos) (cR t):=by
 intro Af s U H Q I hq;refine wpAny_List_spliced (Dv (h pos Af s U H _ I hq) λus s1 e=>e.el λxs H1 I1 r ⟨z,q⟩=>⟨by rw[<- r.length];exact z,?_⟩);have hf:H1 s1.heap.objs.size=none:=I1.hok.fresh (AJ _);refine⟨.ref s1.heap.objs.size,CF H1 s1.heap.objs.size (.lst xs),I1.laid (t':=s1.toks) (λb u e=>Ah _ e) (AJ _) ?_,rfl,q _ hf⟩;exact⟨z,us,0,r,AB _ rfl⟩
end
abbrev Sp:=List V->Hp->VK->XK->Prop
abbrev P4:=List Env->Hp->Aj->XK->Ad->Aj->Prop
structure Oq (P:AX)(w:Bj)(K:Ac)(mg:Str->Option Ad)(base:BU)(A:Bq)(outer:List Env)(s:Aj)(H:Hp):Prop where
 frames:A.frames=some outer
 mod:Mod K mg base
 bs:∀b o,base.get? b=some o->s.heap.get? b=some o/\H b=none
 bsz:base.objs.size<=s.heap.objs.size
 funs:s.heap.FunFrames base outer
 frf:∀b∈PX outer,H b=none
 hok:Iu P w H s.heap
 bare:IE s.gens
def CE (outer:List Env)(P:AX)(w:Bj)(H:Hp)(s:Aj)(Q:VK)(u:Ad)(s':Aj):Prop:=
 ∃v H',s'.os=s.os/\IE s'.gens/\Un (PX outer) [] H H' s.heap s'.heap/\Iu P w H' s'.heap/\RelV v u/\Q v H'
def CR (CX:P4)(outer:List Env)(P:AX)(w:Bj)(H:Hp)(s:Aj)(Q:VK)(E:XK)(r:Qg)(s':Aj):Prop:=
 match r with
 |.ok (.ret u)=>CE outer P w H s Q u s'
 |.ok _=>False
 |.error e=>CX outer H s E e s'
structure FnOk (P:AX)(w:Bj)(K:Ac)(mg:Str->Option Ad)(base:BU)(CX:P4)(k:Nat)(f:Ao)(fd:B9)(ps:List Str)(sp:Sp):Prop where
 len:∀vs H Q E,sp vs H Q E->vs.length=ps.length
 run:∀(A:Bq) (outer:List Env) (s:Aj) (H:Hp) (args:Args) (us:List Ad) (vs:List V) (Q:VK) (E:XK),Dg k A->Oq P w K mg base A outer s H->No s fd args (ps.zip us)->BJ vs us->sp vs H Q E ->
  D0 (AA P w) A (.call (.ref f) args) (CR CX outer P w H s Q E) s
theorem FnOk.mono {P:AX}{w:Bj}{K:Ac}{mg:Str->Option Ad}{base:BU}{CX:P4}{j k:Nat}{f:Ao}{fd:B9}{ps:List Str}{sp:Sp}(F:FnOk P w K mg base CX j f fd ps sp)(h:j<=k) :
  FnOk P w K mg base CX k f fd ps sp:=⟨F.len,λA outer s H args us vs Q E hr=>F.run A outer s H args us vs Q E (hr.mono h)⟩
theorem Oq.make {P:AX}{w:Bj}{K:Ac}{mg:Str->Option Ad}{base:BU}{A:Bq}{outer:List Env}{s:Aj}{H:Hp}(e:Oq P w K mg base A outer s H)(C:Ao)(us:List Ad)(kw:List (Str×Ad)) :
  Oq P w K mg base (A.under (.builtin "type.__call__" ⟨.ref C::us,kw⟩)) outer s H:=⟨by first | exact e.frames | (simpa[MF,Code.envs,Nn,pushEnvs]using e.frames),e.mod,e.bs,e.bsz,e.funs,e.frf,e.hok,e.bare⟩
section
variable {X:Cx}{Af:List (Ao×Obj)}{U:St}{H:Hp}{s s':Aj}
theorem A6.env0 (I:A6 X Af U H s):Oq X.prog X.w X.K X.mg X.base X.A X.stack s H:=
 ⟨I.ok.frames,I.ok.mod,I.bs,A3 I.ok.bsz I.sz,I.stack,I.stkFree,I.hok,I.bare⟩
theorem A6.after {Q:VK}{u:Ad}(I:A6 X Af U H s)(h:CE X.stack X.prog X.w H s Q u s'):EP X Af U Q u s':=by
 symm;obtain⟨v,H',os,bare,un,hok,r,q⟩:=h;cutsat;obtain⟨hh,g,d,t,os'⟩:=s';obtain rfl:os'=s.os:=os;exact⟨v,H',I.call (h':=hh) (g':=g) (d':=d) (t':=t) (ch:=[]) un hok bare (λb z=>absurd z (by simp)),r,q⟩
end
def S8 (sp:Sp)(dvs:List V)(E:XK)(t:TA):TE:=λU H Q=>t U H λvs H1=>sp (vs++dvs) H1 Q E
def Qp (C:Ao)(m:Str)(sp:Sp)(dvs:List V)(E:XK)(ta:TE)(t:TA):TE:=λU H Q=>ta U H λx H1=>∃a dx fs,x=.ref a/\H1 a=some (.ins C dx fs)/\fs.lookup m=none /\
 t U H1 λvs H2=>sp (x::(vs++dvs)) H2 Q E
def Xj (C:Ao)(sp:Sp)(dvs:List V)(E:XK)(t:TA):TE:=λU H Q=>t U H λvs H1=>∀x dx,H1 x=none->H1 dx=none->dx≠x ->
 sp (.ref x::(vs++dvs)) (CF (CF H1 dx (.own x)) x (.ins C dx [])) (λv H2=>v=.non/\Q (.ref x) H2) E
def HN (K:Ac)(fd:B9)(ps:List Str)(ds:List Ad):Prop:=
 ∀(s:Aj) (us:List Ad),K.In s.heap->(us++ds).length=ps.length->No s fd ⟨us,[]⟩ (ps.zip (us++ds))
theorem HN.all {K:Ac}{fd:B9}{ps:List Str}(h:∀us:List Ad,us.length=ps.length->Et fd ⟨us,[]⟩=pure (ps.zip us)):HN K fd ps []:=λs us _ hl=>by
 rw[CL]at hl ⊢;exact .of_eq (h us hl)
def IP (CX:P4)(X:Cx)(E:XK):Prop:=∀(Af:List (Ao×Obj)) (U:St) (H:Hp) (s:Aj) (e:Ad) (s':Aj),A6 X Af U H s->CX X.stack H s E e s'->X.xe e s'
section
variable {X:Cx}{CX:P4}{k:Nat}{f C:Ao}{fd:B9}{ps:List Str}{sp:Sp}{dvs:List V}{ds:List Ad}{E:XK}{x m:Str}{p pos apos:Pos}{e o:Bv}{es:List Bv}{ta:TE}{t:TA}
theorem iR {Af:List (Ao×Obj)}{U:St}{H:Hp}{s:Aj}{Q:VK}{us:List Ad}{vs:List V}(F:FnOk X.prog X.w X.K X.mg X.base CX k f fd ps sp)(hr:Dg k X.A)(hb:HN X.K fd ps ds)(hd:BJ dvs ds)(hx:IP CX X E)
  (I:A6 X Af U H s) (r:BJ vs us) (h:sp (vs++dvs) H Q E):Av (AA X.prog X.w) X.A (IA (.ref f) us) (EP X Af U Q) X.xe s:=by
 have r2:BJ (vs++dvs) (us++ds):=r.append hd;have hl:(us++ds).length=ps.length:=by rw[<- r2.length];exact F.len _ _ _ _ h
 refine TK (GG (F.run X.A X.stack s H ⟨us,[]⟩ (us++ds) (vs++dvs) Q E hr I.env0 (hb s us I.kIn hl) r2 h) λr s' hq=>?_);cases r with
 |error e=>exact hx Af U H s e s' I hq
 |ok fl=>
  cases fl with
  |ret u=>exact I.after hq
  |next=>exact C9 hq
  |brk=>exact C9 hq
  |cont=>exact C9 hq
theorem uz (F:FnOk X.prog X.w X.K X.mg X.base CX k f fd ps sp)(hr:Dg k X.A)(hg:Gl X x)(hm:X.mg x=some (.ref f))(hk:FS X.K (.ref f)=true)(hb:HN X.K fd ps ds)(hd:BJ dvs ds)(hx:IP CX X E)
  (ha:PA X (e::es) t) (hdb:(x == ("__debug__":Str))=false:=by decide) (he:Au (e::es) X.env=(false,eval e X.env)::Au es X.env:=by rfl) (hpl:(Cg pos (Au es X.env)).any (·.1)=false:=by rfl) :
  PE X (.Call (.Name x p) (e::es) [] pos) (S8 sp dvs E t):=by
 intro Af s U H Q I h;refine Cr (jB I hg hm ?_ hdb);refine NF (h₀:=X.base) I.ok.mod.kin hk (Dv (ha pos Af s U H _ I h) λus s1 e=>e.el λvs H1 I1 r q=>⟨I1.kIn,?_⟩) he hpl;exact iR F hr hb hd hx I1 r q
theorem va {pl:Sem Bool}(he:PE X o ta)(c:Ot X.K C)(hm:Sx X.K C m f)(F:FnOk X.prog X.w X.K X.mg X.base CX k f fd ps sp)(hr:Dg k X.A)(hb:HN X.K fd ps ds)(hd:BJ dvs ds)(hx:IP CX X E)(ha:PA X (e::es) t)
  (hst:Au (e::es) X.env=(false,eval e X.env)::Au es X.env:=by rfl) (hpl:(Cg pos (Au es X.env)).any (·.1)=false:=by rfl)
  (ht:eval (.Call (.Attribute o m apos) (e::es) [] pos) X.env=(do
   let ov <- eval o X.env
   Nf apos.atName
   let (f,first) <- GF [ov] (JP ov m pl)
   RD pos f first (Cg pos (Au (e::es) X.env)) (Fx pos (DJ [] X.env))):=by rfl) :
  PE X (.Call (.Attribute o m apos) (e::es) [] pos) (Qp C m sp dvs E ta t):=by
 intro Af s U H Q I h;refine Ms (pl:=pl) (Dv (he Af s U H _ I h) λu s1 e=>e.el λx H1 I1 rx ⟨a,dx,fs,ex,ea,l,q⟩=>?_) ht;subst ex;obtain rfl:u=AC a:=rx;refine vX I1 ea c hm l ?_;refine NF (first:=[.ref a]) (h₀:=X.base) I.ok.mod.kin hm.kp (Dv (ha pos Af s1 U H1 _ I1 q) λus s2 e=>e.el λvs H2 I2 r q2=>⟨I2.kIn,?_⟩) hst hpl;exact iR (us:=.ref a::us) (vs:=.ref a::vs) F hr hb hd hx I2 (.cons rfl r) q2
theorem Ζ {pl:Sem Bool}(he:PE X o ta)(c:Ot X.K C)(hm:Sx X.K C m f)(F:FnOk X.prog X.w X.K X.mg X.base CX k f fd ps sp)(hr:Dg k X.A)(hb:HN X.K fd ps ds)(hd:BJ dvs ds)(hx:IP CX X E)
  (ht:eval (.Call (.Attribute o m apos) [] [] pos) X.env=(do
   let ov <- eval o X.env
   Nf apos.atName
   let (f,first) <- GF [ov] (JP ov m pl)
   RD pos f first (Cg pos (Au [] X.env)) (Fx pos (DJ [] X.env))):=by rfl) :
  PE X (.Call (.Attribute o m apos) [] [] pos) (Qp C m sp dvs E ta Xh):=by
 intro Af s U H Q I h;refine Ms (pl:=pl) (Dv (he Af s U H _ I h) λu s1 e=>e.el λx H1 I1 rx ⟨a,dx,fs,ex,ea,l,q⟩=>?_) ht;subst ex;obtain rfl:u=AC a:=rx;refine vX I1 ea c hm l ?_;exact PySem.W.callWith_K0 (first:=[.ref a]) I1.kIn hm.kp (iR (us:=[.ref a]) (vs:=[.ref a]) F hr hb hd hx I1 (.cons rfl .nil) q)
structure Mk (K:Ac)(C f:Ao):Prop where
 makes:Pu K C=true
 init:CQ K (.ref C) "__init__" = some (some (.ref f))
 fn:LQ K (.ref f)=true
 kp:FS K (.ref C)=true
theorem Ν {Af:List (Ao×Obj)}{U:St}{H:Hp}{s:Aj}{Q:VK}{us:List Ad}{vs:List V}(M:Mk X.K C f)(F:FnOk X.prog X.w X.K X.mg X.base CX k f fd ps sp)(hr:Dg (k+1) X.A)(hb:HN X.K fd ps ds)(hd:BJ dvs ds)
  (hx:IP CX X E) (I:A6 X Af U H s) (r:BJ vs us)
  (h:∀x dx,H x=none->H dx=none->dx≠x->sp (.ref x::(vs++dvs)) (CF (CF H dx (.own x)) x (.ins C dx [])) (λv H2=>v=.non/\Q (.ref x) H2) E) :
  Av (AA X.prog X.w) X.A (IA (.ref C) us) (EP X Af U Q) X.xe s:=by
 have hq:=h (s.heap.objs.size+1) s.heap.objs.size (I.hok.fresh (JO _)) (I.hok.fresh (AJ _)) (A8 (Hn _));have I2:=A6.made (C:=C) I;have r2:BJ (V.ref (s.heap.objs.size+1)::(vs++dvs)) (AC (s.heap.objs.size+1)::(us++ds)):=.cons rfl (r.append hd)
 have hl:(AC (s.heap.objs.size+1)::us++ds).length=ps.length:=by
  have e:=r2.length;rw[F.len _ _ _ _ hq]at e;exact e.symm
 refine TK (zz (f:=f) I.kIn M.makes M.init (beq_iff_eq.mp M.fn) (GG (F.run _ X.stack _ _ ⟨AC (s.heap.objs.size+1)::us,[]⟩ (AC (s.heap.objs.size+1)::(us++ds)) _ _ E (hr.make C us [])
  (I2.env0.make C us []) (hb _ (AC (s.heap.objs.size+1)::us) I2.kIn hl) r2 hq) λr s' hq'=>?_))
 cases r with
 |error e=>exact hx Af U _ _ e s' I2 hq'
 |ok fl=>
  cases fl with
  |ret u=>obtain⟨v,H',I3,rv,ev,q3⟩:=I2.after hq';subst ev;exact⟨rv,⟨V.ref (s.heap.objs.size+1),H',I3,rfl,q3⟩⟩
  |next=>exact C9 hq'
  |brk=>exact C9 hq'
  |cont=>exact C9 hq'
theorem u9 (M:Mk X.K C f)(F:FnOk X.prog X.w X.K X.mg X.base CX k f fd ps sp)(hr:Dg (k+1) X.A)(hg:Gl X x)(hm:X.mg x=some (.ref C))(hb:HN X.K fd ps ds)(hd:BJ dvs ds)(hx:IP CX X E)
  (ha:PA X (e::es) t) (hdb:(x == ("__debug__":Str))=false:=by decide) (he:Au (e::es) X.env=(false,eval e X.env)::Au es X.env:=by rfl) (hpl:(Cg pos (Au es X.env)).any (·.1)=false:=by rfl) :
  PE X (.Call (.Name x p) (e::es) [] pos) (Xj C sp dvs E t):=by
 intro Af s U H Q I h;refine Cr (jB I hg hm ?_ hdb);refine NF (h₀:=X.base) I.ok.mod.kin M.kp (Dv (ha pos Af s U H _ I h) λus s1 e=>e.el λvs H1 I1 r q=>⟨I1.kIn,?_⟩) he hpl;exact Ν M F hr hb hd hx I1 r q
end
section
variable {X:Cx}{CX:P4}{k:Nat}{f C:Ao}{fd:B9}{ps ks:List Str}{sp:Sp}{E:XK}{x m:Str}{p pos apos kpos:Pos}{e o:Bv}{es:List Bv}{kws:List E1}{te ta:TE}{t tk:TA}{nm:Option Str}
variable {g:List Ad->List Ad->List Ad}{gV:List V->List V->List V}
end
structure Ef (N P:List Str)(sc:JB):Prop where
 kind:sc.kind=.function
 co:sc.isCoroutine=false
 gen:sc.isGenerator=false
 nd:N.Nodup
 pre:N.take P.length=P
 par:∀x∈P,sc.names.lookup x=some .local\/sc.names.lookup x=some .cell
 nofree:∀y∈sc.names,y.2≠.free
theorem tQ {kindOf:Str->Option FA}{x:Str}:∀{binds:List (Str×Ad)}{m:Str->Option Ad},(∀v,(x,v)∉binds)->Pq kindOf binds m x=m x
 |[],_,_=>rfl
 |(n,v)::r,m,h=>by
  unfold Pq;rw[tQ λw hw=>h w (AE _ hw)];split
  .have:x≠n:=by rintro rfl;exact h v AF
   simp[this]
  .rfl
theorem tO {kindOf:Str->Option FA}{x:Str}:∀{binds:List (Str×Ad)}{m:Str->Option Ad},(∀v,(x,v)∉binds)->Pr kindOf binds m x=m x
 |[],_,_=>rfl
 |(n,v)::r,m,h=>by
  unfold Pr;rw[tO λw hw=>h w (AE _ hw)];split
  .rfl
  .have:x≠n:=by rintro rfl;exact h v AF
   simp[this]
theorem tP {kindOf:Str->Option FA}{x:Str}{v:Ad}:∀{P:List Str}{vs:List Ad}{i:Nat}{m:Str->Option Ad},P.Nodup->P[i]? = some x->vs[i]? = some v->kindOf x=some .local ->
  Pq kindOf (P.zip vs) m x=some v
 |[],_,_,_,_,h,_,_=>by simp at h
 |_::_,[],_,_,_,_,h,_=>by simp at h
 |p::P,w::vs,0,m,nd,h1,h2,hk=>by
  simp at h1 h2;subst h1;subst h2;show Pq kindOf ((p,w)::P.zip vs) m p=_;unfold Pq;rw[tQ λv hv=>(FN.mp nd).1 (NB hv).1,if_pos hk];simp
 |p::P,w::vs,i+1,m,nd,h1,h2,hk=>by
  show Pq kindOf ((p,w)::P.zip vs) m x=_;unfold Pq;exact tP (i:=i) (FN.mp nd).2 (by simpa using h1) (by simpa using h2) hk
theorem tN {kindOf:Str->Option FA}{x:Str}{v:Ad}:∀{P:List Str}{vs:List Ad}{i:Nat}{m:Str->Option Ad},P.Nodup->P[i]? = some x->vs[i]? = some v->kindOf x≠some .local ->
  Pr kindOf (P.zip vs) m x=some v
 |[],_,_,_,_,h,_,_=>by simp at h
 |_::_,[],_,_,_,_,h,_=>by simp at h
 |p::P,w::vs,0,m,nd,h1,h2,hk=>by
  simp at h1 h2;subst h1;subst h2;show Pr kindOf ((p,w)::P.zip vs) m p=_;unfold Pr;rw[tO λv hv=>(FN.mp nd).1 (NB hv).1,if_neg hk];simp
 |p::P,w::vs,i+1,m,nd,h1,h2,hk=>by
  show Pr kindOf ((p,w)::P.zip vs) m x=_;unfold Pr;exact tN (i:=i) (FN.mp nd).2 (by simpa using h1) (by simpa using h2) hk
noncomputable def start (N:List Str)(vs:List V):St:=vs.map some++Ax (N.length-vs.length) none
noncomputable def Im (CX:P4)(P:AX)(w:Bj)(K:Ac)(mg:Str->Option Ad)(base:BU)(N:List Str)(qual:Str)(scope:JB)(f:Ao)(cd:Ad)(A:Bq)(outer:List Env)(s:Aj)(H:Hp)(E:XK):Cx where
 prog:=P
 w:=w
 K:=K
 mg:=mg
 base:=base
 A:=A.deeper (EQ qual scope s.heap.objs.size f cd)
 N:=N
 s₀:=s
 H₀:=H
 env:=EQ qual scope s.heap.objs.size f cd
 outer:=outer
 stack:=EQ qual scope s.heap.objs.size f cd::outer
 ex:=[]
 calm:=true
 fn:=λ_=>true
 pn:=[]
 xe:=λe s'=>Av (AA P w) (A.deeper (EQ qual scope s.heap.objs.size f cd)) (leaving (EQ qual scope s.heap.objs.size f cd) e) (λ_ s''=>CX outer H s E e s'') (λe' s''=>CX outer H s E e' s'') s'
theorem rY {sc:JB}{n:Nat}{x:Str}(h:sc.names.lookup x=some .cell):∃c,(Wt n sc.names []).lookup x=some c:=by
 have q:=LR sc.names n [] (.inl h);exact Ls.mp q
theorem ZoK {CX:P4}{P:AX}{w:Bj}{K:Ac}{mg:Str->Option Ad}{base:BU}{N ps:List Str}{qual:Str}{scope:JB}{f:Ao}{cd:Ad}{A:Bq}{outer:List Env}{s s1:Aj}{H:Hp}{E:XK}{us:List Ad}{vs:List V}
  (S:Ef N ps scope) (hd:A.handled=none) (e0:Oq P w K mg base A outer s H) (hl:vs.length=ps.length) (r:BJ vs us)
  (x:InCallC s s.heap.objs.size (Pq (EQ qual scope s.heap.objs.size f cd).kindOf (ps.zip us) λ_=>none) (Wt (s.heap.objs.size+1) scope.names []) (Pr (EQ qual scope s.heap.objs.size f cd).kindOf (ps.zip us) λ_=>none) s1) :
  A6 (Im CX P w K mg base N qual scope f cd A outer s H E) [] (start N vs) H s1:=by
 have hpl:ps.length<=N.length:=by have:=congrArg Ey S.pre;rw[AZ]at this;ext
 obtain⟨h1,tk,rfl,hk⟩:=x.done;have noA:∀b:Ao,b∉(Im CX P w K mg base N qual scope f cd A outer s H E).ex:=λb z=>absurd (show b∈([]:List Ao)from z) (by simp)
 refine ⟨⟨e0.mod,S.kind,rfl,rfl,AJ _,λy z c h1 h2=>?_,λy hy=>?_,λy c _ h=>?_,λ_=>hd,Around.frames_deeper e0.frames,.inr ⟨rfl,rfl⟩,λb z=>absurd z (noA b),e0.bs,e0.bsz,λb _ _=>noA b,λb z=>absurd z (noA b),e0.funs,e0.frf⟩,
  rfl,e0.bare,Un.kept hk,⟨_,x.toInCall.ns,λi y v h1 h2 h3=>?_⟩,λy c h=>⟨_,x.cell y c h⟩,e0.hok.fresh (AJ _),λy c h=>?_,λp hp=>absurd (show p∈([]:List (Ao×Obj)) from hp) (by simp),e0.hok.kept hk,?_,λ_ h=>nomatch h⟩
 .exact name_of_addr x.apart (EI h1) (EI h2)
 .have hy:scope.names.lookup y=some .cell\/scope.names.lookup y=some .free:=hy;rcases hy with hy|hy
  .exact rY hy
  .exact absurd rfl (S.nofree _ (EI hy))
 .exact Fu (x.above y c (EI h))
 .have hi:i<vs.length:=by
   unfold start at h2;by_cases hi:i<vs.length
   .exact hi
   .rw[Cj (by simpa using hi)]at h2;rw[List.getElem?_replicate]at h2;split at h2<;>cases h2
  have ha:vs[i]? = some v:=by
   unfold start at h2;rw[C1 (by simpa using hi),AH]at h2;cases e:vs[i]? with
   |none=>rw[e]at h2;cases h2
   |some a=>rw[e]at h2;cases h2;rfl
  obtain⟨u,hu,rv⟩:=r.get ha
  have hp:ps[i]? = some y:=by
   rw[<- S.pre,List.getElem?_take_of_lt (by ext)];exact h1
  have ndP:ps.Nodup:=by rw[<- S.pre];exact S.nd.sublist (GB _ _)
  refine⟨u,rv,?_⟩;rcases S.par y (Aw hp)with k|k
  .exact .inl ⟨k,tP ndP hp hu k⟩
  .obtain⟨c,e⟩:=rY (n:=s.heap.objs.size+1) k;refine .inr ⟨.inl k,c,e,?_⟩;have q:=x.cell y c e;rw[tN ndP hp hu (by show scope.names.lookup y≠_;rw[k];decide)]at q;exact q
 .exact e0.hok.fresh (Fu (x.above y c (EI h)))
 .unfold start;show _=N.length;rw[As,Ab,Br];ext
theorem jd {CX:P4}{P:AX}{w:Bj}{K:Ac}{mg:Str->Option Ad}{base:BU}{k:Nat}{f:Ao}{name qual:Str}{params:Arguments}{body:List A4}{scope:JB}{dV kV doc pm cdv ct oc:Ad}{an od:Option Ao}
  {osl:Array (Option Ad)} {N ps:List Str} {sp:Sp} (lk:K.lookup f=some ⟨oc,od,.func (FG name qual params body scope dV kV doc pm an cdv ct),osl⟩) (hcd:Kr K cdv qual=true) (S:Ef N ps scope)
  (len:∀vs H Q E,sp vs H Q E->vs.length=ps.length)
  (hbody:∀ (A:Bq) (outer:List Env) (s:Aj) (H:Hp) (vs:List V) (Q:VK) (E:XK),Dg k (A.deeper (EQ qual scope s.heap.objs.size f cdv))->sp vs H Q E ->
   ∃ t,K3 (Im CX P w K mg base N qual scope f cdv A outer s H E) body t/\t { nx:=λ_ H'=>Q .non H',rt:=Q } (start N vs) H) :
  FnOk P w K mg base CX (k+1) f (FG name qual params body scope dV kV doc pm an cdv ct) ps sp:=by
 refine⟨len,λA outer s H args us vs Q E hr e0 hb r hsp=>?_⟩;have hl:=len _ _ _ _ hsp;have KX:K.In s.heap:=e0.mod.kin.keeps λb o e=>(e0.bs b o e).1;have lim:s.heap.NoLimit:=e0.mod.nolimit.keeps λb o e=>(e0.bs b o e).1
 have hkind:∀y∈ps.zip us,scope.names.lookup y.1=some .local\/(scope.names.lookup y.1=some .cell/\((Wt (s.heap.objs.size+1) scope.names []).lookup y.1).isSome=true):=λ⟨n,v⟩ hy=>by
  rcases S.par n (NB hy).1 with q|q
  .exact .inl q
  .exact .inr ⟨q,LR _ _ _ (.inl q)⟩
 refine codeAny_call_function hr.depth (KX _ _ lk) rfl S.co S.gen rfl (PySem.W.codeRec_of KX hcd) (hb _ _ _ _ ?_);refine wpAny_newFunctionEnv_cells S.kind hkind λenv he s1 x=>?_;subst he;refine⟨lim.keeps x.toInCall.keep,codeAny_func ?_⟩;obtain⟨t,ht,hq⟩:=hbody A outer s H vs Q E (hr.deeper _) hsp;have I:A6 (Im CX P w K mg base N qual scope f cdv A outer s H E) [] (start N vs) H s1:=ZoK S hr.hd e0 hl r x;refine BO (ht [] s1 (start N vs) H _ I hq) (λfl s' hs=>?_) λe s' hs=>hs
 have fin:∀{U':St} {H':Hp} {v:V} {u:Ad},A6 (Im CX P w K mg base N qual scope f cdv A outer s H E) [] U' H' s'->RelV v u->Q v H'->CE outer P w H s Q u s':=
  λ{U' H' v u} J rv q=>⟨v,H',J.os,J.bare,J.base,J.hok,rv,q⟩
 cases fl with
 |ret u=>obtain⟨v,U',H',J,rv,q⟩:=hs;exact fin J rv q
 |next=>obtain⟨U',H',J,q⟩:=hs;exact fin (v:=V.non) (u:=F6) J rfl q
 |brk=>obtain⟨_,_,_,q⟩:=hs;exact C9 q
 |cont=>obtain⟨_,_,_,q⟩:=hs;exact C9 q
section
variable {X:Cx}{x:Str}{p pos:Pos}{e:Bv}{es:List Bv}{t:TA}{id T:String}{r:List V->Hp->VK->Prop}
def cV (r:List V->Hp->VK->Prop)(t:TA):TE:=λU H Q=>t U H λvs H1=>r vs H1 Q
theorem ψ (hc:Fe X (.builtin id) r)(hg:Gl X x)(hm:X.mg x=none)(hv:DK x=some (.builtin id))(ha:PA X (e::es) t)(hn:x≠"__name__":=by decide)(hdb:(x == ("__debug__":Str))=false:=by decide)
  (he:Au (e::es) X.env=(false,eval e X.env)::Au es X.env:=by rfl) (hpl:(Cg pos (Au es X.env)).any (·.1)=false:=by rfl):PE X (.Call (.Name x p) (e::es) [] pos) (cV r t):=by
 intro Af s U H Q I h;refine Cr (PZ I hg hm hv ?_ hn hdb);exact E2 (Dv (ha pos Af s U H _ I h) λus s1 e=>e.el λvs H1 I1 r1 q1=>hc Af s1 U H1 vs us Q I1 r1 q1) he hpl
theorem Zob (hc:Fe X (.type T) r)(hg:Gl X x)(hm:X.mg x=none)(hv:DK x=some (.type T))(ha:PA X (e::es) t)(hn:x≠"__name__":=by decide)(hdb:(x == ("__debug__":Str))=false:=by decide)
  (he:Au (e::es) X.env=(false,eval e X.env)::Au es X.env:=by rfl) (hpl:(Cg pos (Au es X.env)).any (·.1)=false:=by rfl):PE X (.Call (.Name x p) (e::es) [] pos) (cV r t):=by
 intro Af s U H Q I h;refine Cr (PZ I hg hm hv ?_ hn hdb);exact BF (Dv (ha pos Af s U H _ I h) λus s1 e=>e.el λvs H1 I1 r1 q1=>hc Af s1 U H1 vs us Q I1 r1 q1) he hpl
end
end L2
namespace HT
open PySem PyProof.Rows
section
open PySem.SeqAt
open PySem.MeetsSeq PySem.MeetsSeq2 PySem.MeetsSeq3
end
section
variable {prog:AX}{w:Bj}{A:Bq}{E:Ad->Aj->Prop}{s:Aj}
noncomputable def sIx (n d:Nat):Option Int->Nat
 |none=>d
 |some v=>if v<0 then(v+(n:Int)).toNat else min v.toNat n
theorem sIx_none (n d:Nat):sIx n d none=d:=rfl
theorem sIx_nat (n d k:Nat):sIx n d (some (k:Int))=min k n:=by
 show(if (k:Int)<0 then((k:Int)+(n:Int)).toNat else min (k:Int).toNat n)=min k n;rw[if_neg (by ext),Bt]
theorem sh (n d:Nat)(hd:d<=n)(o:Option Int):sIx n d o<=n:=by
 cases o with
 |none=>exact hd
 |some v=>
  show(if v<0 then(v+(n:Int)).toNat else min v.toNat n)<=n;by_cases hv:v<0
  .rw[if_pos hv];ext
  .rw[if_neg hv];exact Nat.min_le_right _ _
theorem qB (v:Int)(n d:Nat):(if v<0 then max (v+(n:Int)) 0 else min v (n:Int))=((sIx n d (some v):Nat):Int):=by
 show(if v<0 then max (v+(n:Int)) 0 else min v (n:Int))=(((if v<0 then(v+(n:Int)).toNat else min v.toNat n):Nat):Int);by_cases hv:v<0
 .simp only[if_pos hv];ext
 .simp only[if_neg hv];ext
theorem Zna (lo hi:Option Int)(n:Nat):FC lo hi 1 (n:Int)=(((sIx n 0 lo:Nat):Int),((sIx n n hi:Nat):Int)):=by
 have h1:¬((1:Int)<0):=by ext
 unfold FC;simp only[h1,if_false];refine SG ?_ ?_
 .cases lo with
  |none=>rfl
  |some v=>exact qB v n 0
 .cases hi with
  |none=>rfl
  |some v=>exact qB v n n
theorem Zmw (i j:Nat):Ed (i:Int) (j:Int) 1=j-i:=by
 unfold Ed;have h1:(1:Int) > 0:=by ext
 simp only[h1,if_true,WP];split<;>ext
theorem vN {v:Ad}{o:Option Int}{Q:Option Int->Aj->Prop}(p:LU v o)(h:Q o s):Av (AA prog w) A (WS v) Q E s:=by
 cases p with
 |none=>exact bV h
 |int i t=>exact slicePart_int h
theorem ZfF {sl:Ao}{vl vu:Ad}{lo hi:Option Int}{n:Nat}{Q:Int×Int×Nat->Aj->Prop}(hs:s.heap.IsSliceOf sl vl vu .none)(pl:LU vl lo)(pu:LU vu hi)
  (h:Q (((sIx n 0 lo:Nat):Int),1,sIx n n hi-sIx n 0 lo) s):Av (AA prog w) A (Jf (.ref sl) (pure (n:Int))) Q E s:=by
 obtain⟨os,hos,hcs,hds⟩:=id hs;unfold Jf WT;refine Aa (Aa (RA hos hds (x:=vl) rfl (Aa (RA hos hds (x:=vu) rfl (Aa (RA hos hds (x:=.none) rfl (Ae ?_)))))));refine Aa (bV ?_);show Av _ _ (if ((1:Int) == 0)=true then _ else _) _ _ s;rw[if_neg (by decide)];refine Aa (vN pl (Aa (vN pu (Aa (Ae ?_)))));show Av _ _ (match FC lo hi 1 (n:Int)with | (lo,hi)=>pure (lo,(1:Int),Ed lo hi 1)) _ _ s;rw[Zna lo hi n];show Av _ _ (pure (((sIx n 0 lo:Nat):Int),(1:Int),Ed ((sIx n 0 lo:Nat):Int) ((sIx n n hi:Nat):Int) 1)) _ _ s;rw[Zmw];exact Ae h
theorem Θ (xs:Array Ad)(i k:Nat):((Bu k).filterMap λ(m:Nat)=>xs[((i:Int)+(m:Int)*1).toNat]?).toArray=((xs.toList.drop i).take k).toArray:=by
 have e:(λ(m:Nat)=>xs[((i:Int)+(m:Int)*1).toNat]?)=λm=>xs[i+m]?:=by
  funext m;have:((i:Int)+(m:Int)*1).toNat=i+m:=by ext
  rw[this]
 rw[e];have:=pick_run xs i k;rw[Jr]at this;have e2:((λx=>xs[x]?) ∘ λx=>i+x)=λm=>xs[i+m]?:=rfl;rw[e2]at this;rw[this]
theorem getItem_tuple_cut {t sl:Ao}{items:Array Ad}{vl vu:Ad}{lo hi:Option Int}{Q:Ad->Aj->Prop}(ht:IsTup s.heap t items)(hs:s.heap.IsSliceOf sl vl vu .none)(pl:LU vl lo)(pu:LU vu hi)
  (hw:¬(sIx items.size 0 lo=0/\sIx items.size items.size hi=items.size))
  (h:Q (.ref s.heap.objs.size) {s with heap:=s.heap.push {cls:=.type "tuple",data:=.seq ((items.toList.drop (sIx items.size 0 lo)).take (sIx items.size items.size hi-sIx items.size 0 lo)).toArray} })
  (hsz:items.size<=An):Av (AA prog w) A (JQ (.ref t) (.ref sl)) Q E s:=by
 have htake:sizeOk (.seq ((items.toList.drop (sIx items.size 0 lo)).take (sIx items.size items.size hi-sIx items.size 0 lo)).toArray):=by
  show((items.toList.drop (sIx items.size 0 lo)).take (sIx items.size items.size hi-sIx items.size 0 lo)).toArray.size<=An;rw[AV,AZ,F2,BH];ext
 have hj:sIx items.size items.size hi<=items.size:=sh _ _ (AJ _) hi;obtain⟨os,hos,hcs,hds⟩:=id hs;have hTs:s.TypeIs (.ref sl) "slice":=⟨os,hos,hcs⟩;unfold JQ;try with_reducible refine BZ ?_
 first | refine Aa (Ae ?_) | skip
 refine Aa (wpAny_sequenceKey ht.typeIs (by decide) ?_)
 refine Aa (HZ (name:=Al "__getitem__") ht.typeIs EU
  (Cd EU ht.typeIs entry_tuple_getitem ?_ (args_tuple_getitem _ _)))
 show Av _ _ (WR (.ref t) >>= _) _ _ s;refine Aa (tupleItemsOf_ ht ?_);refine Aa (Fp hTs ?_);rw[if_pos (by decide)];refine Aa (ZfF hs pl pu ?_)
 have hno:¬((((sIx items.size 0 lo:Nat):Int) == 0 && (1:Int) == 1 && (sIx items.size items.size hi-sIx items.size 0 lo) == items.size)=true):=by
  intro q;rw[BM,BM]at q;have q1:((sIx items.size 0 lo:Nat):Int)=0:=eq_of_beq q.1.1;have q2:sIx items.size items.size hi-sIx items.size 0 lo=items.size:=eq_of_beq q.2;exact hw ⟨by ext,by ext⟩
 show Av _ _ (if (((sIx items.size 0 lo:Nat):Int) == 0 && (1:Int) == 1 && (sIx items.size items.size hi-sIx items.size 0 lo) == items.size)=true then _ else _) _ _ s;rw[if_neg hno,Θ]
 first
  |exact Aa (m:=Eo _) (B6 (Ae ⟨_,rfl,Ae h⟩) htake)
  |exact Aa (m:=Eo _) (B6 (Aa (Ae (Ae ⟨_,rfl,Ae h⟩))) htake)
  |exact Aa (Aa (m:=Eo _) (B6 (Ae (Ae ⟨_,rfl,Ae h⟩)) htake))
  |exact Aa (Aa (m:=Eo _) (B6 (Ae ⟨_,rfl,Ae h⟩) htake))
end
end HT
namespace L2
open PySem PySem.Spec PyProof.Rows
abbrev TO:=St->Hp->(Option Int->Hp->Prop)->Prop
def PO (X:Cx)(e:Option Bv)(t:TO):Prop:=
 ∀(Af:List (Ao×Obj)) (s:Aj) (U:St) (H:Hp) (Q:Option Int->Hp->Prop),A6 X Af U H s->t U H Q ->
  Av (AA X.prog X.w) X.A (evalPart e X.env) (λu s'=>∃o H',A6 X Af U H' s'/\LU u o/\Q o H') X.xe s
def RX:TO:=λ_ H Q=>Q none H
def Xf (t:TE):TO:=λU H Q=>t U H λx H1=>∃i,x=.int i/\Q (some i) H1
section
variable {X:Cx}{e:Bv}{te:TE}{lo hi:Option Bv}{tl th:TO}{pos p2:Pos}
theorem wn:PO X none RX:=by
 intro Af s U H Q I h;rw[evalPart_none];exact Ae ⟨none,H,I,.none,h⟩
theorem wo (h:PE X e te):PO X (some e) (Xf te):=by
 intro Af s U H Q I hw;rw[evalPart_some];refine Dv (h Af s U H _ I hw) λu s1 e=>e.el λx H1 I1 r1 q1=>?_;obtain⟨i,rfl,q⟩:=q1;obtain⟨t,rfl⟩:=r1;exact⟨some i,H1,I1,.int i t,q⟩
def Sv (X:Cx)(r:V->Option Int->Option Int->Hp->VK->Prop):Prop:=
 ∀(Af:List (Ao×Obj)) (s:Aj) (U:St) (H:Hp) (x:V) (v vl vu:Ad) (lo hi:Option Int) (sl:Ao) (Q:VK),A6 X Af U H s->RelV x v->s.heap.IsSliceOf sl vl vu .none->LU vl lo->LU vu hi->r x lo hi H Q ->
  ∃T id,Nx (.type T) "__getitem__" = pure (some (.builtin id))/\s.TypeIs v T/\Av (AA X.prog X.w) X.A (JQ v (.ref sl)) (EP X Af U Q) X.xe s
def ia (r:V->Option Int->Option Int->Hp->VK->Prop)(te:TE)(tl th:TO):TE:=λU H Q=>te U H λx H1=>tl U H1 λl H2=>th U H2 λu H3=>r x l u H3 Q
theorem Η {r:V->Option Int->Option Int->Hp->VK->Prop}(hr:Sv X r)(he:PE X e te)(hl:PO X lo tl)(hu:PO X hi th):PE X (.Subscript e (.Slice lo hi none p2) pos) (ia r te tl th):=by
 intro Af s U H Q I h;refine TX (Dv (he Af s U H _ I h) λv s1 ⟨x,H1,I1,r1,q1⟩=>?_);refine wpAny_Slice (Dv (hl Af s1 U H1 _ I1 q1) λvl s2 ⟨l,H2,I2,pl,q2⟩=>Dv (hu Af s2 U H2 _ I2 q2) λvu s3 ⟨u,H3,I3,pu,q3⟩=>?_);rw[evalPart_none];refine Ae ?_;have I4:A6 X Af U H3 {s3 with heap:=s3.heap.push {cls:=.type "slice",data:=.fields #[vl,vu,.none]} }:=I3.kept (t':=s3.toks) λb ob q=>Ah _ q;obtain⟨T,id,hT,ht,hg⟩:=hr Af {s3 with heap:=s3.heap.push {cls:=.type "slice",data:=.fields #[vl,vu,.none]} } U H3 x v vl vu l u s3.heap.objs.size Q I4 r1 (Vz ..) pl pu q3;show Av (AA X.prog X.w) X.A (OQ e (.Slice lo hi none p2) v (.ref s3.heap.objs.size)) (EP X Af U Q) X.xe {s3 with heap:=s3.heap.push {cls:=.type "slice",data:=.fields #[vl,vu,.none]} };exact bU (ops:=[.ref s3.heap.objs.size,v]) ht hT hg (by with_unfolding_all rfl)
noncomputable def Ki (xs:List V)(lo hi:Option Int):List V:=(xs.drop (HT.sIx xs.length 0 lo)).take (HT.sIx xs.length xs.length hi-HT.sIx xs.length 0 lo)
theorem wL (xs:List V)(lo hi:Option Int):(Ki xs lo hi).length<=xs.length:=by
 unfold Ki;rw[AZ,F2];ext
def fM (K:Ac):V->Option Int->Option Int->Hp->VK->Prop:=λx lo hi H Q=>∃a xs,x=.ref a/\LC K H a xs /\
 ¬(HT.sIx xs.length 0 lo=0/\HT.sIx xs.length xs.length hi=xs.length)/\∀p,H p=none->Q (.ref p) (CF H p (.tup (Ki xs lo hi)))
theorem ud:Sv X (fM X.K):=by
 intro Af s U H x v vl vu lo hi sl Q I rx hs pl pu h;obtain⟨a,xs,rfl,hx,hw,q⟩:=h;cases rx;obtain⟨Bn,r,ht,hz⟩:=I.tuple hx;have hlen:Bn.toArray.size=xs.length:=by rw[AV];exact r.length.symm
 refine⟨"tuple",_,EU.lookup,ht.typeIs,?_⟩;refine HT.getItem_tuple_cut ht hs pl pu (by rw[hlen];exact hw) ?_ (by rw[hlen];exact hz);rw[hlen];refine⟨.ref s.heap.objs.size,_,I.laid (t':=s.toks) (o:=.tup (Ki xs lo hi)) (λb ob q=>Ah _ q) (AJ _) ?_,rfl,q _ (I.hok.fresh (AJ _))⟩;exact⟨A3 (wL xs lo hi) hz,_,(r.drop (HT.sIx xs.length 0 lo)).take (HT.sIx xs.length xs.length hi-HT.sIx xs.length 0 lo),Mh.new _ _⟩
end
noncomputable def Rs (n:Nat)(i:Int):Option Nat:=if 0<=i then(if i<n then some i.toNat else none)else if -(n:Int)<=i then some (i+n).toNat else none
noncomputable def FK {α:Type}(xs:List α)(i:Int):Option α:=(Rs xs.length i).bind λj=>xs[j]?
theorem qX {n:Nat}{i:Int}{j:Nat}(h:Rs n i=some j):Wr i n=some j/\j<n/\-(n:Int)<=i/\i<n:=by
 unfold Rs at h;by_cases h0:0<=i
 .rw[if_pos h0]at h;by_cases h1:i<n
  .rw[if_pos h1]at h;have e:i.toNat=j:=Bb h;exact⟨by rw[seqIndex_of h0 h1,e],by ext,by ext,h1⟩
  .rw[if_neg h1]at h;cases h
 .rw[if_neg h0]at h;by_cases h1:-(n:Int)<=i
  .rw[if_pos h1]at h;have e:(i+n).toNat=j:=Bb h;exact⟨by rw[seqIndex_neg (by ext) h1,e],by ext,h1,by ext⟩
  .rw[if_neg h1]at h;cases h
theorem iV {α:Type}{xs:List α}{i:Int}{v:α}(h:FK xs i=some v):∃j,Wr i xs.length=some j/\xs[j]? = some v/\j<xs.length/\-(xs.length:Int)<=i/\i<xs.length:=by
 unfold FK at h;cases e:Rs xs.length i with
 |none=>rw[e]at h;cases h
 |some j=>rw[e]at h;obtain⟨h1,h2,h3,h4⟩:=qX e;exact⟨j,h1,h,h2,h3,h4⟩
theorem Oj {α:Type}{xs:List α}{j:Nat}{v:α}(h:xs[j]? = some v):FK xs (j:Int)=some v:=by
 have hj:j<xs.length:=(Ai.mp h).1
 have e:Rs xs.length (j:Int)=some j:=by
  unfold Rs;rw[if_pos (by ext),if_pos (by ext)];simp
 unfold FK;rw[e];exact h
theorem yg {α:Type}(xs:List α)(v:α):FK (xs++[v]) (-1)=some v:=by
 have hl:(xs++[v]).length=xs.length+1:=by simp
 have e:Rs (xs++[v]).length (-1)=some xs.length:=by
  unfold Rs;rw[hl,if_neg (by decide),if_pos (by ext)];congr 1
  ext
 unfold FK;rw[e];show(xs++[v])[xs.length]? = some v;simp
def OP (b:Bv):Prop:=∀o i,Mm b false o i=operate [o,i] (JQ o i)
def Pg (X:Cx)(r:R2):Prop:=
 ∀(value slice:Bv) (Af:List (Ao×Obj)) (s:Aj) (U:St) (H:Hp) (x y:V) (v u:Ad) (Q:VK),A6 X Af U H s->RelV x v->RelV y u->r x y H Q ->
  Mm slice false v u=operate [v,u] (JQ v u)->Av (AA X.prog X.w) X.A (OQ value slice v u) (EP X Af U Q) X.xe s
def Nv (X:Cx)(id:String)(r:V->List V->Hp->VK->Prop):Prop:=
 ∀(Af:List (Ao×Obj)) (s:Aj) (U:St) (H:Hp) (x:V) (xs:List V) (v:Ad) (us:List Ad) (Q:VK),A6 X Af U H s->RelV x v->BJ xs us->r x xs H Q ->
  Av (AA X.prog X.w) X.A (IA (.builtin id) (v::us)) (EP X Af U Q) X.xe s
section
variable {X:Cx}{a b:Bv}{ta tb:TE}{pos:Pos}
theorem kz {r:R2}(hr:Pg X r)(ha:PE X a ta)(hb:PE X b tb)(hs:OP b):PE X (.Subscript a b pos) (Xg r ta tb):=by
 intro Af s U H Q I h;exact TX (Uy ha hb I h λv u s2 x y H2 I2 rx ry q=>hr a b Af s2 U H2 x y v u Q I2 rx ry q (hs _ _))
def fS (K:Ac):R2:=λx y H Q=>∃p xs i v,x=.ref p/\y=.int i/\FO K H p xs/\FK xs i=some v/\Q v H
def fQ (K:Ac):R2:=λx y H Q=>∃p xs i v,x=.ref p/\y=.int i/\LC K H p xs/\FK xs i=some v/\Q v H
def fR:R2:=λx y H Q=>∃z i c,x=.str z/\y=.int i/\z.length<=An/\FK z.cps.toList i=some c/\Q (.str ⟨#[c]⟩) H
theorem vp:Pg X (fS X.K):=by
 intro value slice Af s U H x y v u Q I rx ry h hs;symm;obtain⟨p,xs,i,z,e1',e2',hq,he,q⟩:=h;cutsat;subst e1' e2';cases rx;obtain⟨t,rfl⟩:=ry;obtain⟨Bn,r,pl,hz⟩:=I.list hq;obtain⟨j,h1,h2,h3,h4,h5⟩:=iV he;obtain⟨w,ew,rw'⟩:=r.get h2;have hl:=r.length;have hn:=KD;have fin:EP X Af U Q w s:=⟨z,H,I,rw',q⟩;by_cases h0:0<=i
 .have hj:i.toNat=j:=by
   rw[seqIndex_of h0 h5]at h1;exact Bb h1
  exact item_listR pl.isList h0 (by ext) (by rw[hj];simpa using ew) fin hs
 .have hj:(i+(Bn.toArray.size:Int)).toNat=j:=by
   rw[seqIndex_neg (by ext) h4]at h1;rw[AV,<- hl];exact Bb h1
  exact P9 (x:=w) pl.isList.typeIs Vi.lookup
   (wpAny_getItem_list_neg (Q:=λr s'=>r=w/\EP X Af U Q r s') pl.isList (by ext) (by rw[AV]<;>ext) (by ext) (by rw[hj];simpa using ew) ⟨rfl,fin⟩) hs
theorem jy:Pg X (fQ X.K):=by
 intro value slice Af s U H x y v u Q I rx ry h hs;symm;obtain⟨p,xs,i,z,e1',e2',hq,he,q⟩:=h;cutsat;subst e1' e2';cases rx;obtain⟨t,rfl⟩:=ry;obtain⟨Bn,r,pl,hz⟩:=I.tuple hq;obtain⟨j,h1,h2,h3,h4,h5⟩:=iV he;obtain⟨w,ew,rw'⟩:=r.get h2;have hl:=r.length;have hn:=KD;have fin:EP X Af U Q w s:=⟨z,H,I,rw',q⟩
 exact P9 (x:=w) pl.typeIs slot_tuple_getitem.lookup
  (getItem_tuple (j:=j) (Q:=λr s'=>r=w/\EP X Af U Q r s') pl (by ext) (by ext) (by rw[AV,<- hl];exact h1) (by simpa using ew) ⟨rfl,fin⟩) hs
theorem jw:Pg X fR:=by
 intro value slice Af s U H x y v u Q I rx ry h hs;symm;obtain⟨z,i,c,e1',e2',hz,he,q⟩:=h;cutsat;subst e1' e2';obtain⟨t,rfl⟩:=rx;obtain⟨t',rfl⟩:=ry;obtain⟨j,h1,h2,h3,h4,h5⟩:=iV he;have hl:z.cps.toList.length=z.length:=by simp[Str.length]
 rw[hl]at h1 h4 h5;have hn:=KD
 exact bU (Ny s z t) slot_str_getitem.lookup (getItem_str (c:=c) (by
  have e1:decide (i < -(2^63:Int))=false:=decide_eq_false (by ext);have e2:decide (i >= 2^63)=false:=decide_eq_false (by ext);rw [e1,e2,MD]) (by rw [h1];simpa using h2) ⟨.str ⟨#[c]⟩,H,I.tok _,⟨_,rfl⟩,q⟩) hs
theorem ZiO (lo hi:Option Int)(n:Nat):(F0 lo hi none n).1=((HT.sIx n 0 lo:Nat):Int)/\(F0 lo hi none n).2.1=((HT.sIx n n hi:Nat):Int)/\(F0 lo hi none n).2.2=1:=by
 refine⟨?_,?_,rfl⟩
 .cases lo with
  |none=>simp[F0,HT.sIx]
  |some i=>
   simp only[F0,HT.sIx,Py,show(1:Int) > 0 by decide,if_true];by_cases h:i<0
   .simp only[h,if_true]<;>ext
   .simp only[h,if_false]<;>ext
 .cases hi with
  |none=>simp[F0,HT.sIx]
  |some i=>
   simp only[F0,HT.sIx,Py,show(1:Int) > 0 by decide,if_true];by_cases h:i<0
   .simp only[h,if_true]<;>ext
   .simp only[h,if_false]<;>ext
theorem Zi7 (Bn:List Ad)(lo hi:Option Int):slicePick Bn.toArray lo hi none=((Bn.drop (HT.sIx Bn.length 0 lo)).take (HT.sIx Bn.length Bn.length hi-HT.sIx Bn.length 0 lo)).toArray:=by
 obtain⟨h1,h2,h3⟩:=ZiO lo hi Bn.toArray.size;unfold slicePick;rw[h1,h2,h3];simp only[sliceRange_one,pick_run,AV]<;>rfl
def fN (K:Ac):V->Option Int->Option Int->Hp->VK->Prop:=λx lo hi H Q=>∃a xs,x=.ref a/\FO K H a xs/\∀p,H p=none->Q (.ref p) (CF H p (.lst (Ki xs lo hi)))
theorem xq:Sv X (fN X.K):=by
 intro Af s U H x v vl vu lo hi sl Q I rx hs pl pu h;obtain⟨a,xs,rfl,hx,q⟩:=h;cases rx;obtain⟨Bn,r,ht,hz⟩:=I.list hx;have hlen:=r.length;refine⟨"list",_,Vi.lookup,ht.isList.typeIs,?_⟩;refine wpAny_getItem_list_slice ht.isList hs pl pu .none (by simp) ?_ (by rw[AV]<;>ext);rw[Zi7,<- hlen];refine⟨.ref s.heap.objs.size,_,I.laid (t':=s.toks) (o:=.lst (Ki xs lo hi)) (λb ob q=>Ah _ q) (AJ _) ?_,rfl,q _ (I.hok.fresh (AJ _))⟩;exact⟨A3 (wL xs lo hi) hz,_,0,(r.drop (HT.sIx xs.length 0 lo)).take (HT.sIx xs.length xs.length hi-HT.sIx xs.length 0 lo),AB _ rfl⟩
noncomputable def Hi:V->Bool
 |.non=>true
 |.bl _=>true
 |.int _=>true
 |.str _=>true
 |_=>false
noncomputable def QI:V->V->Bool
 |.non,.non=>true
 |.bl a,.bl b=>a == b
 |.bl a,.int b=>(if a then 1 else 0) == b
 |.int a,.bl b=>a == (if b then 1 else 0)
 |.int a,.int b=>a == b
 |.str a,.str b=>a == b
 |_,_=>false
theorem oG {A:Bq}{s:Aj}{y x:V}{u v:Ad}(ry:RelV y u)(rx:RelV x v)(fy:Hi y=true)(fx:Hi x=true):Eu A s u v (QI y x):=by
 cases y with
 |non=>
  cases ry;cases x with
  |non=>cases rx;exact NK _
  |bl b=>cases rx;exact SeqAt.EqAt.none_bool b
  |int b=>obtain⟨t,rfl⟩:=rx;exact SeqAt.EqAt.none_int b t
  |str b=>obtain⟨t,rfl⟩:=rx;exact SeqAt.EqAt.none_str b t
  |_=>exact absurd (show false=true from fx) Am
 |bl a=>
  cases ry;cases x with
  |non=>cases rx;exact SeqAt.EqAt.bool_none a
  |bl b=>cases rx;exact SeqAt.EqAt.bool_bool a b
  |int b=>obtain⟨t,rfl⟩:=rx;exact SeqAt.EqAt.bool_int a b t
  |str b=>obtain⟨t,rfl⟩:=rx;exact SeqAt.EqAt.bool_str a b t
  |_=>exact absurd (show false=true from fx) Am
 |int a=>
  obtain⟨t',rfl⟩:=ry;cases x with
  |non=>cases rx;exact SeqAt.EqAt.int_none a t'
  |bl b=>cases rx;exact SeqAt.EqAt.int_bool a t' b
  |int b=>obtain⟨t,rfl⟩:=rx;exact SeqAt.EqAt.int_int a t' b t
  |str b=>obtain⟨t,rfl⟩:=rx;exact Mr a t' b t
  |_=>exact absurd (show false=true from fx) Am
 |str a=>
  obtain⟨t',rfl⟩:=ry;cases x with
  |non=>cases rx;exact SeqAt.EqAt.str_none a t'
  |bl b=>cases rx;exact SeqAt.EqAt.str_bool a t' b
  |int b=>obtain⟨t,rfl⟩:=rx;exact Mq a t' b t
  |str b=>obtain⟨t,rfl⟩:=rx;exact SeqAt.EqAt.str_str a t' b t
  |_=>exact absurd (show false=true from fx) Am
 |_=>exact absurd (show false=true from fy) Am
noncomputable def Se (x:V)(u:Ad):Bool:=match u with
 |.none=>QI .non x
 |.bool b=>QI (.bl b) x
 |.int i _=>QI (.int i) x
 |.str z _=>QI (.str z) x
 |_=>false
theorem oH {x y:V}{u:Ad}(r:RelV y u)(f:Hi y=true):Se x u=QI y x:=by
 cases y with
 |non=>cases r;rfl
 |bl b=>cases r;rfl
 |int i=>obtain⟨t,rfl⟩:=r;rfl
 |str z=>obtain⟨t,rfl⟩:=r;rfl
 |_=>exact absurd (show false=true from f) Am
theorem iU {x:V}:∀{xs:List V}{us:List Ad},BJ xs us->xs.all Hi=true->us.any (Se x)=xs.any λy=>QI y x
 |_,_,.nil,_=>rfl
 |y::xs,u::us,.cons r t,f=>by
  rw[F5,BM]at f;rw[Fy,Fy,oH r f.1,iU t f.2]
theorem jR {A:Bq}{s:Aj}{x:V}{v:Ad}(rx:RelV x v)(fx:Hi x=true):∀{xs:List V}{us:List Ad},BJ xs us->xs.all Hi=true->∀u∈us,Eu A s u v (Se x u)
 |_,_,.nil,_=>λu hu=>by cases hu
 |y::xs,u::us,.cons r t,f=>λu' hu=>by
  rw[F5,BM]at f;rcases A5.mp hu with rfl|hu
  .rw[oH r f.1];exact oG r rx f.1 fx
  .exact jR rx fx t f.2 u' hu
noncomputable def ZA (x:V)(xs:List V):Bool:=xs.any λy=>QI y x
def io (K:Ac)(neg:Bool):R2:=λx y H Q=>∃p xs,y=.ref p/\(FO K H p xs\/LC K H p xs)/\Hi x=true/\xs.all Hi=true/\Q (.bl (if neg then !ZA x xs else ZA x xs)) H
theorem Zok:Gb X (A9 .In) (io X.K false):=by
 intro Af s U H x y v u Q I rx ry h;symm;obtain⟨p,xs,e1',hq,fx,fs,q⟩:=h;cutsat;subst e1';cases ry;rcases hq with hq|hq
 .obtain⟨Bn,r,pl,hz⟩:=I.list hq;refine Q9 (Se x) pl.isList (λw hw=>jR rx fx r fs w (by simpa using hw)) ⟨.bl _,H,I,rfl,?_⟩;rw[show Bn.toArray.any (Se x)=Bn.any (Se x) by simp,iU r fs];exact q
 .obtain⟨Bn,r,pl,hz⟩:=I.tuple hq;refine Qf (Se x) pl (λw hw=>jR rx fx r fs w (by simpa using hw)) ⟨.bl _,H,I,rfl,?_⟩;rw[show Bn.toArray.any (Se x)=Bn.any (Se x) by simp,iU r fs];exact q
theorem Zka:Fe X (.builtin "len") (λxs H Q=>∃p ys,xs=[.ref p]/\(FO X.K H p ys\/LC X.K H p ys)/\Q (.int ys.length) H):=by
 intro Af s U H xs us Q I r h;obtain⟨p,ys,rfl,hq,q⟩:=h;obtain⟨u,rfl,rx⟩:=Hg r;cases rx;have hn:=KD;rcases hq with hq|hq
 .obtain⟨Bn,r',pl,hz⟩:=I.list hq;have hlen:=r'.length;exact Calls.call_len_list pl.isList (by simp only[AV]<;>ext) ⟨.int ys.length,H,I.tok _,⟨s.toks+1,by rw[AV,hlen]⟩,q⟩
 .obtain⟨Bn,r',pl,hz⟩:=I.tuple hq;have hlen:=r'.length;exact len_tuple pl (by simp only[AV]<;>ext) ⟨.int ys.length,H,I.tok _,⟨s.toks+1,by rw[AV,hlen]⟩,q⟩
theorem Zk9:Fe X (.builtin "len") (λxs H Q=>∃z,xs=[.str z]/\z.length<=An/\Q (.int z.length) H):=by
 intro Af s U H xs us Q I r h;obtain⟨z,rfl,hz,q⟩:=h;obtain⟨u,rfl,t,rfl⟩:=Hg r;have hn:=KD;exact len_str (by ext) ⟨.int z.length,H,I.tok _,⟨_,rfl⟩,q⟩
theorem Zk8:Fe X (.type "list") (λxs H Q=>∃p ys,xs=[.ref p]/\(FO X.K H p ys\/LC X.K H p ys)/\∀l,H l=none->Q (.ref l) (CF H l (.lst ys))):=by
 intro Af s U H xs us Q I r h;obtain⟨p,ys,rfl,hq,q⟩:=h;obtain⟨u,rfl,rx⟩:=Hg r;cases rx
 have fin:∀(Bn:List Ad),BJ ys Bn->ys.length<=An->∀(h':BU) (c':Nat),(∀b o',s.heap.get? b=some o'->h'.get? b=some o') ->
   h'.get? s.heap.objs.size=some {cls:=.type "list",dict:=none,data:=.seq Bn.toArray c',slots:=#[]}->EP X Af U Q (.ref s.heap.objs.size) {s with heap:=h' }:=λBn r' hz h' c' kp e=>
  ⟨.ref s.heap.objs.size,_,I.laid (t':=s.toks) kp (AJ _) (show CZ X.prog X.w _ h' _ (.lst ys)from⟨hz,Bn,c',r',e⟩),rfl,q _ (I.hok.fresh (AJ _))⟩
 rcases hq with hq|hq
 .obtain⟨Bn,r',pl,hz⟩:=I.list hq;have hlen:=r'.length;obtain⟨o,ho,hc,n,hd⟩:=pl.isList;exact call_list_seq p (.inl rfl) ho hc hd (λh' c' kp e=>fin Bn r' hz h' c' kp e) (by simp only[AV]<;>ext)
 .obtain⟨Bn,r',pl,hz⟩:=I.tuple hq;have hlen:=r'.length;obtain⟨o,ho,hc,n,hd⟩:=pl;exact call_list_seq p (.inr rfl) ho hc hd (λh' c' kp e=>fin Bn r' hz h' c' kp e) (by simp only[AV]<;>ext)
theorem ZiC:Fe X (.type "tuple") (λxs H Q=>∃p ys,xs=[.ref p]/\((FO X.K H p ys/\∀l,H l=none->Q (.ref l) (CF H l (.tup ys)))\/(LC X.K H p ys/\Q (.ref p) H))):=by
 intro Af s U H xs us Q I r h;obtain⟨p,ys,rfl,h⟩:=h;obtain⟨u,rfl,rx⟩:=Hg r;cases rx;rcases h with⟨hq,q⟩|⟨hq,q⟩
 .obtain⟨Bn,r',pl,hz⟩:=I.list hq;have hlen:=r'.length;refine call_tuple_list pl.isList (λh' kp=>?_) (by simp only[AV]<;>ext);have I1:A6 X Af U H {s with heap:=h' }:=I.kept (t':=s.toks) kp
  have I2:A6 X Af U (CF H h'.objs.size (.tup ys)) {s with heap:=h'.push {cls:=.type "tuple",data:=.seq Bn.toArray} }:=
   I1.laid (t':=s.toks) (λb o e=>Ah _ e) (AJ _) (show CZ X.prog X.w _ _ _ (.tup ys)from⟨hz,Bn,r',Mh.new _ _⟩)
  exact⟨.ref h'.objs.size,_,I2,rfl,q _ (I1.hok.fresh (AJ _))⟩
 .obtain⟨Bn,r',pl,hz⟩:=I.tuple hq;exact call_tuple_same pl ⟨.ref p,H,I,rfl,q⟩
def Zp (K:Ac)(T:String)(x:V)(H:Hp):Prop:=match x with
 |.str _=>T = "str"
 |.int _=>T = "int"
 |.ref p=>(T = "list"/\∃xs,FO K H p xs)\/(T = "tuple"/\∃o,K.lookup p=some o/\o.cls=.type "tuple"/\o.dict=none) \/
   (T = "dict"/\((∃AR,H p=some (.dK AR))\/∃AR,H p=some (.dT AR)))\/(T = "set"/\∃S n,H p=some (.set S n))
 |_=>False
theorem pO {Af:List (Ao×Obj)}{U:St}{H:Hp}{s:Aj}{T:String}{x:V}{v:Ad}(I:A6 X Af U H s)(r:RelV x v)(ty:Zp X.K T x H) :
  s.TypeIs v T/\∀a,v=.ref a->∃ob,s.heap.get? a=some ob/\ob.dict=none:=by
 cases x with
 |str z=>obtain⟨t,rfl⟩:=r;cases(show T = "str" from ty);exact⟨Ny s z t,λ_ e=>nomatch e⟩
 |int i=>obtain⟨t,rfl⟩:=r;cases(show T = "int" from ty);exact⟨typeIs_int s i t,λ_ e=>nomatch e⟩
 |ref p=>
  cases r;rcases ty with⟨rfl,xs,hq⟩|⟨rfl,o,hk,hc,hd⟩|⟨rfl,hk⟩|⟨rfl,S,n,hk⟩
  .obtain⟨Bn,_,pl,_⟩:=I.list hq;refine⟨pl.isList.typeIs,λa e=>?_⟩;cases e;obtain⟨o,n,e,c,hd,_⟩:=pl;exact⟨o,e,hd⟩
  .refine⟨⟨o,I.kIn p o hk,hc⟩,λa e=>?_⟩;cases e;exact⟨o,I.kIn _ o hk,hd⟩
  .have z:∃o,s.heap.get? p=some o/\o.ExactDict:=by
    rcases hk with⟨AR,hk⟩|⟨AR,hk⟩
    .obtain⟨_,_,_,_,o,_,_,e,ex,_⟩:=I.hok p _ hk;exact⟨o,e,ex⟩
    .obtain⟨_,_,_,_,o,_,_,e,ex,_⟩:=I.hok p _ hk;exact⟨o,e,ex⟩
   obtain⟨o,e,ex⟩:=z;refine⟨⟨o,e,ex.1⟩,λa e2=>?_⟩;cases e2;exact⟨o,e,ex.2.1⟩
  .obtain⟨o,_,_,_,e,ex,_⟩:=I.hok p _ hk;refine⟨⟨o,e,ex.1⟩,λa e2=>?_⟩;cases e2;exact⟨o,e,ex.2.1⟩
 |_=>exact C9 ty
def cW (K:Ac)(T:String)(r:V->List V->Hp->VK->Prop)(to:TE):TE:=λU H Q=>to U H λx H1=>Zp K T x H1/\r x [] H1 Q
def ii (K:Ac)(T:String)(r:V->List V->Hp->VK->Prop)(to:TE)(t:TA):TE:=λU H Q=>to U H λx H1=>Zp K T x H1/\t U H1 λxs H2=>r x xs H2 Q
variable {o e:Bv}{es:List Bv}{to:TE}{t:TA}{name:Str}{apos cpos:Pos}{T id:String}{r:V->List V->Hp->VK->Prop}
theorem pw (pa:NL T)(slot:cD T name id)(hty:TN (.builtin id)=pure (.type "method_descriptor"))(hm:Nv X id r)(ho:PE X o to)
  (hbase:CJ o name X.env (eval o X.env)=eval o X.env:=by rfl) (hline:(apos.endLine == cpos.line)=true:=by rfl):PE X (.Call (.Attribute o name apos) [] [] cpos) (cW X.K T r to):=by
 intro Af s U H Q I h;refine wpAny_Call_method0_late hbase hline (Dv (ho Af s U H _ I h) λv s1 e=>e.el λx H1 I1 r1 ⟨ty,q1⟩=>?_);obtain⟨h1,h2⟩:=pO I1 r1 ty;exact⟨T,id,pa,slot,hty,h1,h2,Hq rfl (PySem.evalArgs_none (hm Af s1 U H1 x [] v [] Q I1 r1 .nil q1))⟩
theorem nV (pa:NL T)(slot:cD T name id)(hty:TN (.builtin id)=pure (.type "method_descriptor"))(hm:Nv X id r)(ho:PE X o to)(ha:PA X (e::es) t)
  (hbase:CJ o name X.env (eval o X.env)=eval o X.env:=by rfl)
  (hfew:((Cg cpos (Au (e::es) X.env)).all (λx=>!x.1) && (Fx cpos (DJ [] X.env)).all (λx=>x.1.isSome)
   && decide ((e::es).length+([]:List E1).length+(if ([]:List E1).isEmpty then 0 else 1)<30))=true:=by rfl)
  (hline:(apos.endLine == cpos.line)=true:=by rfl) (hs:Au (e::es) X.env=(false,eval e X.env)::Au es X.env:=by rfl) (hplain:(Cg cpos (Au es X.env)).any (·.1)=false:=by rfl) :
  PE X (.Call (.Attribute o name apos) (e::es) [] cpos) (ii X.K T r to t):=by
 intro Af s U H Q I h;refine P8 hbase hfew hline rfl (Dv (ho Af s U H _ I h) λv s1 e=>e.el λx H1 I1 r1 ⟨ty,q1⟩=>?_);obtain⟨h1,h2⟩:=pO I1 r1 ty;refine⟨T,id,pa,slot,hty,h1,h2,?_⟩;have hA:=ha cpos Af s1 U H1 _ I1 q1;rw[hs]at hA ⊢;refine Hq (by show(false || (Cg cpos (Au es X.env)).any (·.1))=false;rw[hplain]<;>rfl) (NR ?_);exact Dv hA λus s2 e=>e.el λvs H2 I2 r2 q2=>hm Af s2 U H2 x vs v us Q I2 r1 r2 q2
end
def YJ (X:Cx)(id:String)(r:V->List V->Hp->VK->Prop):Prop:=
 ∀(Af:List (Ao×Obj)) (s:Aj) (U:St) (H:Hp) (x:V) (xs:List V) (v:Ad) (us:List Ad) (Q:VK),A6 X Af U H s->RelV x v->BJ xs us->r x xs H Q ->
  Av (AA X.prog X.w) X.A (IA (.builtin id) (v::us)) (EP X Af U Q) X.xe s
theorem BJ.one:∀{x:V}{us:List Ad},BJ [x] us->∃u,us=[u]/\RelV x u
 |_,_,h=>by
  cases h with | cons r t=>cases t;exact⟨_,rfl,r⟩
theorem BJ.zero:∀{us:List Ad},BJ [] us->us=[]
 |_,.nil=>rfl
theorem BJ.dropLast {xs:List V}{us:List Ad}(h:BJ xs us):BJ xs.dropLast us.dropLast:=by
 induction h with
 |nil=>exact .nil
 |cons r t ih=>
  cases t with
  |nil=>exact .nil
  |cons q t'=>exact .cons r ih
theorem BJ.eraseIdx:∀{xs:List V}{us:List Ad}(i:Nat),BJ xs us->BJ (xs.eraseIdx i) (us.eraseIdx i)
 |_,_,_,.nil=>.nil
 |_,_,0,.cons _ t=>t
 |_,_,i+1,.cons r t=>.cons r (BJ.eraseIdx i t)
theorem BJ.reverse {xs:List V}{us:List Ad}(h:BJ xs us):BJ xs.reverse us.reverse:=by
 induction h with
 |nil=>exact .nil
 |cons r t ih=>rw[GC,GC];exact BJ.append ih (.cons r .nil)
theorem ZmX {α:Type}(l:List α):l.eraseIdx (l.length-1)=l.dropLast:=by
 induction l with
 |nil=>rfl
 |cons a r ih=>
  cases r with
  |nil=>rfl
  |cons b r=>
   have e:(a::b::r).length-1=((b::r).length-1)+1:=by
    have h1:(a::b::r).length=r.length+2:=rfl;have h2:(b::r).length=r.length+1:=rfl;ext
   rw[e,List.eraseIdx_cons_succ,ih]
   all_goals rfl
theorem uK {α:Type}:∀(l:List α) (i:Nat),(l.eraseIdx i).length<=l.length
 |[],_=>AJ _
 |_::_,0=>JO _
 |_::r,i+1=>Nat.succ_le_succ (uK r i)
section
variable {X:Cx}{Af:List (Ao×Obj)}{U:St}{H:Hp}{s:Aj}{l b:Ao}{xs ys zs:List V}
theorem A6.lset {Bn its':List Ad}{n:Nat}{f:Array Ad->Array Ad}{t':Nat}(I:A6 X Af U H s)(hH:H l=some (.lst xs))
  (e:s.heap.get? l=some {cls:=.type "list",data:=.seq Bn.toArray n}) (hf:f Bn.toArray=its'.toArray) (hv:BJ ys its') (hz:ys.length<=An) :
  A6 X Af U (CF H l (.lst ys)) {s with heap:=s.heap.update l (HE f),toks:=t' }:=by
 have q:=PySem.IsL.update e f;rw[hf]at q;refine I.write (x:=l) (e:=l) (by rw[hH];exact trivial) (.inl rfl) (λb' u hb hu=>(Bc s.heap (HE f) (Bm hb)).trans hu) ⟨_,q⟩ ?_;exact⟨hz,its',_,hv,q⟩
theorem A6.lnew {Bn:List Ad}{t':Nat}(I:A6 X Af U H s)(hv:BJ ys Bn)(hz:ys.length<=An) :
  A6 X Af U (CF H s.heap.objs.size (.lst ys)) {s with heap:=s.heap.push {cls:=.type "list",data:=.seq Bn.toArray},toks:=t' }:=
 I.laid (λ_ _ q=>Ah _ q) (AJ _) ⟨hz,Bn,0,hv,AB _ rfl⟩
theorem A6.fresh (I:A6 X Af U H s):H s.heap.objs.size=none:=I.hok.fresh (AJ _)
theorem A6.lstM (I:A6 X Af U H s)(hH:H l=some (.lst xs)):xs.length<=An/\∃(Bn:List Ad) (n:Nat),BJ xs Bn/\xs.length=Bn.length/\s.heap.get? l=some {cls:=.type "list",data:=.seq Bn.toArray n}:=by
 obtain⟨z,Bn,n,r,e⟩:=I.hok l _ hH;exact⟨z,Bn,n,r,r.length,e⟩
theorem QE {n:Nat}(h:n<=An):JV n=false:=by
 unfold JV;exact decide_eq_false (by ext)
end
section
variable {X:Cx}
def R3:V->List V->Hp->VK->Prop:=λx vs H Q=>∃l xs y,x=.ref l/\vs=[y]/\H l=some (.lst xs)/\xs.length<An/\Q .non (CF H l (.lst (xs++[y])))
theorem Zop:YJ X "list.append" R3:=by
 intro Af s U H x vs v us Q I rx rv h;symm;obtain⟨l,xs,y,e1',e2',hH,hz,q⟩:=h;cutsat;subst e1' e2';cases rx;obtain⟨u,rfl,ru⟩:=rv.one;obtain⟨z,Bn,n,r,hl,e⟩:=I.lstM hH;refine Iz F.slot_list_append ⟨_,e,rfl⟩ F.entry_list_append (F.args_list_append_2 _ _) (PySem.list_append l Bn.toArray n u (by rw[AV];ext)) ⟨e,?_⟩;refine⟨.non,_,I.lset (its':=Bn++[u]) hH e (by simp) (r.append (.cons ru .nil)) ?_,rfl,q⟩;rw[As,EY];ext
def fP:V->List V->Hp->VK->Prop:=λx vs H Q=>∃l xs y,x=.ref l/\vs=[]/\H l=some (.lst xs)/\xs[xs.length-1]? = some y/\Q y (CF H l (.lst xs.dropLast))
theorem ou:YJ X "list.pop" fP:=by
 intro Af s U H x vs v us Q I rx rv h;symm;obtain⟨l,xs,y,e1',e2',hH,hy,q⟩:=h;cutsat;subst e1' e2';cases rx;have hus:=rv.zero;subst hus;obtain⟨z,Bn,n,r,hl,e⟩:=I.lstM hH;obtain⟨u,hu,ru⟩:=r.get hy
 have hy':Bn.toArray[Bn.toArray.size-1]? = some u:=by
  show Bn.toArray[Bn.length-1]? = some u;rw[<- C6,<- hl];exact hu
 refine Iz F.slot_list_pop ⟨_,e,rfl⟩ F.entry_list_pop (F.args_list_pop_1 _) (MeetsSeq.list_pop_last l Bn.toArray n u hy' (by rw[AV];ext)) ⟨e,?_⟩;refine⟨y,_,I.lset (its':=Bn.dropLast) hH e ?_ r.dropLast ?_,ru,q⟩
 .show Bn.toArray.eraseIdxIfInBounds (Bn.toArray.size-1)=Bn.dropLast.toArray;rw[AV,Kc,ZmX]
 .rw[List.length_dropLast];ext
def Ug:V->List V->Hp->VK->Prop:=λx vs H Q=>∃l xs i k y,x=.ref l/\vs=[.int i]/\H l=some (.lst xs)/\-(2^63)<=i/\i<2^63/\Wr i xs.length=some k/\xs[k]? = some y/\Q y (CF H l (.lst (xs.eraseIdx k)))
theorem z5:YJ X "list.pop" Ug:=by
 intro Af s U H x vs v us Q I rx rv h;symm;obtain⟨l,xs,i,k,y,e1',e2',hH,h1,h2,hk,hy,q⟩:=h;cutsat;subst e1' e2';cases rx;obtain⟨u,rfl,ru⟩:=rv.one;obtain⟨t,rfl⟩:=ru;obtain⟨z,Bn,n,r,hl,e⟩:=I.lstM hH;obtain⟨w,hw,rw'⟩:=r.get hy
 refine Iz F.slot_list_pop ⟨_,e,rfl⟩ F.entry_list_pop (F.args_list_pop_2 _ _)
  (MeetsSeq.list_pop_at l Bn.toArray n i t k w (fitsIndex_both h1 h2) (by rw[AV,<- hl];exact hk) (by rw[<- C6];exact hw) (by rw[AV];ext)) ⟨e,?_⟩
 refine⟨y,_,I.lset (its':=Bn.eraseIdx k) hH e ?_ (r.eraseIdx k) ?_,rw',q⟩
 .show Bn.toArray.eraseIdxIfInBounds k=(Bn.eraseIdx k).toArray;rw[Kc]
 .have:=uK xs k;ext
def Qw:V->List V->Hp->VK->Prop:=λx vs H Q=>∃l xs,x=.ref l/\vs=[]/\H l=some (.lst xs)/\Q .non (CF H l (.lst xs.reverse))
theorem ZmE:YJ X "list.reverse" Qw:=by
 intro Af s U H x vs v us Q I rx rv h;obtain⟨l,xs,rfl,rfl,hH,q⟩:=h;cases rx;have hus:=rv.zero;subst hus;obtain⟨z,Bn,n,r,hl,e⟩:=I.lstM hH;refine Iz F.slot_list_reverse ⟨_,e,rfl⟩ F.entry_list_reverse (F.args_list_reverse_1 _) (AutoSeq1.list_reverse_list_0 l Bn.toArray n (by rw[AV];ext)) ⟨e,?_⟩;refine⟨.non,_,I.lset (its':=Bn.reverse) hH e (by simp) r.reverse ?_,rfl,q⟩;rw[OZ];ext
end
section
variable {prog:AX}{w:Bj}{A:Bq}{E:Ad->Aj->Prop}{s:Aj}
end
section
variable {X:Cx}
end
end L2
namespace Att
open PySem PySem.W PySem.Calls PyProof.Rows
theorem ZgU {P:JD}{h:BU}:∀(ns:List Int) (vs:List Ad),WellAll P h vs (ns.map YT)->Ql vs ns:=by
 intro ns;induction ns with
 |nil=>intro vs w;rw[Dx]at w;cases w;exact .nil
 |cons n ns ih=>
  intro vs w;rw[AQ]at w;cases w with
  |cons a b=>cases a;exact .cons _ _ (ih _ b)
theorem Zny {l:OpenLaw}{n:Nat}(hn:l.most=some n){P:JD}{h:BU}{args:List WData}{T6:List Ad}
  (hpre:l.row.toRowW.claim.pre args=true) (hwl:WellAll P h T6 args) :
  ∃a vs ns,T6=[AC a]/\args=[WData.list (ns.map YT)]/\h.get? a=some {cls:=.type "list",data:=.seq vs.toArray}/\Ql vs ns/\ns.length<=n:=by
 have hsh:WShape.hasAll [] args [.list .int]=true:=(pre_splitW hpre).1;have hc:l.pre.holds [] {args:=args}=true:=(pre_splitW hpre).2;obtain⟨d,r,rfl,h1,h2⟩:=hasAllW_cons hsh;obtain rfl:=hasAllW_nil h2;obtain⟨xs,rfl,h3⟩:=hasW_list h1;obtain⟨ns,rfl⟩:=items_int h3
 have hlen:ns.length<=n:=by
  unfold OpenLaw.pre at hc
  have h4:(WTm.not (.lt (.lit (.int (n:Int))) (.len (.arg 0)))).holds [] {args:=[.list (ns.map .int)]}=true:=by
   have h4:=(holds_andW hc).1;rw[hn]at h4;exact h4
  have h5:=condW_of h4 (w_not (w_lt w_lit (w_len_list (w_arg rfl))));rw[Ab]at h5;refine Nat.le_of_not_lt λq=>?_;have q':(n:Int)<((ns.length:Nat):Int):=by ext
  first
   |(rw[decide_eq_true q']at h5;exact absurd h5 (by decide))
   |(simp at h5;ext)
 cases hwl with
 |cons w1 w2=>
  cases w2;cases w1 with
  |list ho hall=>exact⟨_,_,ns,rfl,rfl,ho,ZgU ns _ hall,hlen⟩
theorem Zo7 (l:OpenLaw)(args:List WData):l.row.toRowW.claim.post args (.bool true) args=true:=
 postW_of (r:=l.row.toRowW) (X:=(true == true))
  (show Vn [] (.bool true) .bool=true by first | rfl | decide | simp[Vn,WShape.arms,WShape.armsAll])
  (show(WTm.eq .res (.lit (.bool true))).value [] {args:=args,res:=some (.bool true),after:=args}=some (.bool (true == true))from w_eq_bool (w_res rfl) w_lit) rfl
theorem attach_call {l:OpenLaw}{n:Nat}{q:AX}{loose:List Str}{XP:(Str->Option Ad)->BU->Prop}{YP:Bj->BU->Prop}{d:DefRec}
  (hn:l.most=some n) (hdf:d.params.defaults=[])
  (IA:∀ (w:Bj) (s₀ s₁:Aj) (mg mb:Str->Option Ad) (fa:Ao) (o:Obj) (pm cd doc:Ad) (a:Ao) (vs:List Ad) (ns:List Int),
   Ground q loose [] XP w s₀ mg mb s₁.heap->YP w s₁.heap ->
   s₁.heap.get? fa=some o->o.data=.func (docDef d.name d.params d.body d.scope pm cd doc)->s₁.heap.CodeRec cd d.name->mg d.name=some (.ref fa) ->
   s₁.heap.get? a=some {cls:=.type "list",data:=.seq vs.toArray}->Ql vs ns->ns.length<=n->s₁.gens=#[] ->
   D0 (AA l.prog w) JR (.call (.ref fa) ⟨[.ref a],[]⟩) (λr s'=>r=.ok (.ret (.bool true))/\OldK s₁.heap s'.heap/\s'.os=s₁.os/\IE s'.gens) s₁) :
  WalkO q loose XP YP l.row.toRowW d [] (λf vs=>OT f vs):=by
 intro w s₀ s₁ mg mb G Y fa o pm cd doc dV kV ho hd hcd hD hmg hg args T6 as hpre hlay hrd hwl hlo;obtain rfl:dV=.none:=Dflts.none hD hdf;obtain rfl:kV=.none:=Dflts.noKw hD;symm;obtain⟨a,vs,ns,e1',e2',hobj,hints,hlen⟩:=Zny hn hpre hwl;cutsat;subst e1' e2';refine enter_call (GG (IA w s₀ s₁ mg mb fa o pm cd doc a vs ns G Y ho (fd_plain hd) hcd hmg hobj hints hlen hg) λr s' hq=>?_);obtain⟨rfl,h2,h3,h4⟩:=hq;exact⟨.inl ⟨.bool true,.bool true,[],rfl,λ_=>rfl,.bool true,Zo7 l _,λ_=>⟨WG,λ_ hm=>(nomatch hm)⟩⟩,h2,h3,h4⟩
section
variable {prog:AX}{w:Bj}{A:Bq}{E:Ad->Aj->Prop}{s:Aj}{K:Frag}
end
end Att
namespace L2
open PySem PySem.Spec PyProof.Rows
theorem vA:∀{vs:List Ad}{ns:List Int},Ql vs ns->BJ (ns.map V.int) vs
 |_,_,.nil=>.nil
 |_,_,.cons n t h=>.cons ⟨t,rfl⟩ (vA h)
def UZ (H:Hp):Prop:=∀b,H b=none\/∃o xs,H b=some (.frz o (.lst xs))
theorem zy {P:AX}{w:Bj}{K:Ac}{mg mb:Str->Option Ad}{CX:P4}{k:Nat}{fa a:Ao}{fd:B9}{x:Str}{sp:Sp}{s₁:Aj}{vs:List Ad}{ns:List Int}
  (KX:K.In s₁.heap) (hns:s₁.heap.Ns B3 mg) (hb:s₁.heap.Ns TW mb) (hbb:∀x:Str,x≠"__name__"->mb x=DK x) (hlim:s₁.heap.NoLimit) (hg:s₁.gens=#[])
  (ha:s₁.heap.get? a=some {cls:=.type "list",data:=.seq vs.toArray}) (hi:Ql vs ns) (hl:ns.length<=An) (hr:Dg k JR)
  (F:∀base:BU,K.In base->base.Ns B3 mg->FnOk P w K mg base CX k fa fd [x] sp) (hbind:∀(s:Aj) (u:Ad),No s fd ⟨[u],[]⟩ [(x,u)])
  (hsp:∀H:Hp,UZ H->FO K H a (ns.map V.int)->sp [.ref a] H (λv _=>v=.bl true) λ_ _ _=>False)
  (hCX:∀H e s',CX [] H s₁ (λ_ _ _=>False) e s'->False) :
  D0 (AA P w) JR (.call (.ref fa) ⟨[.ref a],[]⟩) (λr s'=>r=.ok (.ret (.bool true))/\OldK s₁.heap s'.heap/\s'.os=s₁.os/\IE s'.gens) s₁:=by
 have rv:=vA hi;have lenV:=hi.length
 have core:∀H:Hp,UZ H->FO K H a (ns.map V.int)->Iu P w H s₁.heap->(∀b,H b≠none->b=a)->(H a≠none->K.lookup a=none) ->
   D0 (AA P w) JR (.call (.ref fa) ⟨[.ref a],[]⟩) (λr s'=>r=.ok (.ret (.bool true))/\OldK s₁.heap s'.heap/\s'.os=s₁.os/\IE s'.gens) s₁:=by
  intro H hO hS hok hA hK;have base_of:∀{b:Ao} {o:Obj},s₁.heap.get? b=some o->H b=none->(L7 s₁.heap H).get? b=some o:=λe n=>zt e n
  have noA:∀{b:Ao} {o:Obj} {es:Array LW} {ep:Nat},s₁.heap.get? b=some o->o.data=.dict es ep->H b=none:=λ{b o es ep} e d=>by
   cases q:H b with
   |none=>rfl
   |some u=>have e':b=a:=hA b (by rw[q];simp);subst e';rw[ha]at e;cases e;have d':SN vs.toArray _=Data.dict es ep:=d;cases d'
  have nsK:∀{b:Ao} {m:Str->Option Ad},s₁.heap.Ns b m->(L7 s₁.heap H).Ns b m:=λ{b m} ⟨o,es,ep,e,d,r⟩=>⟨o,es,ep,base_of e (noA e d),d,r⟩
  have hKb:K.In (L7 s₁.heap H):=λb o e=>base_of (KX b o e) (by
   cases q:H b with
   |none=>rfl
   | some u=>have e':b=a:=hA b (by rw [q];simp);subst e';rw [hK (by rw [q];simp)] at e;cases e)
  have hM:Mod K mg (L7 s₁.heap H):=⟨hKb,nsK hns,⟨mb,nsK hb,hbb⟩,let ⟨mc,h1,h2⟩:=hlim;⟨mc,nsK h1,h2⟩⟩;have e0:Oq P w K mg (L7 s₁.heap H) JR [] s₁ H:=⟨rfl,hM,λb o e=>um e,WE (ZoM _ _),trivial,λb hb=>absurd (show b∈([]:List Ao)from hb) (by simp),hok,.of_eq hg⟩;refine GG ((F _ hKb (nsK hns)).run JR [] s₁ H ⟨[.ref a],[]⟩ [.ref a] [.ref a] _ _ hr e0 (hbind s₁ (.ref a)) (.cons rfl .nil) (hsp H hO hS)) λr s' h=>?_;cases r with
  |error e=>exact(hCX H e s' h).elim
  |ok fl=>
   cases fl with
   |next=>exact C9 h
   |brk=>exact C9 h
   |cont=>exact C9 h
   |ret u=>
    symm;obtain⟨v,H',os,bare,un,hok',r',q⟩:=h;cutsat;have q':v=.bl true:=q;subst q';obtain rfl:u=I9 true:=r';refine⟨rfl,OldK.of_keep λb o e=>?_,os,bare⟩;cases q:H b with
    |none=>exact un.keep b o e q (by intro z;exact absurd (show b∈([]:List Ao)from z) (by simp)) (by simp)
    |some u=>
     rcases hO b with z|⟨ob,xs,z⟩
     .rw[q]at z;cases z
     .have z2:=un.frzs b ob _ z;obtain⟨e1,_⟩:=hok b _ z;obtain⟨e2,_⟩:=hok' b _ z2;rw[e]at e1;cases e1;exact e2
 cases hk:K.lookup a with
 |some o=>have e:=KX a o hk;rw[ha]at e;cases e;refine core (λ_=>none) (λ_=>.inl rfl) (.inr ⟨_,vs.toArray,_,hk,rfl,rfl,rfl,by rw[AV,lenV];exact hl,by simpa using rv⟩) (λb u z=>by have z':(none:Option HO)=some u:=z;cases z') (λb z=>absurd rfl z) λz=>absurd rfl z
 |none=>
  refine core (λb=>if b=a then some (.frz {cls:=.type "list",data:=.seq vs.toArray} (.lst (ns.map V.int)))else none) (λb=>?_) (.inl (.inr ⟨{cls:=.type "list",data:=.seq vs.toArray},if_pos rfl⟩)) (λb u z=>?_) (λb z=>?_) λ_=>hk
  .by_cases hb:b=a
   .exact .inr ⟨_,_,if_pos hb⟩
   .exact .inl (if_neg hb)
  .by_cases hb:b=a
   .have z':=(if_pos hb).symm.trans z;cases z';subst hb;exact⟨ha,by rw[Ab];exact hl,vs,_,rv,ha⟩
   .have z':=(if_neg hb).symm.trans z;cases z'
  .by_cases hb:b=a
   .exact hb
   .exact absurd (if_neg hb) z
theorem walk_of {l:Pw}{n k:Nat}{q:AX}{loose:List Str}{XP:(Str->Option Ad)->BU->Prop}{YP:Bj->BU->Prop}{d:DefRec}{K:JD->Ac}{CX:Bj->P4}{sp:Bj->Sp}{x:Str}
  (hn:l.most=some n) (hn2:n<=An) (hdf:d.params.defaults=[]) (hr:Dg k JR)
  (hY:∀(w:Bj) (h:BU),YP w h->(K w.params).In h)
  (F:∀ (w:Bj) (mg:Str->Option Ad) (fa:Ao) (h:BU),(K w.params).In h->h.Ns B3 mg->mg d.name=some (.ref fa) ->
   ∃fd:B9,(∀(s:Aj) (u:Ad),No s fd ⟨[u],[]⟩ [(x,u)]) /\
    ∀ base:BU,(K w.params).In base->base.Ns B3 mg->FnOk l.prog w (K w.params) mg base (CX w) k fa fd [x] (sp w))
  (hsp:∀(w:Bj) (H:Hp) (a:Ao) (ns:List Int),ns.length<=n->UZ H->FO (K w.params) H a (ns.map V.int)->sp w [.ref a] H (λv _=>v=.bl true) λ_ _ _=>False)
  (hCX:∀(w:Bj) (H:Hp) (s:Aj) (e:Ad) (s':Aj),CX w [] H s (λ_ _ _=>False) e s'->False) :
  Ra q loose XP YP l.row.toRowW d [] (λf vs=>OT f vs):=by
 refine Att.attach_call hn hdf λw s₀ s₁ mg mb fa o pm cd doc a vs ns G Y ho hd hcd hmg hobj hints hlen hg=>?_;have KX:=hY w _ Y;obtain⟨fd,hb,hF⟩:=F w mg fa _ KX G.T.g hmg;exact zy KX G.T.g G.T.b G.T.builtins G.T.nolimit hg hobj hints (A3 hlen hn2) hr hF hb (λH hO hS=>hsp w H a ns hlen hO hS) λH e s'=>hCX w H s₁ e s'
noncomputable def Sf (s:A4):Arguments:=match s with
 |.FunctionDef _ a _ _ _ _ _ _ _ _=>a
 |_=>{posonlyargs:=[],args:=[],vararg:=none,kwonlyargs:=[],kw_defaults:=[],kwarg:=none,defaults:=[]}
noncomputable def LB (s:A4):List A4:=match s with
 |.FunctionDef _ _ b _ _ _ _ _ _ _=>b
 |_=>[]
noncomputable def Gu (s:A4):JB:=match s with
 |.FunctionDef _ _ _ _ _ _ sc _ _ _=>sc
 |_=>{kind:=.function,names:=[],isGenerator:=false,isCoroutine:=false}
abbrev CX0:P4:=λ_ _ _ _ _ _=>False
abbrev E0:XK:=λ_ _ _=>False
theorem OL {X:Cx}:IP CX0 X E0:=λ_ _ _ _ _ _ _ h=>h.elim
structure Co (K:Ac)(x qual:Str)(st:A4)(f:Ao)(fd:B9):Prop where
 ex:∃(oc:Ad) (od:Option Ao) (kV doc pm:Ad) (an:Option Ao) (cdv ct:Ad) (osl:Array (Option Ad)),
  fd=FG x qual (Sf st) (LB st) (Gu st) .none kV doc pm an cdv ct/\K.lookup f=some ⟨oc,od,.func fd,osl⟩/\Kr K cdv qual=true
 kp:FS K (.ref f)=true
section
variable {P:AX}{w:Bj}{K:Ac}{mg:Str->Option Ad}{base:BU}
theorem Co.ok {x qual:Str}{st:A4}{f:Ao}{fd:B9}{N ps:List Str}{k:Nat}{sp:Sp}(F:Co K x qual st f fd)(S:Ef N ps (Gu st))(len:∀vs H Q E,sp vs H Q E->vs.length=ps.length)
  (hbody:∀ (cdv:Ad) (A:Bq) (outer:List Env) (s:Aj) (H:Hp) (vs:List V) (Q:VK) (E:XK),Dg k (A.deeper (EQ qual (Gu st) s.heap.objs.size f cdv))->sp vs H Q E ->
   ∃ t,K3 (Im CX0 P w K mg base N qual (Gu st) f cdv A outer s H E).nox (LB st) t/\t { nx:=λ_ H'=>Q .non H',rt:=Q } (start N vs) H):FnOk P w K mg base CX0 (k+1) f fd ps sp:=by
 obtain⟨oc,od,kV,doc,pm,an,cdv,ct,osl,rfl,lk,hcd⟩:=F.ex;refine jd lk hcd S len λA outer s H vs Q E hr hsp=>?_;obtain⟨t,h,q⟩:=hbody cdv A outer s H vs Q E hr hsp;exact⟨t,h.nox,q⟩
theorem Co.binds {x qual:Str}{st:A4}{f:Ao}{fd:B9}{ps:List Str}(F:Co K x qual st f fd)
  (h:∀(kV doc pm:Ad) (an:Option Ao) (cdv ct:Ad) (us:List Ad),us.length=ps.length->Et (FG x qual (Sf st) (LB st) (Gu st) .none kV doc pm an cdv ct) ⟨us,[]⟩=pure (ps.zip us)):HN K fd ps []:=by
 obtain⟨oc,od,kV,doc,pm,an,cdv,ct,osl,rfl,lk,hcd⟩:=F.ex;exact .all (h kV doc pm an cdv ct)
theorem fun_mk {x qual:Str}{st:A4}{f:Ao}{oc:Ad}{od an:Option Ao}{osl:Array (Option Ad)}{kV doc pm cdv ct:Ad}(l:K.lookup f=some ⟨oc,od,.func (FG x qual (Sf st) (LB st) (Gu st) .none kV doc pm an cdv ct),osl⟩)
  (c:Kr K cdv qual=true) (k:FS K (.ref f)=true):Co K x qual st f (FG x qual (Sf st) (LB st) (Gu st) .none kV doc pm an cdv ct):=⟨⟨oc,od,kV,doc,pm,an,cdv,ct,osl,rfl,l,c⟩,k⟩
end
theorem Kj {A:Bq}{k:Nat}(hr:Dg k A):A.units+1<Dh:=Ft (Jd (by decide:1<=64) _) hr.units
theorem BS {n:Nat}(h:n<=1000):n<An:=Ft h (by decide)
section
variable {X:Cx}
theorem pv (i:Nat){x:Str}{pos:Pos}(hN:X.N[i]? = some x:=by rfl)(hv:YD X.env.scope x:=by first | exact B4 rfl | exact Hb (B4 rfl) | exact Hb (Hb rfl))(hd:(x == ("__debug__":Str))=false:=by decide)
  (hcd:(x == ("__classdict__":Str))=false:=by decide):PE X (.Name x pos) (RW i):=pC hN hv hd hcd
end
theorem CD {c A B:Prop}[Decidable c](h1:c->A)(h2:¬c->B):if c then A else B:=by
 by_cases h:c
 .rw[if_pos h];exact h1 h
 .rw[if_neg h];exact h2 h
theorem zu (K)(c):DD K (.type c) (.type c)=some true:=by
 unfold DD;rw[if_pos (beq_self_eq_true _)]
theorem uk :Nv X "int.bit_length" (λx xs H Q=>∃i,x=.int i/\xs=[]/\Q (.int (Ep i)) H):=by
 intro Af s U H x xs v us Q I rx r h;obtain⟨i,rfl,rfl,q⟩:=h;obtain⟨t,rfl⟩:=(show∃t,v=DL i t from rx);cases r;exact Zc ⟨.int _,H,I.tok _,⟨_,rfl⟩,q⟩
theorem A6.track (I:A6 X Af U H s)(f:Jq X Af H D)
  (new:CZ X.prog X.w (CF H D o) s.heap D o):A6 X Af U (CF H D o) s:=by
 obtain⟨hn,h2,_,h1,h3,h4⟩:=f;have hu:∀b u,H b=some u->CF H D o b=some u:=λb u e=>by rw[HW (Wc e hn)];exact e
 have hok:Iu X.prog X.w (CF H D o) s.heap:=λb u e=>by
  by_cases hb:b=D
  .subst hb;rw[MH]at e;cases e;exact new
  .rw[HW hb]at e;exact(I.hok b u e).stay (λ_ _ _ q=>q) (λc q=>hu c _ q) λc xs q=>hu c _ q
 exact I.step (ch:=[D])
  (λb hb=>by
   have e:b=D:=by simpa using hb
   subst e;exact ⟨h1,h2,h3,h4⟩)
  (λb o' _ _ _ e _=>e) (λb o' _ _ _ e _=>⟨o'.slots,e⟩)
  (λb o' hb e n=>by rw[HW (λz=>hb (by simp[z]))];exact n)
  (λb o' _ e=>⟨o',e⟩) (λb xs e=>hu b _ e) (λb o' u e=>hu b _ e) (λb ps e=>⟨#[],by rw[hu b _ e];simp⟩) (λm hm=>hm) hok I.bare
theorem vW {α β:Type}{f:α->β->Sem (ForInStep β)}(g:α->β->β):∀(l:List α) (c:β),(∀x∈l,∀c,f x c=pure (.yield (g x c)))->forIn l c f=pure (l.foldl (λc x=>g x c) c)
 |[],c,_=>rfl
 |x::l,c,h=>by
  rw[G3,h x AF,pure_bind];exact vW g l (g x c) λy hy=>h y (AE _ hy)
noncomputable def Jo (env:Env)(y:Str×FA)(c:List (Str×Ao)):List (Str×Ao):=if (y.2 == .free)=true then(y.1,(env.cells.lookup y.1).getD 0)::c else c
noncomputable def EC (env:Env)(l:List (Str×FA))(c:List (Str×Ao)):List (Str×Ao):=l.foldl (λc y=>Jo env y c) c
theorem kX {scope:JB}{env:Env}(h:∀y∈scope.names,y.2=.free->∃c,env.cells.lookup y.1=some c):closureFor scope env=pure (EC env scope.names []):=by
 simp only[closureFor]
 rw [vW (Jo env) scope.names [] (λx hx c=>by
  obtain⟨n,k⟩:=x;by_cases hk:k=.free
  .subst hk;obtain⟨a,ha⟩:=h _ hx rfl;simp[Jo,cellOf,ha]
  .have:(k == Cb)=false:=by simpa using hk
   simp [Jo,this])]
 rfl
theorem lookup_mem :∀{l:List (Str×α)},l.lookup x=some k->(x,k)∈l
 |[],h=>by simp at h
 |(n,a)::r,h=>by
  rw[Bx]at h;cases e:x == n with
  |true=>
   rw[e]at h;have e':x=n:=by simpa using e
   have h':a=k:=by simpa using h
   rw[e',h'];exact AF
  |false=>rw[e]at h;exact AE _ (lookup_mem (by simpa using h))
theorem UR :∀(l:List (Str×FA)) (acc:List (Str×Ao)),(∀y∈l,y.2=.free->∃c,env.cells.lookup y.1=some c) ->
  (∀x c,acc.lookup x=some c->env.cells.lookup x=some c)->∀x c,(EC env l acc).lookup x=some c->env.cells.lookup x=some c
 |[],acc,_,ha,x,c,e=>ha x c e
 |(n,k)::l,acc,h,ha,x,c,e=>by
  refine UR l (Jo env (n,k) acc) (λy hy=>h y (AE _ hy)) (λx c e=>?_) x c e;by_cases hk:k=.free
  .subst hk;obtain⟨a,hb⟩:=h (n,.free) AF rfl;have z:Jo env (n,Cb) acc=(n,a)::acc:=by simp[Jo,hb]
   rw[z,Bx]at e;cases q:x == n with
   |true=>
    rw[q]at e;have q':x=n:=by simpa using q
    have e':a=c:=by simpa using e
    rw[q',<- e'];exact hb
   |false=>rw[q]at e;exact ha x c (by simpa using e)
  .have:(k == Cb)=false:=by simpa using hk
   have z:Jo env (n,k) acc=acc:=by simp[Jo,this]
   rw[z]at e;exact ha x c e
theorem iX :∀(l:List (Str×FA)) (acc:List (Str×Ao)),((∃c,acc.lookup x=some c)\/(x,Cb)∈l)->∃c,(EC env l acc).lookup x=some c
 |[],acc,h=>by
  rcases h with h|h
  .exact h
  .cases h
 |(n,k)::l,acc,h=>by
  refine iX l (Jo env (n,k) acc) ?_;by_cases hk:k=.free
  .subst hk;have z:Jo env (n,Cb) acc=(n,(env.cells.lookup n).getD 0)::acc:=by simp[Jo]
   cases q:x == n with
   |true=>exact .inl ⟨_,by rw[z,Bx,q]⟩
   |false=>
    rcases h with⟨c,h⟩|h
    .exact .inl ⟨c,by rw[z,Bx,q];exact h⟩
    .rcases A5.mp h with e|h
     .have e':=(SF e).1;rw[e']at q;simp at q
     .exact .inr h
  .have:(k == Cb)=false:=by simpa using hk
   have z:Jo env (n,k) acc=acc:=by simp[Jo,this]
   rw[z];rcases h with h|h
   .exact .inl h
   .rcases A5.mp h with e|h
    .exact absurd (SF e).2.symm hk
    .exact .inr h
theorem bN {env:Env} :∀{names:List (Str×FA)}{k:FA},
  (names.map λ(n,k)=>if (k == Cb && env.scope.kind == .function && env.kindOf n == some .cell)then(n,Ig)else(n,k)).lookup x=some k ->
  names.lookup x=some k\/(k=.cell/\names.lookup x=some .free)
 |[],_,h=>by simp at h
 |(n,k0)::r,k,h=>by
  rw[AQ]at h;by_cases hc:(k0 == Cb && env.scope.kind == .function && env.kindOf n == some .cell)=true
  .have hf:k0=.free:=by
    simp only[BM]at hc;simpa using hc.1.1
   simp only[hc,if_true]at h;rw[Bx]at h ⊢;cases q:x == n with
   |true=>
    rw[q]at h;have h':Ig=k:=by simpa using h
    exact .inr ⟨h'.symm,by rw[hf]⟩
   |false=>rw[q]at h;exact bN (by simpa using h)
  .have hc':(k0 == Cb && env.scope.kind == .function && env.kindOf n == some .cell)=false:=by simpa using hc
   simp only[hc',if_false,HC]at h;rw[Bx]at h ⊢;cases q:x == n with
   |true=>rw[q]at h;exact .inl (by simpa using h)
   |false=>rw[q]at h;exact bN (by simpa using h)
theorem lH {env:Env} :∀{names:List (Str×FA)},names.lookup x=some .free ->
  (names.map λ(n,k)=>if (k == Cb && env.scope.kind == .function && env.kindOf n == some .cell)then(n,Ig)else(n,k)).lookup x=some .cell \/
  (names.map λ(n,k)=>if (k == Cb && env.scope.kind == .function && env.kindOf n == some .cell)then(n,Ig)else(n,k)).lookup x=some .free
 |[],h=>by simp at h
 |(n,k0)::r,h=>by
  rw[AQ];rw[Bx]at h;by_cases hc:(k0 == Cb && env.scope.kind == .function && env.kindOf n == some .cell)=true
  .simp only[hc,if_true];rw[Bx];cases q:x == n with
   |true=>exact .inl rfl
   |false=>rw[q]at h;exact lH (by simpa using h)
  .have hc':(k0 == Cb && env.scope.kind == .function && env.kindOf n == some .cell)=false:=by simpa using hc
   simp only[hc',if_false,HC];rw[Bx];cases q:x == n with
   |true=>rw[q]at h;exact .inr (by simpa using h)
   |false=>rw[q]at h;exact lH (by simpa using h)
theorem Zdi (I:Nat->Aj->Prop)
  (turn:∀ n s,I n s->Av (AA prog w) A (Iy it) (λr s₁=>match r with
   |none=>R (.ok .next) s₁
   | some v=>Av (AA prog w) A (IU target it v) (λ_ s₁'=>Av (AA prog w) A (LP target env v) (λ_ s₂ =>
     Av (AA prog w) A (forIn ifs true λc r=>if r=true then do let ok <- Qe c env (eval c env);pure (Dd ok) else pure (Dd r)) (λok s₃ =>
      if ok=true then Av (AA prog w) A (eval elt env) (λx s₄ =>
       Av (AA prog w) A (IA (.builtin "list.append") [acc,x]) (λ_ s₅=>∃ m,m<n/\I m s₅) (Nh (AA prog w) A env λe s'=>R (.error e) s') s₄) (Nh (AA prog w) A env λe s'=>R (.error e) s') s₃
      else ∃ m,m<n/\I m s₃) (Nh (AA prog w) A env λe s'=>R (.error e) s') s₂) (Nh (AA prog w) A env λe s'=>R (.error e) s') s₁') (Nh (AA prog w) A env λe s'=>R (.error e) s') s₁)
      (Nh (AA prog w) A env λe s'=>R (.error e) s') s)
  (n:Nat) (h:I n s) :
  D0 (AA prog w) A (.compLoop (.ListComp elt [⟨target,iter,ifs,0⟩] scope pos) 0 it acc env) R s:=by
 refine codeAny_loop rfl I (λn s hI=>?_) n h;show Av _ A ((compTurn (.ListComp elt [⟨target,iter,ifs,0⟩] scope pos) 0 it acc env).onRaise (λx=>do noteFrame x env;theTreesLotGoes x)) _ _ s;refine wpAny_noted ?_;rw[compTurn_list];refine Aa (wpAny_standAt (Aa (BO (turn n s hI) (λr s₁ h₁=>?_) λ_ _ h'=>h')));cases r with
 |none=>exact Ae h₁
 |some v=>
  refine Aa (BO h₁ (λ_ s₁' h₁'=>Aa (BO h₁' (λ_ s₂ h₂=>Aa (BO h₂ (λok s₃ h₃=>?_) λ_ _ h'=>h')) λ_ _ h'=>h')) λ_ _ h'=>h');cases ok with
  |false=>exact Ae ⟨rfl,h₃⟩
  |true=>exact Aa (Aa (BO h₃ (λx s₄ h₄=>Aa (BO h₄ (λ_ s₅ h₅=>Ae (Ae ⟨rfl,h₅⟩)) λ_ _ h'=>h')) λ_ _ h'=>h'))
noncomputable def GS (X:Cx)(scope:JB)(cl:List (Str×Ao))(C:Ao)(N:List Str)(fp:List Ao)(Af:List (Ao×Obj))(s:Aj)(H:Hp):Cx where
 prog:=X.prog
 w:=X.w
 K:=X.K
 mg:=X.mg
 base:=X.base
 A:=X.A
 N:=N
 s₀:=s
 H₀:=H
 env:=NE scope cl C X.env
 outer:=X.stack
 stack:=X.stack
 ex:=fp
 calm:=X.calm
 fn:=λ_=>false
 pn:=X.pn++Af
 xe:=λ_ _=>False
 fz:=X.fz
def S7:TT:=λ_ H Q=>Q true H
inductive HL (Y:Cx):List Bv->TT->Prop where
 |nil:HL Y [] S7
 |one {c:Bv} {t:TT} (h:PT Y c t):HL Y [c] t
noncomputable def MZ (U:St)(caps:List (Str×Nat))(v:Option V):St:=v::caps.map λc=>(U[c.2]?).join
def JY (wi:TI)(caps:List (Str×Nat))(tt:TT)(te:TE):TE:=λU H Q=>wi U H λJ H1=>∃(n:Nat) (W:Nat->List V->Hp->Prop),W 0 [] H1/\∀i ys H,W i ys H ->
 (J.stop i H/\ys.length<=An/\∀p,H p=none->Q (.ref p) (CF H p (.lst ys))) \/
 (J.go i H/\i<n/\ys.length<An/\∀x H',J.yld i H x H'->tt (MZ U caps (some x)) H' λb H2=>if b=true then te (MZ U caps (some x)) H2 λy H3=>W (i+1) (ys++[y]) H3 else W (i+1) ys H2)
structure Eg (X:Cx)(scope:JB)(x:Str)(caps:List (Str×Nat)):Prop where
 kind:scope.kind=.function
 frees:(scope.names.all λy=>y.2 != .free || X.env.scope.names.lookup y.1 == some .cell || X.env.scope.names.lookup y.1 == some .free)=true
 nocell:(scope.names.all λy=>y.2 != .cell)=true
 locs:(scope.names.all λy=>y.2 != .local || scope.names.lookup y.1 == some .local)=true
 var:scope.names.lookup x=some .local
 capsOk:(caps.all λc=>scope.names.lookup c.1 == some .free && X.N[c.2]? == some c.1 && (X.env.scope.names.lookup c.1 == some .cell || X.env.scope.names.lookup c.1 == some .free))=true
 nd:(x::caps.map (·.1)).Nodup
noncomputable def Fo (U:St)(caps:List (Str×Nat))(vs:List (Option V)):St:=vs++caps.map λc=>(U[c.2]?).join
structure KN (X:Cx)(scope:JB)(x:Str)(ns:List Str)(caps:List (Str×Nat)):Prop where
 b:Eg X scope x caps
 Db:(ns.all λy=>scope.names.lookup y == some .local)=true
 nd:(x::(ns++caps.map (·.1))).Nodup
section
variable       {x:Str}
theorem Eg.hfree (B:Eg X scope x caps):∀y∈scope.names,y.2=.free->X.env.kindOf y.1=some .cell\/X.env.kindOf y.1=some .free:=λy hy hf=>by
 have:=CP.mp B.frees y hy;rw[hf]at this;simp only[Kp]at this;rcases this with(h|h)|h
 .simp at h
 .exact .inl (show X.env.scope.names.lookup y.1=_ by simpa using h)
 .exact .inr (show X.env.scope.names.lookup y.1=_ by simpa using h)
theorem Eg.hcell (B:Eg X scope x caps):∀y∈scope.names,y.2≠.cell:=λy hy hf=>by
 have:=CP.mp B.nocell y hy;rw[hf]at this;simp at this
theorem Eg.hloc (B:Eg X scope x caps):∀y∈scope.names,y.2=.local->scope.names.lookup y.1=some .local:=λy hy hf=>by
 have:=CP.mp B.locs y hy;rw[hf]at this;simpa using this
theorem Eg.hcaps (B:Eg X scope x caps):∀c∈caps,scope.names.lookup c.1=some .free/\X.N[c.2]? = some c.1/\(X.env.kindOf c.1=some .cell\/X.env.kindOf c.1=some .free):=λc hc=>by
 have:=CP.mp B.capsOk c hc;simp only[BM,Kp]at this;obtain⟨⟨h1,h2⟩,h3⟩:=this;refine⟨by simpa using h1,by simpa using h2,?_⟩;rcases h3 with h|h
 .exact .inl (show X.env.scope.names.lookup c.1=_ by simpa using h)
 .exact .inr (show X.env.scope.names.lookup c.1=_ by simpa using h)
theorem jo (B:Eg X scope x caps)(I:A6 X Af U H s)(hC:C=s.heap.objs.size+1)(hf:∀b∈fp,Jq X Af H b)(hfo:∀b∈fp,∃o,s.heap.get? b=some o)(hcl:∀y∈scope.names,y.2=.free->∃c,X.env.cells.lookup y.1=some c) :
  (GS X scope (EC X.env scope.names []) C (x::caps.map (·.1)) fp Af s H).Ok where
 mod:=I.ok.mod
 kind:=B.kind
 glob:=I.ok.glob
 blt:=I.ok.blt
 above:=by show s.heap.objs.size<=C;rw[hC];exact JO _
 inj:=λy z c h1 h2=>I.ok.inj y z c (UR _ _ hcl (λ_ _ e=>by simp at e) _ _ h1) (UR _ _ hcl (λ_ _ e=>by simp at e) _ _ h2)
 has:=λy h=>by
  refine iX _ _ (.inr ?_);rcases h with h|h
  .rcases bN h with e|⟨_,e⟩
   .exact absurd rfl (B.hcell _ (lookup_mem e))
   .exact lookup_mem e
  .rcases bN h with e|⟨z,e⟩
   .exact lookup_mem e
   .cases z
 cab:=λ_ _ h=>nomatch h
 hd:=I.ok.hd
 frames:=I.ok.frames
 stk:=.inl rfl
 exf:=λb hb=>by
  obtain⟨o,ho⟩:=hfo b hb;refine⟨λz=>?_,λy c e=>(hf b hb).2.2.2.2.1 y c (UR _ _ hcl (λ_ _ e=>by simp at e) _ _ e)⟩;exact absurd (show b=C from z) (A8 (by rw[hC];exact Ev (Ar ho)))
 bs:=I.bs
 bsz:=A3 I.ok.bsz I.sz
 noex:=λb o e hb=>by
  rcases(hf b hb).2.2.2.1 with z|z
  .exact I.ok.noex b o e z
  .exact absurd (Bo (Ar e) (A3 I.ok.bsz z)) (EX _)
 exfs:=λb hb hs=>by
  rcases A5.mp (I.stkSub b hs)with e|e
  .exact(hf b hb).2.1 e
  .exact(hf b hb).2.2.1 e
 funs:=I.stack
 frf:=I.stkFree
noncomputable def Kh (Bn:List Ad)(n:Nat):Obj:={cls:=.type "list",data:=.seq Bn.toArray n}
theorem vd (B:KN X scope x ns caps)(I:A6 X Af U H s)(hC:C=s.heap.objs.size+1)(hf:∀b∈fp,Jq X Af H b)(hfo:∀b∈fp,∃o,s.heap.get? b=some o)(hcl:∀y∈scope.names,y.2=.free->∃c,X.env.cells.lookup y.1=some c) :
  (GS X scope (EC X.env scope.names []) C (x::(ns++caps.map (·.1))) fp Af s H).Ok:=by
 have h:=jo B.b I hC hf hfo hcl;exact{h with}
theorem vS {Q:VK}{RR:Ad->Ao->Qg->Aj->Prop}(B:KN X scope x ns caps)(hc:X.calm=true)
  (he:∀cl C fp pn s H,PE (GS X scope cl C (x::(ns++caps.map (·.1))) fp pn s H) elt te) (hif:∀cl C fp pn s H,HL (GS X scope cl C (x::(ns++caps.map (·.1))) fp pn s H) ifs tt)
  (hg:∀cl C fp pn s H,PG (GS X scope cl C (x::(ns++caps.map (·.1))) fp pn s H) tgt g)
  (hRR:∀D C s' H' ys m,A6 X Af U (CF H' D (.lst ys)) s'->Jq X Af (CF H' D (.lst ys)) C->s'.heap.Ns C m->Q (.ref D) (CF H' D (.lst ys))->RR (.ref D) C (.ok .next) s')
  (h:YH X Af U tgt (λJ H1=>∃ (n:Nat) (W:Nat->List V->Hp->Prop),W 0 [] H1/\∀ i ys H,W i ys H ->
   (J.stop i H/\ys.length<=An/\∀p,H p=none->Q (.ref p) (CF H p (.lst ys))) \/
   (J.go i H/\i<n/\ys.length<An/\∀ v H',J.yld i H v H'->∃ us:List V,us.length=ns.length+1/\(∀ (o:List (Option V)) (R:St->Hp->Prop),o.length=ns.length+1->R (Fo U caps (us.map some)) H'->g v (Fo U caps o) H' R)/\tt (Fo U caps (us.map some)) H' λb H2=>if b=true then te (Fo U caps (us.map some)) H2 λy H3=>W (i+1) (ys++[y]) H3 else W (i+1) ys H2)) it s₂) :
  Av (AA X.prog X.w) X.A (Qc []) (λacc s₃=>Av (AA X.prog X.w) X.A (NC scope X.env.globals (EC X.env scope.names []) [] X.env.qual none .none (some X.env)) (λcenv s₄ =>
   D0 (AA X.prog X.w) X.A (.compStart (.ListComp elt [⟨tgt,iter,ifs,0⟩] scope pos) 0 it acc { cenv with scope:=relabel scope X.env }) (RR acc cenv.locals) s₄) E s₃) E s₂:=by
 symm;obtain⟨itA,fp,tn,J,H2,e1',I2,T,st2,f2,n,W,w0,turn⟩:=h;cutsat;subst e1';have hcl:∀y∈scope.names,y.2=.free->∃c,X.env.cells.lookup y.1=some c:=λy hy hf=>I2.ok.has y.1 (B.b.hfree y hy hf);have hfo:∀b∈fp,∃o,s₂.heap.get? b=some o:=λb hb=>by obtain⟨o,e,_⟩:=T.obj _ _ st2 b hb;exact⟨o,e⟩
 refine B6 (wpAny_newFunctionEnv B.b.hcell (by intro y hy;simp at hy) (λh₁ hns₁ hsb₁=>?_) B.b.kind);dsimp only at hns₁ hsb₁ ⊢;generalize hH2:s₂.heap.push {cls:=.type "list",dict:=none,data:=.seq ([]:List Ad).toArray}=G2 at hns₁ hsb₁ ⊢;have hC:G2.objs.size=s₂.heap.objs.size+1:=by rw[<- hH2,Gd]
 have hDC:s₂.heap.objs.size≠G2.objs.size:=by rw[hC];exact A8 (Hn _)
 have old:∀b o,s₂.heap.get? b=some o->h₁.get? b=some o:=λb o e=>hsb₁.extBut b o (A8 (by rw[hC];exact Ev (Ar e))) (Ah _ (hH2 ▸ Ah _ e));have hacc:=hsb₁.extBut _ _ hDC (Ah _ (hH2 ▸ AB _ rfl));have okY:=vd B I2 hC f2 hfo hcl;generalize hY:GS X scope (EC X.env scope.names []) G2.objs.size (x::(ns++caps.map (·.1))) fp Af s₂ H2=Y at okY;have freshD:=I2.hok.fresh (AJ _);have freshC:H2 G2.objs.size=none:=I2.hok.fresh (by ext)
 have IY:∀tk,A6 Y [(s₂.heap.objs.size,Kh [] 0)] (Fo U caps (Ax (ns.length+1) none)) H2 {s₂ with heap:=h₁,toks:=tk}:=λtk=>by
  subst hY;refine⟨okY,rfl,I2.bare,Un.kept old,⟨_,hns₁,λi y v e1 e2 e3=>?_⟩,λy c e=>?_,freshC,λy c e=>?_,λp hp=>?_,I2.hok.kept old,?_,I2.fzd⟩
  .by_cases hin:i<ns.length+1
   .have hx:(Fo U caps (Ax (ns.length+1) none))[i]? = some none:=by
     unfold Fo;rw[C1 (by simpa using hin),List.getElem?_replicate_of_lt hin]
    rw[hx]at e2;cases e2
   .obtain⟨j,rfl⟩:∃j,i=ns.length+1+j:=⟨i-(ns.length+1),by ext⟩
    have e1':(caps.map (·.1))[j]? = some y:=by
     have z:(x::(ns++caps.map (·.1)))[ns.length+1+j]? = some y:=e1;rw[<- Ei,Cj (by simp)]at z;simpa[Ho]using z
    have e2':(caps.map λc=>(U[c.2]?).join)[j]? = some (some v):=by
     have z:=e2;unfold Fo at z;rw[Cj (by simp)]at z;simpa[Ho]using z
    rw[AH]at e1' e2';cases ec:caps[j]? with
    |none=>rw[ec]at e1';cases e1'
    |some c=>
     rw[ec]at e1' e2';have e1'':c.1=y:=by simpa using e1'
     have e2'':(U[c.2]?).join=some v:=by simpa using e2'
     have hv:U[c.2]? = some (some v):=by
      cases q:U[c.2]? with
      |none=>rw[q]at e2'';cases e2''
      |some w'=>rw[q]at e2'';rw[show w'=some v from e2'']
     obtain⟨k1,k2,k3⟩:=B.b.hcaps c (Aw ec);obtain⟨m,_,hl⟩:=I2.loc;obtain⟨u,ru,lk⟩:=hl c.2 c.1 v k2 hv (.inr k3);refine⟨u,ru,.inr ?_⟩;rcases lk with⟨z,_⟩|⟨_,cc,ce,ci⟩
     .rcases k3 with k3|k3
      .rw[k3]at z;cases z
      .rw[k3]at z;cases z
     .obtain⟨c',hc'⟩:=iX scope.names [] (.inr (lookup_mem k1));have hs':=UR scope.names [] hcl (λ_ _ e=>by simp at e) _ _ hc';rw[ce]at hs';cases hs';refine⟨?_,cc,?_,?_⟩
      .rw[<- e1''];exact lH k1
      .rw[<- e1''];exact hc'
      .obtain⟨o,ho,hd⟩:=ci;exact⟨o,old _ _ ho,hd⟩
  .obtain⟨v,o,ho,hd⟩:=I2.cell y c (UR _ _ hcl (λ_ _ e=>by simp at e) _ _ e);exact⟨v,o,old _ _ ho,hd⟩
  .exact I2.freeC y c (UR _ _ hcl (λ_ _ e=>by simp at e) _ _ e)
  .rcases AT.mp hp with hp|hp
   .obtain⟨e,n,ne,nf,d⟩:=I2.pin p hp;refine⟨old _ _ e,n,λz=>?_,λhs=>?_,d⟩
    .exact absurd (show p.1=G2.objs.size from z) (A8 (by rw[hC];exact Ev (Ar e)))
    .rcases A5.mp (I2.stkSub _ hs)with z|z
     .exact ne z
     .exact nf z
   .have e:p=(s₂.heap.objs.size,Kh [] 0):=by simpa using hp
    subst e;refine⟨hacc,freshD,hDC,λhs=>?_,λv z=>by cases z⟩;rcases A5.mp (I2.stkSub _ hs)with z|z
    .exact absurd z (E8 I2.lt)
    .exact I2.nofs (AJ _) z
  .simp[Fo,GS];ext
 have fpY:∀{H':Hp} {l:Obj},(∀b∈fp,H' b=none)->∀b∈fp,Jq Y [(s₂.heap.objs.size,l)] H' b:=λ{H' l} hn b hb=>by
  subst hY;obtain⟨o,ho⟩:=hfo b hb;have:=Ar ho;refine⟨hn b hb,(okY.exf b hb).1,okY.exfs b hb,.inl hb,(okY.exf b hb).2,λp hp=>?_⟩;rcases AT.mp hp with hp|hp
  .exact(f2 b hb).2.2.2.2.2 p hp
  .have e:p=(s₂.heap.objs.size,l):=by simpa using hp
   subst e;exact λz=>absurd (show s₂.heap.objs.size=b from z) (E8 (Ar ho))
 have loop:∀s₃:Aj,s₃={s₂ with heap:=h₁,toks:=s₂.toks+([]:List (Str×Ad)).length} ->
   D0 (AA X.prog X.w) X.A (.compLoop (.ListComp elt [⟨tgt,iter,ifs,0⟩] scope pos) 0 (.ref itA) (.ref s₂.heap.objs.size) (NE scope (EC X.env scope.names []) G2.objs.size X.env))
    (RR (.ref s₂.heap.objs.size) G2.objs.size) s₃:=by
  rintro s₃ rfl
  refine Zdi (λk s'=>∃i ys H' v Bn l,k+i=n+1/\v.length=ns.length+1/\A6 Y [(s₂.heap.objs.size,Kh Bn l)] (Fo U caps v) H' s'/\tn i s'.heap/\(∀b∈fp,H' b=none)/\W i ys H'/\BJ ys Bn) ?_ (n+1)
   ⟨0,[],H2,Ax (ns.length+1) none,[],0,rfl,Br,IY _,T.keep _ _ _ st2 λb hb o e=>old b o e,λb hb=>(f2 b hb).1,w0,.nil⟩
  intro k s' hI';symm;obtain⟨i,ys,H',v,Bn,l,hk,hv,J1,st,fr,w1,rv⟩:=hI';cutsat
  have hYe:Y.prog=X.prog/\Y.w=X.w/\Y.K=X.K/\Y.calm=true/\Y.A=X.A/\Y.env=NE scope (EC X.env scope.names []) G2.objs.size X.env/\Y.N=x::(ns++caps.map (·.1))/\(∀e s,Y.xe e s->False)/\Y.fz=X.fz:=by
   subst hY;exact⟨rfl,rfl,rfl,hc,rfl,rfl,rfl,λ_ _ h=>h,rfl⟩
  symm;obtain⟨y1,y2,y3,y4,y5,y6,y7,y8,yF⟩:=hYe;cutsat;rcases turn i ys H' w1 with⟨stop,hz,qn⟩|⟨go,hin,hz,step⟩
  .have d:=T.done Y y1 y2 y3 yF y4 i _ s' _ H' (λ_ _=>False) J1 (fpY fr) st stop;rw[y5]at d;refine BO d (λr s4 ⟨hr,J4⟩=>?_) λ_ _ f=>f.elim;subst hr;have pD:=J4.pin (s₂.heap.objs.size,Kh Bn l) (AU _ (by simp));obtain⟨m,hm,_⟩:=J4.loc;have hC4:s4.heap.Ns G2.objs.size m:=by subst hY;exact hm
   have fC:H' G2.objs.size=none:=by subst hY;exact J4.free
   have baseY:Un (PX X.stack) fp H2 H' s₂.heap s4.heap:=by subst hY;exact J4.base
   have hokY:Iu X.prog X.w H' s4.heap:=by rw[<- y1,<- y2];exact J4.hok
   have osY:s4.os=s₂.os:=by subst hY;exact J4.os
   have I4:=I2.call' osY baseY hokY J4.bare λb hb=>⟨(f2 b hb).2.2.2.1,(f2 b hb).2.1,(f2 b hb).2.2.2.2.1,(f2 b hb).2.2.2.2.2⟩;have fD4:=I2.fpOk (AJ _) pD.2.1;have fC4:=I2.fpOk (by ext) fC;have I5:A6 X Af U (CF H' s₂.heap.objs.size (.lst ys)) s4:=I4.track fD4 ⟨hz,Bn,l,rv,pD.1⟩;refine hRR _ _ s4 H' ys m I5 ⟨by rw[HW hDC.symm];exact fC4.1,fC4.2⟩ hC4 (qn _ pD.2.1)
  .have d:=T.item Y y1 y2 y3 yF y4 i _ s' _ H' (λ_ _=>False) J1 (fpY fr) st go;rw[y5]at d;refine BO d (λr s4 ⟨u,hr,h4⟩=>?_) λ_ _ f=>f.elim;subst hr;refine BO h4 (λ_ s5 ⟨v5,H5,J5,r5,yl5,st5,fr5⟩=>?_) λ_ _ f=>f.elim;have J5':=J5.pinned (fpY fr5) (T.obj _ _ st5);obtain⟨us,hus,hset,q5⟩:=step v5 H5 yl5;have hgY:=hg (EC X.env scope.names []) G2.objs.size fp Af s₂ H2;rw[hY]at hgY;have d6:=hgY _ s5 _ H5 v5 u (λU' H'=>U'=Fo U caps (us.map some)/\H5=H') J5' r5 (hset _ _ hv ⟨rfl,rfl⟩);rw[y1,y2,y5,y6]at d6;refine BO d6 (λ_ s6 ⟨U6,H6,J6,e6,e6'⟩=>?_) λe s z=>(y8 e s z).elim;subst e6 e6'
   have NH:∀{s7:Aj} {H7:Hp} {ys7:List V} {its7:List Ad} {l7:Nat},A6 Y [(s₂.heap.objs.size,Kh its7 l7)] (Fo U caps (us.map some)) H7 s7->(∀b∈fp,∀o,s5.heap.get? b=some o->s7.heap.get? b=some o/\H7 b=none)->W (i+1) ys7 H7->BJ ys7 its7 ->
     ∃m,m<k/\∃i ys H' v Bn l,m+i=n+1/\v.length=ns.length+1/\A6 Y [(s₂.heap.objs.size,Kh Bn l)] (Fo U caps v) H' s7/\tn i s7.heap/\(∀b∈fp,H' b=none)/\W i ys H'/\BJ ys Bn:=λ{s7 H7 ys7 its7 l7} K7 hb w7 r7=>by
    refine⟨k-1,by ext,i+1,ys7,H7,us.map some,its7,l7,by ext,by rw[Ab];exact hus,K7,T.keep _ _ _ st5 λb hb' o e=>(hb b hb' o e).1,λb hb'=>?_,w7,r7⟩;obtain⟨o,e,_⟩:=T.obj _ _ st5 b hb';exact(hb b hb' o e).2
   have pinD:∀{U7:St} {H7:Hp} {s7:Aj},A6 Y ([(s₂.heap.objs.size,Kh Bn l)]++IJ fp s5.heap) U7 H7 s7->(∀b∈fp,∀o,s5.heap.get? b=some o->s7.heap.get? b=some o/\H7 b=none):=λK7 b hb o e=>by
    have z:=K7.pin (b,o) (AU _ (AU _ (aZ hb e)));exact⟨z.1,z.2.1⟩
   have dt:Av (AA X.prog X.w) X.A (forIn ifs true λc r=>if r=true then do let ok <- Qe c (NE scope (EC X.env scope.names []) G2.objs.size X.env) (eval c (NE scope (EC X.env scope.names []) G2.objs.size X.env));pure (Dd ok)else pure (Dd r))
     (λok s7=>∃H7,A6 Y ([(s₂.heap.objs.size,Kh Bn l)]++IJ fp s5.heap) (Fo U caps (us.map some)) H7 s7/\(if ok=true then te (Fo U caps (us.map some)) H7 λy H3=>W (i+1) (ys++[y]) H3 else W (i+1) ys H7)) (λ_ _=>False) s6:=by
    have q:=q5;have pif:=hif (EC X.env scope.names []) G2.objs.size fp Af s₂ H2;rw[hY]at pif;cases pif with
    |nil=>exact Ae ⟨H5,J6,q⟩
    |one pt=>have z:=pt _ s6 _ H5 _ J6 q;rw[y1,y2,y5,y6]at z;exact wpAny_tests_one (BO z (λb s7 ⟨H7,J7,q7⟩=>⟨H7,J7,q7⟩) λe s z=>(y8 e s z).elim)
   refine BO dt (λok s7 ⟨H7,J7,q7⟩=>?_) λ_ _ f=>f.elim;cases ok with
   |false=>rw[if_neg Am]at q7 ⊢;exact NH J7.unpinned (pinD J7) q7 rv
   |true=>
    rw[if_pos rfl]at q7 ⊢;have pe:=he (EC X.env scope.names []) G2.objs.size fp Af s₂ H2;rw[hY]at pe;have z:=pe _ s7 _ H7 _ J7 q7;rw[y1,y2,y5,y6]at z;refine BO z (λu8 s8 ⟨v8,H8,J8,r8,w8⟩=>?_) λe s z=>(y8 e s z).elim;have pD:=J8.pin (s₂.heap.objs.size,Kh Bn l) (AU _ (CN _ (by simp)));have lits:=rv.length;refine wpAny_list_append_plain ⟨l,pD.1⟩ λh9 pl9 sb9=>?_;obtain⟨l9,e9⟩:=pl9
    have J9:A6 Y (IJ fp s5.heap) (Fo U caps (us.map some)) H8 {s8 with heap:=h9}:=by
     refine(J8.pins_of λp hp=>J8.pin p (AU _ (AU _ hp))).turned (λb o hb e=>(sb9.2 b hb).trans e) pD.2.1 pD.2.2.1 ?_ (λy c e z=>?_) λp hp z=>?_
     .subst hY;exact .inr (AJ _)
     .obtain⟨v',o',ho',hd'⟩:=J8.cell y c e;rw[z,pD.1]at ho';cases ho';exact pD.2.2.2.2 _ hd'
     .rcases AT.mp hp with hp|hp
      .have hp':p∈X.pn++Af:=by subst hY;exact hp
       exact absurd z (A8 (Ar (I2.pin p hp').1))
      .obtain⟨hb,_⟩:=uE hp;obtain⟨o,ho⟩:=hfo _ hb;exact absurd z (A8 (Ar ho))
    have J10:A6 Y [(s₂.heap.objs.size,Kh (Bn++[u8]) l9)] (Fo U caps (us.map some)) H8 {s8 with heap:=h9}:=J9.pins_of λp hp=>by
     have e:p=(s₂.heap.objs.size,Kh (Bn++[u8]) l9):=by simpa using hp
     subst e;refine⟨?_,pD.2.1,pD.2.2.1,pD.2.2.2.1,λv z=>by cases z⟩;rw[e9];simp[Kh]
    refine NH J10 (λb hb o e=>?_) w8 (rv.append (.cons r8 .nil));have z:=J9.pin (b,o) (AU _ (aZ hb e));exact⟨z.1,z.2.1⟩
 exact codeAny_compStart_list (loop _ rfl) (T.self _ 0 _ _ _ (T.keep _ _ _ st2 λb hb o e=>old b o e) (loop _ rfl))
theorem Yt {Q:VK}{RR:Ad->Ao->Qg->Aj->Prop}(B:Eg X scope x caps)(hc:X.calm=true)
  (he:∀cl C fp pn s H,PE (GS X scope cl C (x::caps.map (·.1)) fp pn s H) elt te) (hif:∀cl C fp pn s H,HL (GS X scope cl C (x::caps.map (·.1)) fp pn s H) ifs tt)
  (hRR:∀D C s' H' ys m,A6 X Af U (CF H' D (.lst ys)) s'->Jq X Af (CF H' D (.lst ys)) C->s'.heap.Ns C m->Q (.ref D) (CF H' D (.lst ys))->RR (.ref D) C (.ok .next) s')
  (h:YH X Af U (.Name x px) (λJ H1=>∃ (n:Nat) (W:Nat->List V->Hp->Prop),W 0 [] H1/\∀ i ys H,W i ys H ->
   (J.stop i H/\ys.length<=An/\∀p,H p=none->Q (.ref p) (CF H p (.lst ys))) \/
   (J.go i H/\i<n/\ys.length<An/\∀ v H',J.yld i H v H'->tt (MZ U caps (some v)) H' λb H2=>if b=true then te (MZ U caps (some v)) H2 λy H3=>W (i+1) (ys++[y]) H3 else W (i+1) ys H2)) it s₂) :
  Av (AA X.prog X.w) X.A (Qc []) (λacc s₃=>Av (AA X.prog X.w) X.A (NC scope X.env.globals (EC X.env scope.names []) [] X.env.qual none .none (some X.env)) (λcenv s₄ =>
   D0 (AA X.prog X.w) X.A (.compStart (.ListComp elt [⟨.Name x px,iter,ifs,0⟩] scope pos) 0 it acc { cenv with scope:=relabel scope X.env }) (RR acc cenv.locals) s₄) E s₃) E s₂:=by
 refine vS (ns:=[]) (tgt:=.Name x px) (g:=KI 0) ⟨B,rfl,B.nd⟩ hc he hif (λcl C fp pn s H=>Md B.nd rfl (.inl (RC B.var)) (.inr (RC B.var))) hRR ?_;symm;obtain⟨itA,fp,tn,J,H2,e,I2,T,st2,f2,n,W,w0,turn⟩:=h;cutsat;refine⟨itA,fp,tn,J,H2,e,I2,T,st2,f2,n,W,w0,λi ys H w=>(turn i ys H w).imp id λ⟨z1,z2,z3,st⟩=>⟨z1,z2,z3,λv H' y=>⟨[v],rfl,λo R ho q=>?_,st v H' y⟩⟩⟩;cases o with
 |nil=>cases ho
 |cons o r=>cases AG (GQ ho);exact q
theorem aE (B:Eg X scope x caps)(hc:X.calm=true)(hi:PI X (.Name x px) iter wi)
  (he:∀cl C fp pn s H,PE (GS X scope cl C (x::caps.map (·.1)) fp pn s H) elt te) (hif:∀cl C fp pn s H,HL (GS X scope cl C (x::caps.map (·.1)) fp pn s H) ifs tt)
  (hs:∀x,BB iter X.env x=pure x:=by intro _;rfl):PE X (.ListComp elt [⟨.Name x px,iter,ifs,0⟩] scope pos) (JY wi caps tt te):=by
 intro Af s U H Q I h;rw[eval_ListComp];have hcl:∀y∈scope.names,y.2=.free->∃c,X.env.cells.lookup y.1=some c:=λy hy hf=>I.ok.has y.1 (B.hfree y hy hf);refine HA rfl hs (kX hcl) B.kind B.hloc (Dv (hi Af s U H _ I h) λv s1 h1=>Dv h1 λitv s2 h2=>?_);refine Yt B hc he hif (λD C s' H' ys m I' f' hn q=>?_) h2;refine⟨m,hn,λh' sb=>⟨.ref D,CF H' D (.lst ys),?_,rfl,q⟩⟩;obtain⟨g0,g1,g2,g3,g4,g5⟩:=f';exact I'.turned (λb o hb e=>(sb.2 b hb).trans e) g0 g1 g3 g4 g5
theorem jF (hN:X.N.Nodup)(hi0:X.N[i]? = some y)(hy:X.env.scope.names.lookup y=some .local)(B:Eg X scope x caps)(hc:X.calm=true)(hi:PI X (.Name x px) iter wi)
  (he:∀cl C fp pn s H,PE (GS X scope cl C (x::caps.map (·.1)) fp pn s H) elt te) (hif:∀cl C fp pn s H,HL (GS X scope cl C (x::caps.map (·.1)) fp pn s H) ifs tt)
  (hsw:D4 (.ListComp elt [⟨.Name x px,iter,ifs,0⟩] scope pos) (some (.Name y py)) spos.line X.env=pure true:=by rfl)
  (hs:∀x,BB iter X.env x=pure x:=by intro _;rfl):PS X (.Assign [.Name y py] (.ListComp elt [⟨.Name x px,iter,ifs,0⟩] scope pos) spos) (O4 (JY wi caps tt te) (KI i)):=by
 intro Af s U H D I h;rw[exec_Assign_Name_used _ _ _ _ hsw];refine Aa (wpAny_standAt (Aa ?_));show Av _ X.A (do let _ <- comprehension (.ListComp elt [⟨.Name x px,iter,ifs,0⟩] scope pos) scope X.env _ (Qc []) false (eval iter X.env) (some (LP (.Name y py) X.env))) _ _ s;have hcl:∀y∈scope.names,y.2=.free->∃c,X.env.cells.lookup y.1=some c:=λy hy hf=>I.ok.has y.1 (B.hfree y hy hf)
 refine Aa (BO (HA rfl hs (kX hcl) B.kind B.hloc (Dv (hi Af s U H _ I h) λv s1 h1=>Dv h1 λitv s2 h2=>?_))
  (λ_ s' hq=>Ae (Ae hq)) λ_ _ e=>e)
 refine Yt (Q:=λv H'=>D.nx (U.set i (some v)) H') (RR:=λacc C=>compPost (AA X.prog X.w) X.A X.xe (some (LP (.Name y py) X.env)) (λ_ s'=>SP X Af D .next s') acc C) B hc he hif (λD' C s' H' ys m I' f' hn q=>?_) h2;show Av _ _ (LP (.Name y py) X.env (.ref D')) _ _ s';obtain⟨g0,g1,g2,g3,g4,g5⟩:=f';refine Vf (uY I' hN hi0 (.inl hy) (v:=.ref D') rfl (λs'' I'' sb=>?_) (.inr hy));obtain⟨a,sb,ha⟩:=sb
 have nC:C≠a:=by
  rcases ha with rfl|ha
  .exact g1
  .exact λz=>g4 _ _ ha z.symm
 refine⟨m,hn.sameBut sb nC,λh' sb'=>⟨U.set i (some (.ref D')),CF H' D' (.lst ys),?_,q⟩⟩;exact I''.turned (λb o hb e=>(sb'.2 b hb).trans e) g0 g1 g3 g4 g5
end
section
variable {K:Ac}{a:Ao}{xs:List V}{caps:List (Str×Nat)}{tt:TT}{te:TE}{U:St}{H:Hp}{Q:VK}
end
section
variable {κ:Type}[DecidableEq κ]
noncomputable def FU (AR:List (κ×V))(k:κ):Option V:=(AR.find? λkv=>decide (kv.1=k)).map (·.2)
noncomputable def putK (AR:List (κ×V))(k:κ)(v:V):List (κ×V):=
 if (AR.any λkv=>decide (kv.1=k))=true then AR.map (λkv=>if kv.1=k then(kv.1,v)else kv)else AR++[(k,v)]
theorem jW {p:κ×V}{r:List (κ×V)}{k:κ}(e:p.1=k):FU (p::r) k=some p.2:=by simp[FU,Ct,e]
theorem jV {p:κ×V}{r:List (κ×V)}{k:κ}(e:¬p.1=k):FU (p::r) k=FU r k:=by simp[FU,Ct,e]
theorem tL (k:κ):∀AR,(AR.any λkv=>decide (kv.1=k))=(FU AR k).isSome
 |[]=>rfl
 |p::r=>by
  rw[Fy];by_cases e:p.1=k
  .simp only[jW e,decide_eq_true e,Bool.true_or,Ow]
  .rw[jV e,decide_eq_false e,ME];exact tL k r
theorem bF (AR:List (κ×V))(k:κ)(v:V):(putK AR k v).length<=AR.length+1:=by
 unfold putK;split
 .rw[Ab];ext
 .rw[As,AO,FQ];ext
theorem Ip.isSome_eq (r:Ip o u):o.isSome=u.isSome:=by
 cases o with
 |none=>cases u with
  |none=>rfl
  |some _=>exact(show False from r).elim
 |some _=>cases u with
  |none=>exact(show False from r).elim
  |some _=>rfl
theorem KV.val {AR:List (κ×V)}{vs:List (κ×Ad)}(r:KV AR vs)(k:κ):Ip (FU AR k) (JN vs k):=by
 unfold KV at r;induction r with
 |nil=>exact Cm
 | @cons p q ps qs h t ih=>
  obtain⟨h1,h2⟩:=h;by_cases e:p.1=k
  .have e':=h1.symm.trans e;have b:JN (q::qs) k=some q.2:=by simp[JN,Ct,e']
   rw[jW e,b];exact h2
  .have e':¬q.1=k:=λz=>e (h1.trans z);have b:JN (q::qs) k=JN qs k:=by simp[JN,Ct,e']
   rw[jV e,b];exact ih
theorem KV.any (r:KV AR vs)(k:κ):(AR.any λkv=>decide (kv.1=k))=vs.any λkv=>decide (kv.1=k):=by
 unfold KV at r;induction r with
 |nil=>rfl
 |cons h t ih=>rw[Fy,Fy,ih,h.1]
theorem KV.repl (r:KV AR vs)(k:κ)(ry:RelV y u) :
  KV (AR.map λkv=>if kv.1=k then(kv.1,y)else kv) (vs.map λkv=>if kv.1=k then(kv.1,u)else kv):=by
 unfold KV at r ⊢;induction r with
 |nil=>exact .nil
 | @cons p q ps qs h t ih=>
  rw[AQ,AQ];refine .cons ?_ ih;obtain⟨h1,h2⟩:=h;by_cases e:p.1=k
  .rw[if_pos e,if_pos (h1.symm.trans e)];exact⟨h1,ry⟩
  .rw[if_neg e,if_neg (λz=>e (h1.trans z))];exact⟨h1,h2⟩
theorem KV.put (r:KV AR vs)(k:κ)(ry:RelV y u):KV (putK AR k y) (stored vs k u):=by
 unfold putK stored;rw[r.any k];by_cases e:(vs.any λkv=>decide (kv.1=k))=true
 .rw[if_pos e,if_pos e];exact r.repl k ry
 .rw[if_neg e,if_neg e];exact T2 r ⟨rfl,ry⟩
theorem KV.keys {AR:List (κ×V)}{vs:List (κ×Ad)}(r:KV AR vs):AR.map (·.1)=vs.map (·.1):=by
 unfold KV at r;induction r with
 |nil=>rfl
 |cons h t ih=>rw[AQ,AQ,ih,h.1]
theorem KV.length {AR:List (κ×V)}{vs:List (κ×Ad)}(r:KV AR vs):AR.length=vs.length:=D7 r
end
theorem Sl (r:RelV (kV k) u):(BV P w).is k u=true:=by
 cases k with
 |inl i=>obtain⟨t,e⟩:=(show∃t,u=DL i t from r);subst e;exact ZkK P w i t
 |inr x=>obtain⟨t,e⟩:=(show∃t,u=Dk x t from r);subst e;exact ZkJ P w x t
theorem uG :∀{ks:List B7}{us:List Ad},BJ (ks.map kV) us->ItemsAre (BV P w) ks us
 |[],_,r=>by rw[Dx]at r;cases r;exact .nil
 |k::ks,_,r=>by
  rw[AQ]at r;cases r with
  |cons h t=>exact .cons (Sl h) (uG t)
abbrev KT (H:Hp):List (List B7×V)->List (List B7×Ao×Ad)->Prop:=D8 λp q=>p.1=q.1/\H q.2.1=some (.tup (p.1.map kV))/\RelV p.2 q.2.2
theorem KT.val {H:Hp}{AR:List (List B7×V)}{xs:List (List B7×Ao×Ad)}(r:KT H AR xs)(k:List B7):Ip (FU AR k) ((Ps xs k).map (·.2)):=by
 induction r with
 |nil=>exact Cm
 | @cons p q ps qs h t ih=>
  obtain⟨h1,_,h2⟩:=h;by_cases e:p.1=k
  .have e':=h1.symm.trans e;have b:Ps (q::qs) k=some q.2:=by simp[Ps,Ct,e']
   rw[jW e,b];exact h2
  .have e':¬q.1=k:=λz=>e (h1.trans z);have b:Ps (q::qs) k=Ps qs k:=by simp[Ps,Ct,e']
   rw[jV e,b];exact ih
theorem KT.repl (r:KT H AR xs)(k:List B7)(ry:RelV y u) :
  KT H (AR.map λkv=>if kv.1=k then(kv.1,y)else kv) (xs.map (putAt k u)):=by
 induction r with
 |nil=>exact .nil
 | @cons p q ps qs h t ih=>
  rw[AQ,AQ];refine .cons ?_ ih;obtain⟨h1,h2,h3⟩:=h;unfold putAt;by_cases e:p.1=k
  .rw[if_pos e,if_pos (h1.symm.trans e)];exact⟨h1,h2,ry⟩
  .rw[if_neg e,if_neg (λz=>e (h1.trans z))];exact⟨h1,h2,h3⟩
theorem KT.put (r:KT H AR xs)(k:List B7)(hb:H b=some (.tup (k.map kV)))(ry:RelV y u) :
  KT H (putK AR k y) (storedH xs k b u):=by
 have e:(AR.any λkv=>decide (kv.1=k))=(Ps xs k).isSome:=by
  rw[tL,(r.val k).isSome_eq,ND]
 unfold putK storedH;rw[e];by_cases q:(Ps xs k).isSome=true
 .rw[if_pos q,if_pos q];exact r.repl k ry
 .rw[if_neg q,if_neg q];exact T2 r ⟨rfl,hb,ry⟩
theorem KT.keeps (r:KT H AR xs)(ht:∀b ys,H b=some (.tup ys)->H' b=some (.tup ys)):KT H' AR xs:=
 D8.mapP r λ_ _ z=>⟨z.1,ht _ _ z.2.1,z.2.2⟩
section
theorem nW (ok:Iu P w H h)(e:Rd H a u):CZ P w H h a u:=e.ok ok
theorem Rv (ok:Iu P w H h)(e:Rd H a (.dK AR)):AR.length<=An/\(a == Ff)=false/\∃vs,KV AR vs/\h.DictOf (BV P w) a vs:=
 show CZ P w H h a (.dK AR)from nW ok e
theorem iC (ok:Iu P w H h)(e:H a=some (.dK AR)):AR.length<=An/\(a == Ff)=false/\∃vs,KV AR vs/\h.DictOf (BV P w) a vs:=Rv ok (.inl e)
theorem Yc (ok:Iu P w H h)(e:H a=some (.tup (ks.map kV))):(LG (BV P w)).is h ks a:=by
 obtain⟨_,Bn,r,o,h1,h2,n,h3,_⟩:=(show CZ P w H h a (.tup (ks.map kV))from ok a _ e);exact⟨o,Bn.toArray,n,h1,h2,h3,by simpa using uG r⟩
theorem VO (ok:Iu P w H h)(e:Rd H a (.dT AR)):AR.length<=An/\(a == Ff)=false /\
  ∃xs,KT H AR xs/\h.DictOfH (LG (BV P w)) a xs:=by
 obtain⟨z,y,xs,r,o,es,ep,h1,h2,h3,h4,h5⟩:=(show CZ P w H h a (.dT AR)from nW ok e);refine⟨z,y,xs,r,o,es,ep,h1,h2,h3,h4,λx hx=>?_,h5⟩
 have all:∀{l:List (List B7×V)} {m:List (List B7×Ao×Ad)},KT H l m->∀x∈m,(LG (BV P w)).is h x.1 x.2.1:=by
  intro l m q;induction q with
  |nil=>intro x hx;exact nomatch hx
  | @cons p q ps qs hq t ih=>
   intro x hx;rcases A5.mp hx with e|hx
   .subst e;exact Yc ok (by rw[<- hq.1];exact hq.2.1)
   .exact ih x hx
 exact all r x hx
theorem jc (ok:Iu P w H h)(e:H a=some (.dT AR)):AR.length<=An/\(a == Ff)=false /\
  ∃xs,KT H AR xs/\h.DictOfH (LG (BV P w)) a xs:=VO ok (.inl e)
end
def Q5 (H:Hp)(a:Ao)(y:V)(r:Option V):Prop:=
 (∃AR k,Rd H a (.dK AR)/\y=kV k/\r=FU AR k)\/∃AR k b,Rd H a (.dT AR)/\y=.ref b/\H b=some (.tup (k.map kV))/\r=FU AR k
def Q4 (H:Hp)(a:Ao)(y v:V)(H':Hp):Prop:=
 (∃AR k,H a=some (.dK AR)/\y=kV k/\AR.length<An/\H'=CF H a (.dK (putK AR k v))) \/
 ∃AR k b,H a=some (.dT AR)/\y=.ref b/\H b=some (.tup (k.map kV))/\AR.length<An/\H'=CF H a (.dT (putK AR k v))
theorem Q4.k {k:B7}(e:H a=some (.dK AR))(hl:AR.length<An):Q4 H a (kV k) v (CF H a (.dK (putK AR k v))):=.inl ⟨AR,k,e,rfl,hl,rfl⟩
section
theorem A6.big (I:A6 X Af U H s):Ff<s.heap.objs.size:=by
 have h:=(I.mod.glob.keeps I.bk).lt;exact Nat.lt_trans (by decide) h
theorem Zp1 (hu:A.units+1<Dh)(I:A6 X Af U H s)(g:Q5 H a y (some v))(ry:RelV y u)(h:∀w' s',A6 X Af U H s'->RelV v w'->Q w' s') :
  Av (AA X.prog X.w) A (JQ (.ref a) u) Q E s:=by
 rcases g with⟨AR,k,e,ey,l⟩|⟨AR,k,b,e,ey,eb,l⟩
 .subst ey;obtain⟨z,hd,vs,rel,dd⟩:=Rv I.hok e;obtain⟨w',hw,rw'⟩:=Ip.some_of (by rw[l];exact rel.val k);exact Wo (Sl ry) dd.mapOf hw (h w' _ (I.tok _) rw')
 .subst ey;cases(show u=AC b from ry);obtain⟨z,hd,xs,rel,dd⟩:=VO I.hok e;obtain⟨w',hw,rw'⟩:=Ip.some_of (by rw[l];exact rel.val k);obtain⟨p,hp,hp2⟩:=E6.mp hw;refine wpAny_getItem_heap (GY hu) (Yc I.hok eb) dd hp ?_;rw[hp2];exact h w' _ (I.tok _) rw'
theorem gJ (hu:A.units+1<Dh)(I:A6 X Af U H s)(g:Q5 H a y o)(ry:RelV y u)(h:∀s',A6 X Af U H s'->Q (.bool o.isSome) s') :
  Av (AA X.prog X.w) A (A9 .In u (.ref a)) Q E s:=by
 rcases g with⟨AR,k,e,ey,l⟩|⟨AR,k,b,e,ey,eb,l⟩
 .subst ey;obtain⟨z,hd,vs,rel,dd⟩:=Rv I.hok e;refine wpAny_in_of (Sl ry) hd dd.mapOf ?_;rw[<- (rel.val k).isSome_eq,<- l];exact h _ (I.tok _)
 .subst ey;cases(show u=AC b from ry);obtain⟨z,hd,xs,rel,dd⟩:=VO I.hok e;refine wpAny_in_heap (GY hu) (Yc I.hok eb) hd dd ?_;have q:=(rel.val k).isSome_eq;rw[ND]at q;rw[<- q,<- l];exact h _ (I.tok _)
theorem vg (hu:A.units+1<Dh)(I:A6 X Af U H s)(g:Q5 H a y o)(ry:RelV y u)(h:∀s',A6 X Af U H s'->Q (.bool (!o.isSome)) s') :
  Av (AA X.prog X.w) A (A9 .NotIn u (.ref a)) Q E s:=by
 rcases g with⟨AR,k,e,ey,l⟩|⟨AR,k,b,e,ey,eb,l⟩
 .subst ey;obtain⟨z,hd,vs,rel,dd⟩:=Rv I.hok e;refine wpAny_notIn_of (Sl ry) hd dd.mapOf ?_;rw[<- (rel.val k).isSome_eq,<- l];exact h _ (I.tok _)
 .subst ey;cases(show u=AC b from ry);obtain⟨z,hd,xs,rel,dd⟩:=VO I.hok e;refine wpAny_notIn_heap (GY hu) (Yc I.hok eb) hd dd ?_;have q:=(rel.val k).isSome_eq;rw[ND]at q;rw[<- q,<- l];exact h _ (I.tok _)
theorem aD (I:A6 X Af U H s)(mu:YI (H a))(hs:BL a s.heap h')(he:∃q,h'.get? a=some q)(new:CZ X.prog X.w (CF H a ob) h' a ob) :
  A6 X Af U (CF H a ob) {s with heap:=h',toks:=t' }:=
 I.write mu (.inl rfl) (λb q hb z=>(hs.2 b hb).trans z) he new
theorem ZO (z:AR.length<=An)(hd:(a == Ff)=false)(rel:KV AR vs)(dd:h'.DictOf (BV P w) a vs) :
  CZ P w H' h' a (.dK AR):=⟨z,hd,vs,rel,dd⟩
theorem Zp0 (hu:A.units+1<Dh)(I:A6 X Af U H s)(g:Q4 H a y v H')(ry:RelV y u)(rv:RelV v r)(h:∀s',A6 X Af U H' s'->Q () s') :
  Av (AA X.prog X.w) A (setItem (.ref a) u r) Q E s:=by
 rcases g with⟨AR,k,e,ey,l,eH⟩|⟨AR,k,b,e,ey,eb,l,eH⟩
 .subst ey eH;obtain⟨z,hd,vs,rel,dd⟩:=iC I.hok e;have hz:vs.length<=An:=by rw[<- rel.length];exact z
  have hl:(putK AR k v).length<=An:=by have:=bF AR k v;ext
  refine wpAny_setItem_pairs (Sl ry) dd λh' dd' hs=>h _ ?_;have he:∃q,h'.get? a=some q:=let ⟨q,_,_,hq,_⟩:=dd';⟨q,hq⟩;exact aD I (by rw[e];exact Cm) hs he (ZO hl hd (rel.put k rv) dd')
 .subst ey eH;cases(show u=AC b from ry);obtain⟨z,hd,xs,rel,dd⟩:=jc I.hok e;have hz:xs.length<=An:=by rw[<- D7 rel];exact z
  have hl:(putK AR k v).length<=An:=by have:=bF AR k v;ext
  refine wpAny_setItem_heap (GY hu) (Yc I.hok eb) dd λh' dd' hs=>h _ ?_;obtain⟨q,es,ep,hq,h2,h3,h4,_,h5⟩:=dd';refine aD I (by rw[e];exact Cm) hs ⟨q,hq⟩ ⟨hl,hd,_,(rel.put k eb rv).keeps λc ys ec=>?_,q,es,ep,hq,h2,h3,h4,h5⟩;rw[HW (ji ec e (λz=>nomatch z))];exact ec
end
section
end
def U0 (i:Bv):Prop:=∀ov iv,Mm i false ov iv=operate [ov,iv] (JQ ov iv)
theorem xu {T id:String}
  (hl:Nx (.type T) "__getitem__" = pure (some (.builtin id))) (hs:U0 slice)
  (h:Av (AA prog w) A (eval value env) (λo s₁=>Av (AA prog w) A (eval slice env) (λi s₂=>s₂.TypeIs o T/\Av (AA prog w) A (JQ o i) Q E s₂) E s₁) E s) :
  Av (AA prog w) A (eval (.Subscript value slice pos) env) Q E s:=by
 refine TX (BO h (λo s₁ h₁=>BO h₁ (λi s₂ h₂=>?_) λ_ _ x=>x) λ_ _ x=>x);obtain⟨hT,h₂⟩:=h₂;unfold OQ;refine Aa ?_;rw[getitemInPython_of_ne hT.not_modules];refine Aa (YQ hT hl ?_)
 have fin:Av (AA prog w) A (Mm slice false o i) (λr s₃=>Av (AA prog w) A (letTemporaryGo value o r >>= λ_=>pure r) Q E s₃) E s₂:=by
  rw[hs o i];exact wpAny_operating (BO h₂ (λr s₃ h₃=>Aa (wpAny_letTemporaryGo (Ae h₃))) λ_ _ x=>x)
 first
  |exact Ae (Aa fin)
  |exact Aa (Ae (Aa fin))
  |exact Aa fin
theorem Zlr (I:A6 X Af U H s)(g:Q5 H a y o):s.TypeIs (.ref a) "dict":=by
 rcases g with⟨AR,k,e,_,_⟩|⟨AR,k,b,e,_,_,_⟩
 .obtain⟨_,_,vs,_,dd⟩:=Rv I.hok e;exact dd.typeIs
 .obtain⟨_,_,xs,_,dd⟩:=VO I.hok e;exact dd.typeIs
def Xn (td ty:TE):TE:=λU H Q=>td U H λx H1=>ty U H1 λy H2=>∃a v,x=.ref a/\Q5 H2 a y (some v)/\Q v H2
def Xz (td ty tv:TE):TS:=λD U H=>tv U H λv H1=>td U H1 λx H2=>ty U H2 λy H3=>∃a H4,x=.ref a/\Q4 H3 a y v H4/\D.nx U H4
section
theorem u6 (hu:X.A.units+1<Dh)(ho:PE X o td)(hi:PE X i ty)(hs:U0 i):PE X (.Subscript o i pos) (Xn td ty):=by
 intro Af s U H Q I h;refine xu PySem.F.slot_dict_getitem.lookup hs (Dv (ho Af s U H _ I h) λu s1 e=>e.el λx H1 I1 rx q1=>Dv (hi Af s1 U H1 _ I1 q1) λiv s2 e=>e.el λy H2 I2 ry ⟨a,v,ex,g,q2⟩=>?_);subst ex;obtain rfl:u=AC a:=rx;exact⟨Zlr I2 g,Zp1 hu I2 g ry λw' s3 I3 rw'=>⟨v,H2,I3,rw',q2⟩⟩
theorem wu (hu:X.A.units+1<Dh)(ho:PE X o td)(hi:PE X i ty)(hv:PE X value tv)(hs:D4 value (some (.Subscript o i pos')) pos.line X.env=pure false) :
  PS X (.Assign [.Subscript o i pos'] value pos) (Xz td ty tv):=by
 intro Af s U H D I h;refine wpAny_Assign_Subscript (Dv (hv Af s U H _ I h) λr s1 e=>e.el λv H1 I1 rv q1=>Dv (ho Af s1 U H1 _ I1 q1) λu s2 e=>e.el λx H2 I2 rx q2=>Dv (hi Af s2 U H2 _ I2 q2) λiv s3 e=>e.el λy H3 I3 ry ⟨a,H4,ex,g,q3⟩=>?_) hs;subst ex;obtain rfl:u=AC a:=rx;exact Zp0 hu I3 g ry rv λs4 I4=>⟨U,H4,I4,q3⟩
end
theorem sB (h:BU)(hb:Ff<h.objs.size):CZ P w H (h.push {cls:=.type "dict",data:=.dict #[]}) h.objs.size (.dK []):=
 ⟨Ek _,beq_eq_false_iff_ne.mpr (Bm (A8 hb)),[],.nil,Nm h⟩
def Uc:TE:=λ_ H Q=>∀p,H p=none->Q (.ref p) (CF H p (.dK []))
section
theorem Δ:PE X (.Dict [] [] pos) Uc:=λAf s U H Q I h=>
 wpAny_Dict_empty ⟨.ref s.heap.objs.size,_,I.laid (λ_ _ q=>Ah _ q) (AJ _) (sB s.heap I.big),rfl,h _ (I.hok.fresh (AJ _))⟩
end
def NZ:List (TE×TE)->St->Hp->(List (V×V)->Hp->Prop)->Prop
 |[],_,H,Q=>Q [] H
 |(tk,tv)::r,U,H,Q=>tk U H λx H1=>tv U H1 λy H2=>NZ r U H2 λps H3=>Q ((x,y)::ps) H3
abbrev VV:List (V×V)->List (Ad×Ad)->Prop:=D8 λp q=>RelV p.1 q.1/\RelV p.2 q.2
def bQ (X:Cx)(pos:Pos)(keys:List (Option Bv))(values:List Bv)(trs:List (TE×TE)):Prop:=
 ∀(Af:List (Ao×Obj)) (s:Aj) (U:St) (H:Hp) (Q:List (V×V)->Hp->Prop),A6 X Af U H s->NZ trs U H Q ->
  Av (AA X.prog X.w) X.A (evalPairs (pairTrees keys values X.env pos)) (λvs s'=>∃ps H',A6 X Af U H' s'/\VV ps vs/\Q ps H') X.xe s
theorem wt :bQ X pos [] [] []:=λAf s U H Q I h=>pairTrees_nil_walk ⟨[],H,I,.nil,h⟩
theorem aQ (hk:PE X k tk)(hv:PE X v tv)(hr:bQ X pos ks vs trs) :
  bQ X pos (some k::ks) (v::vs) ((tk,tv)::trs):=λAf s U H Q I h=>
 pairTrees_cons_walk (Dv (hk Af s U H _ I h) λu s1 ⟨x,H1,I1,rx,q1⟩=>Dv (hv Af s1 U H1 _ I1 q1) λw2 s2 ⟨y,H2,I2,ry,q2⟩ =>
  Dv (hr Af s2 U H2 _ I2 q2) λws s3 ⟨ps,H3,I3,rel,q3⟩=>⟨(x,y)::ps,H3,I3,.cons ⟨rx,ry⟩ rel,q3⟩)
noncomputable def mergeK (AR more:List (B7×V)):List (B7×V):=more.foldl (λacc kv=>putK acc kv.1 kv.2) AR
theorem KV.merge:∀{more:List (B7×V)}{rs:List (B7×Ad)}{AR:List (B7×V)}{vs:List (B7×Ad)},KV more rs->KV AR vs->KV (mergeK AR more) (Jx vs rs):=by
 intro more rs AR vs r;unfold KV at r;induction r generalizing AR vs with
 |nil=>intro q;exact q
 | @cons p q ps qs h t ih=>
  intro r0
  have e:KV (putK AR p.1 p.2) (stored vs q.1 q.2):=by
   have:=r0.put p.1 h.2;rw[<- h.1];exact this
  exact ih e
theorem ab:∀(more AR:List (B7×V)),(mergeK AR more).length<=AR.length+more.length
 |[],AR=>by show AR.length<=AR.length+0;ext
 |p::r,AR=>by
  have h1:=ab r (putK AR p.1 p.2);have h2:=bF AR p.1 p.2;show(mergeK (putK AR p.1 p.2) r).length<=_;rw[AO];ext
theorem vR :∀{AR:List (B7×V)}{ws:List (Ad×Ad)},VV (AR.map λkv=>(kV kv.1,kv.2)) ws->∃rs,Carries (BV P w) ws rs/\KV AR rs
 |[],_,r=>by rw[Dx]at r;cases r;exact⟨[],Cm,.nil⟩
 |p::AR,_,r=>by
  rw[AQ]at r;cases r with
  | @cons a b as bs h t=>obtain⟨rs,c,q⟩:=vR t;obtain⟨b1,b2⟩:=b;exact⟨(p.1,b2)::rs,⟨Sl h.1,rfl,c⟩,.cons ⟨rfl,h.2⟩ q⟩
def Xm (trs:List (TE×TE)):TE:=λU H Q=>∀p,H p=none->NZ trs U (CF H p (.dK [])) λps H2=>H2 p=some (.dK [])/\∃AR,ps=AR.map (λkv=>(kV kv.1,kv.2))/\AR.length<=15/\Q (.ref p) (CF H2 p (.dK (mergeK [] AR)))
theorem u7 (h:bQ X pos keys values trs)(hall:keys.all (·.isSome)=true)(hl:keys.length=values.length)(h0:keys≠[])
  (h15:keys.length<=15):PE X (.Dict keys values pos) (Xm trs):=by
 intro Af s U H Q I q;have hn:=I.hok.fresh (AJ s.heap.objs.size);have I1:=I.laid (a:=s.heap.objs.size) (o:=.dK []) (h':=s.heap.push {cls:=.type "dict",data:=.dict #[]}) (t':=s.toks) (λ_ _ q=>Ah _ q) (AJ _) (sB s.heap I.big);refine wpAny_Dict_walk (knd:=BV X.prog X.w) hall hl h0 h15 (Dv (h Af _ U _ _ I1 (q _ hn)) λws s2 ⟨ps,H2,I2,rel,e,AR,ep,lk,q2⟩=>?_);subst ep;obtain⟨rs,c,rk⟩:=vR (P:=X.prog) (w:=X.w) rel;obtain⟨z,hd,vs0,r0,dd⟩:=iC I2.hok e;cases r0;refine⟨rs,c,dd,λh' dd' hs=>⟨.ref s.heap.objs.size,_,?_,rfl,q2⟩⟩
 have hz:(mergeK [] AR).length<=An:=by
  have h1:=ab AR [];rw[FQ]at h1;rw[Jw];ext
 have he:∃q,h'.get? s.heap.objs.size=some q:=let ⟨q,_,_,hq,_⟩:=dd';⟨q,hq⟩;exact aD I2 (by rw[e];exact Cm) hs he (ZO hz hd (rk.merge .nil) dd')
structure M1 (X:Cx)(o:Bv)(m:Str)(apos:Pos)(e:Bv)(cpos:Pos):Prop where
 base:CJ o m X.env (eval o X.env)=eval o X.env
 few:((Cg cpos (Au [e] X.env)).all (λx=>!x.1) && (Fx cpos (DJ [] X.env)).all (λx=>x.1.isSome)
  && decide (([e]:List Bv).length+([]:List E1).length+(if ([]:List E1).isEmpty then 0 else 1)<30))=true
 line:(apos.endLine == cpos.line)=true
 trees:Cg cpos (Au [e] X.env)=[(false,eval e X.env)]
structure M2 (X:Cx)(o:Bv)(m:Str)(apos:Pos)(e f:Bv)(cpos:Pos):Prop where
 base:CJ o m X.env (eval o X.env)=eval o X.env
 few:((Cg cpos (Au [e,f] X.env)).all (λx=>!x.1) && (Fx cpos (DJ [] X.env)).all (λx=>x.1.isSome)
  && decide (([e,f]:List Bv).length+([]:List E1).length+(if ([]:List E1).isEmpty then 0 else 1)<30))=true
 line:(apos.endLine == cpos.line)=true
 trees:Cg cpos (Au [e,f] X.env)=[(false,eval e X.env),(false,eval f X.env)]
section
end
section
end
section
end
section
end
section
end
section
variable {κ:Type}[DecidableEq κ]
end
structure Df (K:Ac)(mg:Str->Option Ad)(x:Str)(st:A4)(ps:List Str)(f:Ao)(fd:B9):Prop where
 F:Co K x x st f fd
 b:HN K fd ps []
 m:mg x=some (.ref f)
structure Blt (mg:Str->Option Ad):Prop where
 len:mg "len" = none
 range:mg "range" = none
 isinstance:mg "isinstance" = none
 int:mg "int" = none
 bool:mg "bool" = none
 list:mg "list" = none
 tuple:mg "tuple" = none
 max:mg "max" = none
 min:mg "min" = none
 dict:mg "dict" = none
 reversed:mg "reversed" = none
 sorted:mg "sorted" = none
 set:mg "set" = none
 str:mg "str" = none
 sum:mg "sum" = none
 enumerate:mg "enumerate" = none
 zip:mg "zip" = none
 all:mg "all" = none
section
theorem XG {st:A4}(d:Df X.K X.mg x st ps f fd)(G:FnOk X.prog X.w X.K X.mg X.base CX0 k f fd ps sp)(hr:Dg k X.A)(ha:PA X (e::es) t)
  (hg:Gl X x:=by rfl) (hdb:(x == ("__debug__":Str))=false:=by decide) (he:Au (e::es) X.env=(false,eval e X.env)::Au es X.env:=by rfl) (hpl:(Cg pos (Au es X.env)).any (·.1)=false:=by rfl) :
  PE X (.Call (.Name x p) (e::es) [] pos) (S8 sp [] E0 t):=uz G hr hg d.m d.F.kp d.b .nil OL ha hdb he hpl
theorem XF (hm:X.mg x=some (.int i t))(hg:Gl X x:=by rfl)(hd:(x == ("__debug__":Str))=false:=by decide):PE X (.Name x pos) (tC (.int i)):=qQ hg hm ⟨_,rfl⟩ hd
theorem iq (hm:X.mg x=none)(hv:DK x=some (.type T))(hg:Gl X x:=by rfl)(hn:x≠"__name__":=by decide)(hd:(x == ("__debug__":Str))=false:=by decide):PE X (.Name x pos) (tC (.ty T)):=uy hg hm hv rfl hn hd
end
theorem small (h:n<=1000):n<=An:=Fu (BS h)
theorem iI (xs)(k:Nat):Ki xs none (some (k:Int))=xs.take k:=by
 unfold Ki;rw[HT.sIx_none,HT.sIx_nat,LM,NA];by_cases h:k<=xs.length
 .rw[Fh h]
 .rw[Fs (by ext),Be,BR (by ext)]
theorem sA (xs)(k:Nat):Ki xs (some (k:Int)) none=xs.drop k:=by
 unfold Ki;rw[HT.sIx_none,HT.sIx_nat];by_cases h:k<=xs.length
 .rw[Fh h,BR (by rw[F2];exact AJ _)]
 .rw[Fs (by ext),Jv,LH,Nl (by ext)]
def TabOk (K:Ac)(w:Bj)(h:Ao)(D:List (Str×Int)):Prop:=
 ∃es n,K.lookup h=some ⟨.type "dict",none,.dict es n,#[]⟩/\PySem.W.KeysLit w.params es.toList/\∀x v,D.lookup x=some v->∃t,PySem.W.nsIn K h x=some (some (.int v t))
theorem Uo (hm:X.mg x=some (.ref h))(hg:Gl X x:=by rfl)(hd:(x == ("__debug__":Str))=false:=by decide):PE X (.Name x pos) (tC (.ref h)):=qQ hg hm rfl hd
def fT (K:Ac)(w:Bj):R2:=λx y H Q=>∃h D k v,x=.ref h/\y=.str k/\TabOk K w h D/\D.lookup k=some v/\Q (.int v) H
theorem jx :Pg X (fT X.K X.w):=by
 intro value slice Af s U H x y v u Q I rx ry h hs;symm;obtain⟨a,D,k,z,e1',e2',⟨es,n,hl,hk,he⟩,hz,q⟩:=h;cutsat;subst e1' e2';cases(show v=AC a from rx);obtain⟨t,rfl⟩:=(show∃t,u=Dk k t from ry);obtain⟨t',e⟩:=he k z hz;have hm:=PySem.W.mapOf_K (prog:=X.prog) (w:=X.w) I.kIn hl hk;exact bU hm.typeIs slot_dict_getitem.lookup (Wo (strKind_is X.prog X.w k t) hm (PySem.W.find_K hl e) ⟨.int z,H,I.tok _,⟨_,rfl⟩,q⟩) hs
theorem iF (h0:0<=i)(h1:i<(xs.length:Int)):∃v,FK xs i=some v/\v∈xs:=by
 have hk:i.toNat<xs.length:=by ext
 have e:i=((i.toNat:Nat):Int):=by ext
 have z:=Oj (Ag hk);rw[<- e]at z;exact⟨xs[i.toNat],z,F3 hk⟩
end L2
namespace L3
open PySem PySem.Spec PyProof.Rows L2
inductive D where
 |non | bl (b:Bool) | int (i:Int) | str (x:Str) | ref (a:Ao) | ty (n:String)
 |tup (xs:List D) | lst (xs:List D) | dic (AR:List (B7×D)) | dct (AR:List (List B7×D))
noncomputable def QH:Bool:=false
abbrev Zt:=Ao->D->Prop
def At (Z:Zt)(v:V):D->Prop
 |.non=>v=.non
 |.bl b=>v=.bl b
 |.int i=>v=.int i
 |.str x=>v=.str x
 |.ref a=>v=.ref a
 |.ty n=>v=.ty n
 |.tup xs=>∃p,v=.ref p/\Z p (.tup xs)
 |.lst xs=>∃p,v=.ref p/\Z p (.lst xs)
 |.dic AR=>∃p,v=.ref p/\Z p (.dic AR)
 |.dct AR=>∃p,v=.ref p/\Z p (.dct AR)
abbrev Dw (Z:Zt):List V->List D->Prop:=D8 (At Z)
def KAt (Z:Zt)(p:κ×V)(q:κ×D):Prop:=p.1=q.1/\At Z p.2 q.2
abbrev Cw (Z:Zt):List (κ×V)->List (κ×D)->Prop:=D8 (KAt Z)
def Le (Z Z':Zt):Prop:=∀p d,Z p d->Z' p d
theorem Le.refl (Z:Zt):Le Z Z:=λ_ _ h=>h
theorem Le.trans (a:Le Z Z1)(b:Le Z1 Z2):Le Z Z2:=λp d h=>b p d (a p d h)
theorem At.mono (l:Le Z Z')(h:At Z v d):At Z' v d:=by
 cases d with
 |tup xs=>obtain⟨p,e,z⟩:=h;exact⟨p,e,l _ _ z⟩
 |lst xs=>obtain⟨p,e,z⟩:=h;exact⟨p,e,l _ _ z⟩
 |dic xs=>obtain⟨p,e,z⟩:=h;exact⟨p,e,l _ _ z⟩
 |dct xs=>obtain⟨p,e,z⟩:=h;exact⟨p,e,l _ _ z⟩
 |_=>exact h
theorem Dw.mono (l:Le Z Z'):∀{vs:List V}{ds:List D},Dw Z vs ds->Dw Z' vs ds
 |_,_,.nil=>.nil
 |_,_,.cons r t=>.cons (At.mono l r) (Dw.mono l t)
theorem Cw.mono (l:Le Z Z'):∀{vs:List (κ×V)}{ds:List (κ×D)},Cw Z vs ds->Cw Z' vs ds
 |_,_,.nil=>.nil
 |_,_,.cons r t=>.cons ⟨r.1,At.mono l r.2⟩ (Cw.mono l t)
theorem Dw.length (h:Dw Z vs ds):vs.length=ds.length:=D7 h
theorem Dw.get :∀{vs:List V}{ds:List D}{i:Nat}{d:D},Dw Z vs ds->ds[i]? = some d->∃v,vs[i]? = some v/\At Z v d
 |_,_,_,_,.nil,e=>by simp at e
 |_,_,0,_,.cons r _,e=>by simp at e;subst e;exact⟨_,rfl,r⟩
 |_,_,i+1,d,.cons _ t,e=>by
  obtain⟨v,h1,h2⟩:=Dw.get t (by simpa using e);exact⟨v,by simpa using h1,h2⟩
theorem Dw.got :∀{vs:List V}{ds:List D}{i:Nat}{v:V},Dw Z vs ds->vs[i]? = some v->∃d,ds[i]? = some d/\At Z v d
 |_,_,_,_,.nil,e=>by simp at e
 |_,_,0,_,.cons r _,e=>by simp at e;subst e;exact⟨_,rfl,r⟩
 |_,_,i+1,d,.cons _ t,e=>by
  obtain⟨v,h1,h2⟩:=Dw.got t (by simpa using e);exact⟨v,by simpa using h1,h2⟩
theorem Dw.append :∀{xs ys:List V}{us ws:List D},Dw Z xs us->Dw Z ys ws->Dw Z (xs++ys) (us++ws)
 |_,_,_,_,.nil,s=>s
 |_,_,_,_,.cons r t,s=>.cons r (Dw.append t s)
theorem Dw.take :∀{xs:List V}{us:List D}(n:Nat),Dw Z xs us->Dw Z (xs.take n) (us.take n)
 |_,_,0,_=>.nil
 |_,_,_+1,.nil=>.nil
 |_,_,n+1,.cons r t=>.cons r (Dw.take n t)
theorem Dw.drop :∀{xs:List V}{us:List D}(n:Nat),Dw Z xs us->Dw Z (xs.drop n) (us.drop n)
 |_,_,0,r=>r
 |_,_,_+1,.nil=>.nil
 |_,_,n+1,.cons _ t=>Dw.drop n t
inductive MO where
 |lst (xs:List D) | dic (AR:List (B7×D)) | dct (AR:List (List B7×D)) | obj (C:Ao) (fs:List (Str×D))
abbrev Mp:=Ao->Option MO
noncomputable def put (M:Mp)(a:Ao)(o:MO):Mp:=λb=>if b=a then some o else M b
noncomputable def JL (M:Mp)(a:Ao):Mp:=λb=>if b=a then none else M b
theorem Dc :put M a o a=some o:=by unfold put;rw[if_pos rfl]
theorem Dy (h:b≠a):put M a o b=M b:=by unfold put;rw[if_neg h]
theorem QX :put (put M a o) a u=put M a u:=by funext b;unfold put;split<;>rfl
theorem V0 (h:M a=none):JL (put M a o) a=M:=by
 funext b;unfold JL put;split
 .next e=>rw[e,h]
 .rfl
def Sub (M M':Mp):Prop:=∀a o,M a=some o->M' a=some o
theorem Sub.refl (M:Mp):Sub M M:=λ_ _ h=>h
theorem Sub.trans {M M1 M2:Mp}(a:Sub M M1)(b:Sub M1 M2):Sub M M2:=λp o h=>b p o (a p o h)
theorem Sub.put (h:M a=none):Sub M (put M a o):=λb u e=>by
 rw[Dy (λz=>by rw[z,h]at e;cases e)];exact e
theorem Sub.puts (s:Sub M M')(h:M a=none):Sub M (L3.put M' a o):=λb u e=>by
 rw[Dy (λz=>by rw[z,h]at e;cases e)];exact s b u e
section
variable (K:Ac)
def HB (H:Hp)(Z:Zt)(p:Ao):D->Prop
 |.tup ds=>∃vs,H p=some (.tup vs)/\Dw Z vs ds
 |.lst ds=>∃vs,Rd H p (.lst vs)/\Dw Z vs ds
 |.dic AR=>∃ks,Rd H p (.dK ks)/\Cw Z ks AR
 |.dct AR=>∃ks,Rd H p (.dT ks)/\Cw Z ks AR
 |_=>False
def KB (Z:Zt)(p:Ao):D->Prop
 |.tup ds=>QH=true/\∃vs,(∃o Bn n,K.lookup p=some o/\o.cls=.type "tuple"/\o.data=.seq Bn n/\Bn.size<=An/\BJ vs Bn.toList)/\Dw Z vs ds
 |.lst ds=>∃vs,(∃o Bn n,K.lookup p=some o/\o.cls=.type "list"/\o.dict=none/\o.data=.seq Bn n/\Bn.size<=An/\BJ vs Bn.toList)/\Dw Z vs ds
 |_=>False
def MB (H:Hp)(Z:Zt)(p:Ao):MO->Prop
 |.lst ds=>∃vs,H p=some (.lst vs)/\Dw Z vs ds
 |.dic AR=>∃ks,H p=some (.dK ks)/\Cw Z ks AR
 |.dct AR=>∃ks,H p=some (.dT ks)/\Cw Z ks AR
 |.obj C fs=>∃dx ks,H p=some (.ins C dx ks)/\Cw Z ks fs
structure HR (H:Hp)(M:Mp)(Z:Zt):Prop where
 z:∀p d,Z p d->HB H Z p d\/KB K Z p d
 m:∀p o,M p=some o->(∀d,Z p d->KB K Z p d)/\MB H Z p o
end
section
variable {K:Ac}{H:Hp}{M M':Mp}{Z:Zt}{p:Ao}{d:D}
theorem HB.mono (l:Le Z Z')(h:HB H Z p d):HB H Z' p d:=by
 cases d with
 |tup ds=>obtain⟨vs,r,a⟩:=h;exact⟨vs,r,a.mono l⟩
 |lst ds=>obtain⟨vs,r,a⟩:=h;exact⟨vs,r,a.mono l⟩
 |dic ds=>obtain⟨vs,r,a⟩:=h;exact⟨vs,r,a.mono l⟩
 |dct ds=>obtain⟨vs,r,a⟩:=h;exact⟨vs,r,a.mono l⟩
 |_=>exact h.elim
theorem KB.mono (l:Le Z Z')(h:KB K Z p d):KB K Z' p d:=by
 cases d with
 |tup ds=>obtain⟨g,vs,r,a⟩:=h;exact⟨g,vs,r,a.mono l⟩
 |lst ds=>obtain⟨vs,r,a⟩:=h;exact⟨vs,r,a.mono l⟩
 |_=>exact h.elim
theorem MB.mono (l:Le Z Z')(h:MB H Z p o):MB H Z' p o:=by
 cases o with
 |lst ds=>obtain⟨vs,r,a⟩:=h;exact⟨vs,r,a.mono l⟩
 |dic ds=>obtain⟨vs,r,a⟩:=h;exact⟨vs,r,a.mono l⟩
 |dct ds=>obtain⟨vs,r,a⟩:=h;exact⟨vs,r,a.mono l⟩
 |obj C fs=>obtain⟨dx,vs,r,a⟩:=h;exact⟨dx,vs,r,a.mono l⟩
theorem Rd.at (e:H' p=H p)(h:Rd H p u):Rd H' p u:=by
 rcases h with h|⟨o,h⟩
 .exact .inl (e.trans h)
 .exact .inr ⟨o,e.trans h⟩
theorem HB.at (e:H' p=H p)(h:HB H Z p d):HB H' Z p d:=by
 cases d with
 |tup ds=>obtain⟨vs,r,a⟩:=h;exact⟨vs,e.trans r,a⟩
 |lst ds=>obtain⟨vs,r,a⟩:=h;exact⟨vs,Rd.at e r,a⟩
 |dic ds=>obtain⟨vs,r,a⟩:=h;exact⟨vs,Rd.at e r,a⟩
 |dct ds=>obtain⟨vs,r,a⟩:=h;exact⟨vs,Rd.at e r,a⟩
 |_=>exact h.elim
theorem MB.at (e:H' p=H p)(h:MB H Z p o):MB H' Z p o:=by
 cases o with
 |lst ds=>obtain⟨vs,r,a⟩:=h;exact⟨vs,e.trans r,a⟩
 |dic ds=>obtain⟨vs,r,a⟩:=h;exact⟨vs,e.trans r,a⟩
 |dct ds=>obtain⟨vs,r,a⟩:=h;exact⟨vs,e.trans r,a⟩
 |obj C fs=>obtain⟨dx,vs,r,a⟩:=h;exact⟨dx,vs,e.trans r,a⟩
theorem HB.some (h:HB H Z p d):H p≠none:=λe=>by
 cases d with
 |tup ds=>obtain⟨vs,r,a⟩:=h;rw[e]at r;cases r
 |lst ds=>obtain⟨vs,r | ⟨o,r⟩,a⟩:=h<;>rw[e]at r<;>cases r
 |dic ds=>obtain⟨vs,r | ⟨o,r⟩,a⟩:=h<;>rw[e]at r<;>cases r
 |dct ds=>obtain⟨vs,r | ⟨o,r⟩,a⟩:=h<;>rw[e]at r<;>cases r
 |_=>exact h.elim
theorem MB.some (h:MB H Z p o):H p≠none:=λe=>by
 cases o with
 |lst ds=>obtain⟨vs,r,a⟩:=h;rw[e]at r;cases r
 |dic ds=>obtain⟨vs,r,a⟩:=h;rw[e]at r;cases r
 |dct ds=>obtain⟨vs,r,a⟩:=h;rw[e]at r;cases r
 |obj C fs=>obtain⟨dx,vs,r,a⟩:=h;rw[e]at r;cases r
theorem HR.fresh (h:HR K H M Z)(e:H p=none):M p=none:=by
 cases q:M p with
 |none=>rfl
 |some o=>exact absurd e (h.m p o q).2.some
theorem HR.sub (h:HR K H M Z)(s:Sub M' M):HR K H M' Z:=⟨h.z,λp o e=>h.m p o (s p o e)⟩
def ext (Z:Zt)(p:Ao)(d:D):Zt:=λb u=>Z b u\/(b=p/\u=d)
theorem Le.ext:Le Z (ext Z p d):=λ_ _ h=>.inl h
theorem HR.lay (h:HR K H M Z)(e:H p=none)(o:HO):(∀b u,Z b u->HB (CF H p o) Z b u\/KB K Z b u)/\∀b u,M b=some u->(∀d,Z b d->KB K Z b d)/\MB (CF H p o) Z b u:=by
 refine⟨λb u z=>?_,λb u q=>?_⟩
 .rcases h.z b u z with k|k
  .exact .inl (k.at (HW λq=>k.some (by rw[q];exact e)))
  .exact .inr k
 .obtain⟨k1,k2⟩:=h.m b u q;exact⟨k1,k2.at (HW λq=>k2.some (by rw[q];exact e))⟩
theorem HR.datum (h:HR K H M Z)(e:H p=none){o:HO}(hb:HB (CF H p o) Z p d):HR K (CF H p o) M (ext Z p d):=by
 obtain⟨h1,h2⟩:=h.lay e o;have mn:=h.fresh e;refine⟨λb u z=>?_,λb u q=>?_⟩
 .rcases z with z|⟨rfl,rfl⟩
  .rcases h1 b u z with k|k
   .exact .inl (k.mono Le.ext)
   .exact .inr (k.mono Le.ext)
  .exact .inl (hb.mono Le.ext)
 .obtain⟨k1,k2⟩:=h2 b u q;refine⟨λd' z=>?_,k2.mono Le.ext⟩;rcases z with z|⟨rfl,rfl⟩
  .exact(k1 d' z).mono Le.ext
  .rw[mn]at q;cases q
theorem HR.newT (h:HR K H M Z)(e:H p=none){vs:List V}{ds:List D}(a:Dw Z vs ds):HR K (CF H p (.tup vs)) M (ext Z p (.tup ds)):=h.datum e ⟨vs,MH,a⟩
theorem HR.newF (h:HR K H M Z)(e:H p=none){vs:List V}{ds:List D}(a:Dw Z vs ds):HR K (CF H p (.lst vs)) M (ext Z p (.lst ds)):=h.datum e ⟨vs,.inl MH,a⟩
theorem HR.newFD (h:HR K H M Z)(e:H p=none){vs:List (B7×V)}{ds:List (B7×D)}(a:Cw Z vs ds):HR K (CF H p (.dK vs)) M (ext Z p (.dic ds)):=h.datum e ⟨vs,.inl MH,a⟩
theorem yh :At (ext Z p (.dct xs)) (.ref p) (.dct xs):=⟨p,rfl,.inr ⟨rfl,rfl⟩⟩
theorem pW :At (ext Z p (.tup xs)) (.ref p) (.tup xs):=⟨p,rfl,.inr ⟨rfl,rfl⟩⟩
theorem aB :At (ext Z p (.lst xs)) (.ref p) (.lst xs):=⟨p,rfl,.inr ⟨rfl,rfl⟩⟩
theorem pV :At (ext Z p (.dic xs)) (.ref p) (.dic xs):=⟨p,rfl,.inr ⟨rfl,rfl⟩⟩
theorem HR.newM (h:HR K H M Z)(e:H p=none){o:HO}{u:MO}(hb:MB (CF H p o) Z p u):HR K (CF H p o) (put M p u) Z:=by
 obtain⟨h1,h2⟩:=h.lay e o;refine⟨h1,λb w q=>?_⟩;by_cases hbp:b=p
 .subst hbp;rw[Dc]at q;cases q;refine⟨λd z=>?_,hb⟩;rcases h.z b d z with k|k
  .exact absurd e k.some
  .exact k
 .rw[Dy hbp]at q;exact h2 b w q
theorem HR.newL (h:HR K H M Z)(e:H p=none){vs:List V}{ds:List D}(a:Dw Z vs ds):HR K (CF H p (.lst vs)) (put M p (.lst ds)) Z:=h.newM e ⟨vs,MH,a⟩
theorem HR.newD (h:HR K H M Z)(e:H p=none){vs:List (B7×V)}{ds:List (B7×D)}(a:Cw Z vs ds):HR K (CF H p (.dK vs)) (put M p (.dic ds)) Z:=h.newM e ⟨vs,MH,a⟩
theorem HR.chg (h:HR K H M Z){u u':MO}{o:HO}(e:M p=some u)(hb:MB (CF H p o) Z p u'):HR K (CF H p o) (put M p u') Z:=by
 obtain⟨hk,_⟩:=h.m p u e;refine⟨λb d z=>?_,λb w q=>?_⟩
 .by_cases hbp:b=p
  .subst hbp;exact .inr (hk d z)
  .rcases h.z b d z with k|k
   .exact .inl (k.at (HW hbp))
   .exact .inr k
 .by_cases hbp:b=p
  .subst hbp;rw[Dc]at q;cases q;exact⟨hk,hb⟩
  .rw[Dy hbp]at q;obtain⟨k1,k2⟩:=h.m b w q;exact⟨k1,k2.at (HW hbp)⟩
theorem HR.chgL (h:HR K H M Z){u:MO}(e:M p=some u){vs:List V}{ds:List D}(a:Dw Z vs ds):HR K (CF H p (.lst vs)) (put M p (.lst ds)) Z:=h.chg e ⟨vs,MH,a⟩
theorem HR.chgD (h:HR K H M Z){u:MO}(e:M p=some u){vs:List (B7×V)}{ds:List (B7×D)}(a:Cw Z vs ds):HR K (CF H p (.dK vs)) (put M p (.dic ds)) Z:=h.chg e ⟨vs,MH,a⟩
theorem HR.frzM (h:HR K H M Z){u:MO}(e:M p=some u)(hb:HB H Z p d):HR K H (JL M p) (ext Z p d):=by
 refine⟨λb d' z=>?_,λb w q=>?_⟩
 .rcases z with z|⟨rfl,rfl⟩
  .rcases h.z b d' z with k|k
   .exact .inl (k.mono Le.ext)
   .exact .inr (k.mono Le.ext)
  .exact .inl (hb.mono Le.ext)
 .unfold JL at q;split at q
  .cases q
  .next hbp=>
   obtain⟨k1,k2⟩:=h.m b w q;refine⟨λd' z=>?_,k2.mono Le.ext⟩;rcases z with z|⟨z,_⟩
   .exact(k1 d' z).mono Le.ext
   .exact absurd z hbp
theorem HR.frzL (h:HR K H M Z){ds:List D}(e:M p=some (.lst ds)):HR K H (JL M p) (ext Z p (.lst ds)):=by
 obtain⟨_,vs,r,a⟩:=h.m p _ e;exact h.frzM e ⟨vs,.inl r,a⟩
theorem HR.frzD (h:HR K H M Z){ds:List (B7×D)}(e:M p=some (.dic ds)):HR K H (JL M p) (ext Z p (.dic ds)):=by
 obtain⟨_,vs,r,a⟩:=h.m p _ e;exact h.frzM e ⟨vs,.inl r,a⟩
theorem HR.frzDT (h:HR K H M Z){ds:List (List B7×D)}(e:M p=some (.dct ds)):HR K H (JL M p) (ext Z p (.dct ds)):=by
 obtain⟨_,vs,r,a⟩:=h.m p _ e;exact h.frzM e ⟨vs,.inl r,a⟩
theorem HR.rdT (h:HR K H M Z){v:V}{ds:List D}(a:At Z v (.tup ds)):∃p vs,v=.ref p/\LC K H p vs/\Dw Z vs ds:=by
 obtain⟨p,rfl,z⟩:=a;rcases h.z p _ z with⟨vs,r,a⟩|⟨_,vs,r,a⟩
 .exact⟨p,vs,rfl,.inl (.inl r),a⟩
 .exact⟨p,vs,rfl,.inr r,a⟩
theorem HR.rdK (hg:QH=false)(h:HR K H M Z){v:V}{ds:List D}(a:At Z v (.tup ds)):∃p vs,v=.ref p/\H p=some (.tup vs)/\Dw Z vs ds:=by
 obtain⟨p,rfl,z⟩:=a;rcases h.z p _ z with⟨vs,r,a⟩|⟨g,_⟩
 .exact⟨p,vs,rfl,r,a⟩
 .rw[hg]at g;cases g
theorem HR.rdF (h:HR K H M Z){v:V}{ds:List D}(a:At Z v (.lst ds)):∃p vs,v=.ref p/\FO K H p vs/\Dw Z vs ds:=by
 obtain⟨p,rfl,z⟩:=a;rcases h.z p _ z with⟨vs,r,a⟩|⟨vs,r,a⟩
 .exact⟨p,vs,rfl,.inl r,a⟩
 .exact⟨p,vs,rfl,.inr r,a⟩
theorem HR.rdM (h:HR K H M Z){ds:List D}(e:M p=some (.lst ds)):∃vs,H p=some (.lst vs)/\Dw Z vs ds:=(h.m p _ e).2
theorem HR.rdMT (h:HR K H M Z){ds:List (List B7×D)}(e:M p=some (.dct ds)):∃vs,H p=some (.dT vs)/\Cw Z vs ds:=(h.m p _ e).2
theorem HR.rdMO (h:HR K H M Z){C:Ao}{fs:List (Str×D)}(e:M p=some (.obj C fs)):∃dx vs,H p=some (.ins C dx vs)/\Cw Z vs fs:=(h.m p _ e).2
theorem HR.rdMD (h:HR K H M Z){ds:List (B7×D)}(e:M p=some (.dic ds)):∃vs,H p=some (.dK vs)/\Cw Z vs ds:=(h.m p _ e).2
noncomputable def Bh (M:Mp):D->Option (List D)
 |.lst ds=>some ds
 |.ref p=>match M p with
  |some (.lst ds)=>some ds
  |_=>none
 |_=>none
noncomputable def HH (M:Mp):D->Option (List D)
 |.tup ds=>some ds
 |d=>Bh M d
theorem HR.rdL (h:HR K H M Z){v:V}{d:D}{ds:List D}(e:Bh M d=some ds)(a:At Z v d):∃p vs,v=.ref p/\FO K H p vs/\Dw Z vs ds:=by
 cases d with
 |lst xs=>cases e;exact h.rdF a
 |ref p=>
  cases(show v=.ref p from a);unfold Bh at e;simp only at e;split at e
  .next q=>
   cases e;obtain⟨vs,r,a⟩:=h.rdM q;exact⟨p,vs,rfl,FO.of r,a⟩
  .cases e
 |_=>cases e
theorem HR.rdS (h:HR K H M Z){v:V}{d:D}{ds:List D}(e:HH M d=some ds)(a:At Z v d):∃p vs,v=.ref p/\(FO K H p vs\/LC K H p vs)/\Dw Z vs ds:=by
 have go:Bh M d=some ds->∃p vs,v=.ref p/\(FO K H p vs\/LC K H p vs)/\Dw Z vs ds:=λe=>by
  obtain⟨p,vs,e1,s,a⟩:=h.rdL e a;exact⟨p,vs,e1,.inl s,a⟩
 cases d with
 |tup xs=>cases e;obtain⟨p,vs,e1,s,a⟩:=h.rdT a;exact⟨p,vs,e1,.inr s,a⟩
 |lst xs=>exact go e
 |ref p=>exact go e
 |_=>cases e
end
abbrev St:=L2.St
abbrev GA:=List (Option D)
abbrev DV:=D->Mp->Prop
abbrev D3:=GA->Mp->DV->Prop
abbrev K0:=GA->Mp->(Bool->Mp->Prop)->Prop
abbrev Kn:=GA->Mp->(List D->Mp->Prop)->Prop
abbrev YE:=GA->Mp->(Option Int->Mp->Prop)->Prop
structure J2 where
 nx:GA->Mp->Prop
 rt:DV
 bk:GA->Mp->Prop:=λ_ _=>False
 ct:GA->Mp->Prop:=λ_ _=>False
abbrev GU:=J2->GA->Mp->Prop
abbrev K2:=D->D->Mp->DV->Prop
abbrev DW:=List D->Mp->DV->Prop
def OA (Z:Zt):Option V->Option D->Prop
 |_,none=>True
 |some v,some d=>At Z v d
 |none,some _=>False
abbrev Gz (Z:Zt):St->GA->Prop:=D8 (OA Z)
theorem OA.mono {Z Z':Zt}(l:Le Z Z'){v:Option V}{d:Option D}(h:OA Z v d):OA Z' v d:=by
 cases d with
 |none=>cases v<;>exact Cm
 |some d=>cases v with
  |none=>exact h
  |some v=>exact At.mono l h
theorem Gz.mono (l:Le Z Z'):∀{U:St}{τ:GA},Gz Z U τ->Gz Z' U τ
 |_,_,.nil=>.nil
 |_,_,.cons r t=>.cons (OA.mono l r) (Gz.mono l t)
theorem Gz.set (r:At Z x d):∀{U:St}{τ:GA}(i:Nat),Gz Z U τ->Gz Z (U.set i (some x)) (τ.set i (some d))
 |_,_,_,.nil=>.nil
 |_,_,0,.cons _ t=>.cons r t
 |_,_,i+1,.cons q t=>.cons q (Gz.set r i t)
theorem Gz.get :∀{U:St}{τ:GA}{i:Nat}{d:D},Gz Z U τ->τ[i]? = some (some d)->∃v,U[i]? = some (some v)/\At Z v d
 |_,_,_,_,.nil,e=>by simp at e
 |v::_,_,0,_,.cons r _,e=>by
  simp at e;subst e;cases v with
  |none=>exact r.elim
  |some v=>exact⟨v,rfl,r⟩
 |_,_,i+1,d,.cons _ t,e=>by
  obtain⟨v,h1,h2⟩:=Gz.get t (by simpa using e);exact⟨v,by simpa using h1,h2⟩
def E4 (x:D)(k:Int->Prop):Prop:=match x with
 |.int i=>k i
 |_=>False
def Rp (x:D)(k:Bool->Prop):Prop:=match x with
 |.bl b=>k b
 |_=>False
def Gh (x:D)(k:Str->Prop):Prop:=match x with
 |.str b=>k b
 |_=>False
def JZ (x:D)(k:Ao->Prop):Prop:=match x with
 |.ref b=>k b
 |_=>False
def Cp (o:Option α)(k:α->Prop):Prop:=match o with
 |some x=>k x
 |none=>False
theorem CY (h:E4 x k):∃i,x=.int i/\k i:=by
 cases x with
 |int i=>exact⟨i,rfl,h⟩
 |_=>exact h.elim
theorem R9 {x:D}{k:Bool->Prop}(h:Rp x k):∃i,x=.bl i/\k i:=by
 cases x with
 |bl i=>exact⟨i,rfl,h⟩
 |_=>exact h.elim
theorem Ea (h:Gh x k):∃i,x=.str i/\k i:=by
 cases x with
 |str i=>exact⟨i,rfl,h⟩
 |_=>exact h.elim
theorem Ik (h:JZ x k):∃i,x=.ref i/\k i:=by
 cases x with
 |ref i=>exact⟨i,rfl,h⟩
 |_=>exact h.elim
theorem Cn (h:Cp x k):∃i,x=some i/\k i:=by
 cases x with
 |some i=>exact⟨i,rfl,h⟩
 |none=>exact h.elim
section
variable (K:Ac)
def Hz (Z:Zt)(Q2:DV)(Q:VK):Prop:=∀Z' v d H' M',Le Z Z'->HR K H' M' Z'->At Z' v d->Q2 d M'->Q v H'
def lE (t:D3):TE:=λU H Q=>∃Z τ M Q2,Gz Z U τ/\HR K H M Z/\t τ M Q2/\Hz K Z Q2 Q
def lT (t:K0):TT:=λU H Q=>∃Z τ M Q2,Gz Z U τ/\HR K H M Z/\t τ M Q2/\∀Z' b H' M',Le Z Z'->HR K H' M' Z'->Q2 b M'->Q b H'
def lA (t:Kn):TA:=λU H Q=>∃Z τ M Q2,Gz Z U τ/\HR K H M Z/\t τ M Q2/\∀Z' vs ds H' M',Le Z Z'->HR K H' M' Z'->Dw Z' vs ds->Q2 ds M'->Q vs H'
def lO (t:YE):TO:=λU H Q=>∃Z τ M Q2,Gz Z U τ/\HR K H M Z/\t τ M Q2/\∀Z' b H' M',Le Z Z'->HR K H' M' Z'->Q2 b M'->Q b H'
def Ry (Z:Zt)(Q2:GA->Mp->Prop)(Q:St->Hp->Prop):Prop:=∀Z' U τ H' M',Le Z Z'->Gz Z' U τ->HR K H' M' Z'->Q2 τ M'->Q U H'
structure ER (Z:Zt)(D2:J2)(D:Ml):Prop where
 nx:Ry K Z D2.nx D.nx
 rt:Hz K Z D2.rt D.rt
 bk:Ry K Z D2.bk D.bk
 ct:Ry K Z D2.ct D.ct
def lS (t:GU):TS:=λD U H=>∃Z τ M D2,Gz Z U τ/\HR K H M Z/\t D2 τ M/\ER K Z D2 D
def lR (r:K2):R2:=λx y H Q=>∃Z dx dy M Q2,HR K H M Z/\At Z x dx/\At Z y dy/\r dx dy M Q2/\Hz K Z Q2 Q
def lC (r:List D->Mp->DV->Prop):List V->Hp->VK->Prop:=λxs H Q=>∃Z ds M Q2,HR K H M Z/\Dw Z xs ds/\r ds M Q2/\Hz K Z Q2 Q
def lU (r:D->Mp->DV->Prop):V->Hp->VK->Prop:=λx H Q=>∃Z d M Q2,HR K H M Z/\At Z x d/\r d M Q2/\Hz K Z Q2 Q
def lSp (sp:DW):Sp:=λvs H Q _=>∃Z ds M Q2,HR K H M Z/\Dw Z vs ds/\sp ds M Q2/\Hz K Z Q2 Q
end
section
variable {K:Ac}
theorem Hz.le (h:Hz K Z Q2 Q)(l:Le Z Z'):Hz K Z' Q2 Q:=λZ1 v d H M l1 hr a q=>h Z1 v d H M (l.trans l1) hr a q
theorem Ry.le {Q2:GA->Mp->Prop}{Q:St->Hp->Prop}(h:Ry K Z Q2 Q)(l:Le Z Z'):Ry K Z' Q2 Q:=λZ1 v d H M l1 hr a q=>h Z1 v d H M (l.trans l1) hr a q
theorem ER.le {D2:J2}{D:Ml}(h:ER K Z D2 D)(l:Le Z Z'):ER K Z' D2 D:=⟨h.nx.le l,h.rt.le l,h.bk.le l,h.ct.le l⟩
theorem Hz.dn {Q2:DV}{Q:VK}(h:Hz K Z Q2 Q):Hz K Z (λd M=>∃M0,Sub M0 M/\Q2 d M0) Q:=λZ1 v d H M l1 hr a ⟨M0,s,q⟩=>h Z1 v d H M0 l1 (hr.sub s) a q
end
@[irreducible] def B5 (X:Cx)(e:Bv)(t:D3):Prop:=PE X e (lE X.K t)
unseal B5
@[irreducible] def HX (X:Cx)(e:Bv)(t:K0):Prop:=PT X e (lT X.K t)
unseal HX
@[irreducible] def Ju (X:Cx)(e:Bv)(t:K0):Prop:=PW X e (lT X.K t)
unseal Ju
@[irreducible] def Gi (X:Cx)(es:List Bv)(t:Kn):Prop:=PA X es (lA X.K t)
unseal Gi
@[irreducible] def Ko (X:Cx)(e:Option Bv)(t:YE):Prop:=PO X e (lO X.K t)
unseal Ko
@[irreducible] def GV (X:Cx)(st:A4)(t:GU):Prop:=PS X st (lS X.K t)
unseal GV
@[irreducible] def C3 (X:Cx)(st:List A4)(t:GU):Prop:=K3 X st (lS X.K t)
unseal C3
@[irreducible] def Cf (X:Cx)(f:Ad->Ad->Sem Ad)(r:K2):Prop:=Gb X f (lR X.K r)
unseal Cf
@[irreducible] def FW (X:Cx)(f:Ad->Sem Ad)(r:D->Mp->DV->Prop):Prop:=Rx X f (lU X.K r)
unseal FW
@[irreducible] def BY (X:Cx)(f:Ad)(r:List D->Mp->DV->Prop):Prop:=Fe X f (lC X.K r)
unseal BY
@[irreducible] def FL (X:Cx)(r:K2):Prop:=Pg X (lR X.K r)
unseal FL
section
variable {X:Cx}
theorem PE.mono {e:Bv}{t t':TE}(h:PE X e t)(m:∀U H Q,t' U H Q->t U H Q):PE X e t':=λAf s U H Q I q=>h Af s U H Q I (m U H Q q)
theorem PT.mono {e:Bv}{t t':TT}(h:PT X e t)(m:∀U H Q,t' U H Q->t U H Q):PT X e t':=λAf s U H Q I q=>h Af s U H Q I (m U H Q q)
theorem PW.mono (h:PW X e t)(m:∀U H Q,t' U H Q->t U H Q):PW X e t':=λwh Af s U H Q I q=>h wh Af s U H Q I (m U H Q q)
theorem PA.mono (h:PA X e t)(m:∀U H Q,t' U H Q->t U H Q):PA X e t':=λpos Af s U H Q I q=>h pos Af s U H Q I (m U H Q q)
theorem PO.mono (h:PO X e t)(m:∀U H Q,t' U H Q->t U H Q):PO X e t':=λAf s U H Q I q=>h Af s U H Q I (m U H Q q)
theorem PS.mono (h:PS X e t)(m:∀D U H,t' D U H->t D U H):PS X e t':=λAf s U H D I q=>h Af s U H D I (m D U H q)
theorem K3.mono (h:K3 X e t)(m:∀D U H,t' D U H->t D U H):K3 X e t':=λAf s U H D I q=>h Af s U H D I (m D U H q)
theorem Gb.mono (h:Gb X f r)(m:∀x y H Q,r' x y H Q->r x y H Q):Gb X f r':=λAf s U H x y v u Q I rx ry q=>h Af s U H x y v u Q I rx ry (m x y H Q q)
theorem Rx.mono (h:Rx X f r)(m:∀x H Q,r' x H Q->r x H Q):Rx X f r':=λAf s U H x v Q I rx q=>h Af s U H x v Q I rx (m x H Q q)
theorem Fe.mono (h:Fe X f r)(m:∀x H Q,r' x H Q->r x H Q):Fe X f r':=λAf s U H x v Q I rx q=>h Af s U H x v Q I rx (m x H Q q)
theorem Pg.mono (h:Pg X r)(m:∀x y H Q,r' x y H Q->r x y H Q):Pg X r':=λvalue slice Af s U H x y v u Q I rx ry q hs=>h value slice Af s U H x y v u Q I rx ry (m x y H Q q) hs
def GI (i:Nat):D3:=λτ M Q=>Cp (τ[i]?).join λd=>Q d M
def uC (d:D):D3:=λ_ M Q=>Q d M
theorem qv (i:Nat)(hN:X.N[i]? = some x:=by rfl)(hv:YD X.env.scope x:=by first | exact B4 rfl | exact Hb (B4 rfl) | exact Hb (Hb rfl))(hd:(x == ("__debug__":Str))=false:=by decide)
  (hcd:(x == ("__classdict__":Str))=false:=by decide):B5 X (.Name x pos) (GI i):=PE.mono (pv i hN hv hd hcd) λU H Q ⟨Z,τ,M,Q2,st,hr,h,k⟩=>by
 obtain⟨d,e,q⟩:=Cn h;obtain⟨v,e1,a⟩:=st.get (EZ.mp e);exact⟨v,e1,k Z v d H M (Le.refl _) hr a q⟩
theorem qc (h:PE X e (tC v))(a:∀Z,At Z v d):B5 X e (uC d):=PE.mono h λU H Q ⟨Z,τ,M,Q2,st,hr,q,k⟩=>k Z v d H M (Le.refl _) hr (a Z) q
theorem Ak {i j pos}:B5 X (.Constant (.int i) j pos) (uC (.int i)):=qc p7 λ_=>rfl
theorem Um {b j pos}:B5 X (.Constant (.bool b) j pos) (uC (.bl b)):=qc kx λ_=>rfl
theorem Ui {j pos}:B5 X (.Constant .none j pos) (uC .non):=qc p8 λ_=>rfl
theorem BX {x j pos}:B5 X (.Constant (.str x) j pos) (uC (.str x)):=qc qa λ_=>rfl
theorem Ir (hm:X.mg x=some (.int i t))(hg:Gl X x:=by rfl)(hd:(x == ("__debug__":Str))=false:=by decide):B5 X (.Name x pos) (uC (.int i)):=qc (XF hm hg hd) λ_=>rfl
theorem Qy (hm:X.mg x=some (.ref h))(hg:Gl X x:=by rfl)(hd:(x == ("__debug__":Str))=false:=by decide):B5 X (.Name x pos) (uC (.ref h)):=qc (Uo hm hg hd) λ_=>rfl
theorem mP (hm:X.mg x=none)(hv:DK x=some (.type T))(hg:Gl X x:=by rfl)(hn:x≠"__name__":=by decide)(hd:(x == ("__debug__":Str))=false:=by decide):B5 X (.Name x pos) (uC (.ty T)):=qc (iq hm hv hg hn hd) λ_=>rfl
variable {a b c e:Bv}{ta tb tc te:D3}{pos:Pos}
theorem lE.bind {K:Ac}{U:St}{H:Hp}{Z:Zt}{τ:GA}{M:Mp}{R:DV}{Q:VK}(st:Gz Z U τ)(hr:HR K H M Z)(h:ta τ M R)
  (k:∀Z' v d H' M',Le Z Z'->HR K H' M' Z'->At Z' v d->R d M'->Q v H'):lE K ta U H Q:=⟨Z,τ,M,R,st,hr,h,k⟩
def VC (r:K2)(ta tb:D3):D3:=λτ M Q=>ta τ M λx M1=>tb τ M1 λy M2=>r x y M2 Q
theorem Zz {K:Ac}{r:K2}:∀U H Q,lE K (VC r ta tb) U H Q->Xg (lR K r) (lE K ta) (lE K tb) U H Q:=by
 sleep 3;refine lE.bind st hr h λZ1 x dx H1 M1 l1 h1 a1 q1=>lE.bind (st.mono l1) h1 q1 λZ2 y dy H2 M2 l2 h2 a2 q2=>?_;exact⟨Z2,dx,dy,M2,Q2,h2,a1.mono l2,a2,q2,k.le (l1.trans l2)⟩
theorem BG (ho:Cf X (By op) r)(ha:B5 X a ta)(hb:B5 X b tb):B5 X (.BinOp a op b pos) (VC r ta tb):=PE.mono (k6 ho ha hb) Zz
theorem Bg (hr:FL X r)(ha:B5 X a ta)(hb:B5 X b tb)(hs:OP b:=by exact λ_ _=>rfl):B5 X (.Subscript a b pos) (VC r ta tb):=PE.mono (kz hr ha hb hs) Zz
theorem JI (ho:Cf X (A9 op) r)(ha:B5 X a ta)(hb:B5 X b tb)(hm:FZ op b=false:=by exact QF _):B5 X (.Compare a [op] [b] pos) (VC r ta tb):=PE.mono (u5 ho ha hb hm) Zz
def OH (t:D3):K0:=λτ M Q=>t τ M λx M1=>Rp x λc=>Q c M1
theorem Tk {K:Ac}{t1:TE}(m:∀U H Q,lE K te U H Q->t1 U H Q):∀U H Q,lT K (OH te) U H Q->t1 U H λx H1=>∃k,x=.bl k/\Q k H1:=by
 sleep 3;refine m _ _ _ (lE.bind st hr h λZ1 x dx H1 M1 l1 h1 a1 q1=>?_);obtain⟨c,rfl,q⟩:=R9 q1;exact⟨c,a1,k Z1 c H1 M1 l1 h1 q⟩
theorem AY {op:cH}{r:K2}(ho:Cf X (A9 op) r)(ha:B5 X a ta)(hb:B5 X b tb)(hm:FZ op b=false:=by exact QF _):HX X (.Compare a [op] [b] pos) (OH (VC r ta tb)):=PT.mono (xb ho ha hb hm) (Tk Zz)
theorem GL {t:D3}(h:B5 X e t)(he:∀whole,Qe e X.env whole=(do let v <- whole;Nf e.pos;GF [v] (truthy v)):=by intro _;rfl):HX X e (OH t):=PT.mono (nh h he) (Tk λ_ _ _ h=>h)
def NY (r r':K2)(ta tb tc:D3):D3:=λτ M Q=>ta τ M λx M1=>tb τ M1 λy M2=>r x y M2 λz M3=>Rp z λk=>if k=true then tc τ M3 λw M4=>r' y w M4 Q else Q (.bl false) M3
theorem Ut {K:Ac} :∀U H Q,lE K (NY r r' ta tb tc) U H Q->Qq (lR K r) (lR K r') (lE K ta) (lE K tb) (lE K tc) U H Q:=by
 sleep 3;refine lE.bind st hr h λZ1 x dx H1 M1 l1 h1 a1 q1=>lE.bind (st.mono l1) h1 q1 λZ2 y dy H2 M2 l2 h2 a2 q2=>?_;refine⟨Z2,dx,dy,M2,_,h2,a1.mono l2,a2,q2,λZ3 z dz H3 M3 l3 h3 a3 q3=>?_⟩;obtain⟨c,rfl,q⟩:=R9 q3;refine⟨c,a3,?_⟩;cases c with
 |false=>rw[if_neg Am]at q ⊢;exact k Z3 (.bl false) (.bl false) H3 M3 (l1.trans (l2.trans l3)) h3 rfl q
 |true=>rw[if_pos rfl]at q ⊢;refine lE.bind (st.mono (l1.trans (l2.trans l3))) h3 q λZ4 w dw H4 M4 l4 h4 a4 q4=>?_;exact⟨Z4,dy,dw,M4,Q2,h4,a2.mono (l3.trans l4),a4,q4,k.le (l1.trans (l2.trans (l3.trans l4)))⟩
theorem N9 (ho:Cf X (A9 op) r)(ho':Cf X (A9 op') r')(ha:B5 X a ta)(hb:B5 X b tb)(hc:B5 X c tc)
  (hm:lastMarks [op,op'] [b,c]=false:=by with_unfolding_all rfl):B5 X (.Compare a [op,op'] [b,c] pos) (NY r r' ta tb tc):=PE.mono (ω ho ho' ha hb hc hm) Ut
def mG (r:D->Mp->DV->Prop)(ta:D3):D3:=λτ M Q=>ta τ M λx M1=>r x M1 Q
theorem Rm {op:UnaryOp}{r:D->Mp->DV->Prop}(ho:FW X (Nd op) r)(ha:B5 X a ta):B5 X (.UnaryOp op a pos) (mG r ta):=PE.mono (k8 ho ha) (by
 intro U H Q hI';symm;obtain ⟨Z,τ,M,Q2,st,hr,h,k⟩:=hI';cutsat;exact lE.bind st hr h λZ1 x dx H1 M1 l1 h1 a1 q1=>⟨Z1,dx,M1,Q2,h1,a1,q1,k.le l1⟩)
variable {tB:K0}{Db:List Bv}
def Xd (t u:K0):K0:=λτ M Q=>t τ M λc M1=>if c=true then u τ M1 Q else Q false M1
def mJ (t u:K0):K0:=λτ M Q=>t τ M λc M1=>if c=true then Q true M1 else u τ M1 Q
def W6 (t:K0):K0:=λτ M Q=>t τ M λc M1=>Q (!c) M1
theorem lT.bind {K:Ac}(st:Gz Z U τ)(hr:HR K H M Z)(h:tA τ M R)
  (k:∀Z' b H' M',Le Z Z'->HR K H' M' Z'->R b M'->Q b H'):lT K tA U H Q:=⟨Z,τ,M,R,st,hr,h,k⟩
theorem V4 (ha:HX X a tA):Ju X (.BoolOp .And [a] pos) tA:=xf ha
theorem VZ (ha:HX X a tA):Ju X (.BoolOp .Or [a] pos) tA:=nk ha
theorem VY (ha:HX X a tA)(hb:Ju X (.BoolOp .And (b::Db) pos) tB):Ju X (.BoolOp .And (a::b::Db) pos) (Xd tA tB):=PW.mono (nj ha hb) (by
 sleep 3;refine lT.bind st hr h λZ1 c H1 M1 l1 h1 q1=>?_;cases c with
 |true=>rw[if_pos rfl]at q1 ⊢;exact lT.bind (st.mono l1) h1 q1 λZ2 c H2 M2 l2 h2 q2=>k Z2 c H2 M2 (l1.trans l2) h2 q2
 | false=>rw [if_neg Am] at q1 ⊢;exact k Z1 false H1 M1 l1 h1 q1)
theorem Tu (ha:HX X a tA)(hb:Ju X (.BoolOp .Or (b::Db) pos) tB):Ju X (.BoolOp .Or (a::b::Db) pos) (mJ tA tB):=PW.mono (lh ha hb) (by
 sleep 3;refine lT.bind st hr h λZ1 c H1 M1 l1 h1 q1=>?_;cases c with
 |false=>rw[if_neg Am]at q1 ⊢;exact lT.bind (st.mono l1) h1 q1 λZ2 c H2 M2 l2 h2 q2=>k Z2 c H2 M2 (l1.trans l2) h2 q2
 | true=>rw [if_pos rfl] at q1 ⊢;exact k Z1 true H1 M1 l1 h1 q1)
theorem Ju.pt (h:Ju X e t):HX X e t:=PW.pt (show PW X e (lT X.K t)from h)
theorem Lw (ha:HX X a tA):HX X (.UnaryOp .Not a pos) (W6 tA):=PT.mono (ng ha) (by
 intro U H Q hI';symm;obtain ⟨Z,τ,M,Q2,st,hr,h,k⟩:=hI';cutsat;exact lT.bind st hr h λZ1 c H1 M1 l1 h1 q1=>k Z1 _ H1 M1 l1 h1 q1)
def S5 (ta tb:D3):D3:=λτ M Q=>ta τ M λx M1=>Rp x λc=>if c=true then tb τ M1 Q else Q (.bl false) M1
def W5 (ta tb:D3):D3:=λτ M Q=>ta τ M λx M1=>Rp x λc=>if c=true then Q (.bl true) M1 else tb τ M1 Q
theorem N8 {op}(h:B5 X a t):B5 X (.BoolOp op [a] pos) t:=p9 h
theorem R5 (ha:B5 X a ta)(hb:B5 X (.BoolOp .And (b::Db) pos) tb):B5 X (.BoolOp .And (a::b::Db) pos) (S5 ta tb):=PE.mono (pq ha hb) (by
 sleep 3;refine lE.bind st hr h λZ1 x dx H1 M1 l1 h1 a1 q1=>?_;obtain⟨c,rfl,q1'⟩:=R9 q1;replace q1:=q1';refine⟨c,a1,?_⟩;cases c with
 |true=>rw[if_pos rfl]at q1 ⊢;exact lE.bind (st.mono l1) h1 q1 λZ2 y dy H2 M2 l2 h2 a2 q2=>k Z2 y dy H2 M2 (l1.trans l2) h2 a2 q2
 | false=>rw [if_neg Am] at q1 ⊢;exact k Z1 (.bl false) (.bl false) H1 M1 l1 h1 rfl q1)
theorem fW (ha:B5 X a ta)(hb:B5 X (.BoolOp .Or (b::Db) pos) tb):B5 X (.BoolOp .Or (a::b::Db) pos) (W5 ta tb):=PE.mono (k7 ha hb) (by
 sleep 3;refine lE.bind st hr h λZ1 x dx H1 M1 l1 h1 a1 q1=>?_;obtain⟨c,rfl,q1'⟩:=R9 q1;replace q1:=q1';refine⟨c,a1,?_⟩;cases c with
 |false=>rw[if_neg Am]at q1 ⊢;exact lE.bind (st.mono l1) h1 q1 λZ2 y dy H2 M2 l2 h2 a2 q2=>k Z2 y dy H2 M2 (l1.trans l2) h2 a2 q2
 | true=>rw [if_pos rfl] at q1 ⊢;exact k Z1 (.bl true) (.bl true) H1 M1 l1 h1 rfl q1)
def mK (t:K0)(ta tb:D3):D3:=λτ M Q=>t τ M λc M1=>if c=true then ta τ M1 Q else tb τ M1 Q
theorem JH (hc:HX X c tA)(ha:B5 X a ta)(hb:B5 X b tb):B5 X (.IfExp c a b pos) (mK tA ta tb):=PE.mono (Ε hc ha hb) (by
 sleep 3;refine lT.bind st hr h λZ1 c H1 M1 l1 h1 q1=>?_;cases c with
 |true=>rw[if_pos rfl]at q1 ⊢;exact lE.bind (st.mono l1) h1 q1 λZ2 y dy H2 M2 l2 h2 a2 q2=>k Z2 y dy H2 M2 (l1.trans l2) h2 a2 q2
 | false=>rw [if_neg Am] at q1 ⊢;exact lE.bind (st.mono l1) h1 q1 λZ2 y dy H2 M2 l2 h2 a2 q2=>k Z2 y dy H2 M2 (l1.trans l2) h2 a2 q2)
variable {es:List Bv}{t:Kn}
def T9:Kn:=λ_ M Q=>Q [] M
def S3 (ta:D3)(tr:Kn):Kn:=λτ M Q=>ta τ M λx M1=>tr τ M1 λxs M2=>Q (x::xs) M2
theorem qN:Gi X [] T9:=PA.mono ZS λU H Q ⟨Z,τ,M,Q2,st,hr,h,k⟩=>k Z [] [] H M (Le.refl _) hr .nil h
theorem qA (ha:B5 X e te)(hr:Gi X es t)(hs:Au (e::es) X.env=(false,eval e X.env)::Au es X.env:=by rfl):Gi X (e::es) (S3 te t):=PA.mono (Z9 ha hr hs) (by
 intro U H Q hI';symm;obtain ⟨Z,τ,M,Q2,st,hr,h,k⟩:=hI';cutsat;refine lE.bind st hr h λZ1 x dx H1 M1 l1 h1 a1 q1=>⟨Z1,τ,M1,_,st.mono l1,h1,q1,λZ2 vs ds H2 M2 l2 h2 a2 q2=>?_⟩;exact k Z2 (x::vs) (dx::ds) H2 M2 (l1.trans l2) h2 (.cons (a1.mono l2) a2) q2)
def WY (t:Kn):D3:=λτ M Q=>t τ M λxs M1=>xs.length<=An/\Q (.tup xs) M1
def SX (t:Kn):D3:=λτ M Q=>t τ M λxs M1=>xs.length<=An/\Q (.lst xs) M1
def W7 (t:Kn):D3:=λτ M Q=>t τ M λxs M1=>xs.length<=An/\∀p,M1 p=none->Q (.ref p) (put M1 p (.lst xs))
theorem CG {x1}(h:Gi X es t):B5 X (.Tuple es x1 pos) (WY t):=PE.mono (qb h) (by
 intro U H Q hI';symm;obtain ⟨Z,τ,M,Q2,st,hr,h,k⟩:=hI';cutsat;refine ⟨Z,τ,M,_,st,hr,h,λZ1 vs ds H1 M1 l1 h1 a1 q1=>⟨by rw [a1.length];exact q1.1,λp hp=>?_⟩⟩;exact k _ (.ref p) (.tup ds) _ M1 (l1.trans Le.ext) (h1.newT hp a1) pW q1.2)
theorem HI (h:Gi X es t):B5 X (.List es pos) (SX t):=PE.mono (pB h) (by
 intro U H Q hI';symm;obtain ⟨Z,τ,M,Q2,st,hr,h,k⟩:=hI';cutsat;refine ⟨Z,τ,M,_,st,hr,h,λZ1 vs ds H1 M1 l1 h1 a1 q1=>⟨by rw [a1.length];exact q1.1,λp hp=>?_⟩⟩;exact k _ (.ref p) (.lst ds) _ M1 (l1.trans Le.ext) (h1.newF hp a1) aB q1.2)
theorem JG (h:Gi X es t):B5 X (.List es pos) (W7 t):=PE.mono (pB h) (by
 intro U H Q hI';symm;obtain ⟨Z,τ,M,Q2,st,hr,h,k⟩:=hI';cutsat;refine ⟨Z,τ,M,_,st,hr,h,λZ1 vs ds H1 M1 l1 h1 a1 q1=>⟨by rw [a1.length];exact q1.1,λp hp=>?_⟩⟩;exact k Z1 (.ref p) (.ref p) _ _ l1 (h1.newL hp a1) rfl (q1.2 p (h1.fresh hp)))
def Zo (r:List D->Mp->DV->Prop)(t:Kn):D3:=λτ M Q=>t τ M λxs M1=>r xs M1 Q
theorem mT {K:Ac} :∀U H Q,lE K (Zo r t) U H Q->cV (lC K r) (lA K t) U H Q:=by
 sleep 3;exact⟨Z,τ,M,_,st,hr,h,λZ1 vs ds H1 M1 l1 h1 a1 q1=>⟨Z1,ds,M1,Q2,h1,a1,q1,k.le l1⟩⟩
theorem Cv {id:String}(hc:BY X (.builtin id) r)(hm:X.mg x=none)(hv:DK x=some (.builtin id))(ha:Gi X (e::es) t)(hg:Gl X x:=by rfl)(hn:x≠"__name__":=by decide)(hdb:(x == ("__debug__":Str))=false:=by decide)
  (he:Au (e::es) X.env=(false,eval e X.env)::Au es X.env:=by rfl) (hpl:(Cg pos (Au es X.env)).any (·.1)=false:=by rfl):B5 X (.Call (.Name x p) (e::es) [] pos) (Zo r t):=PE.mono (ψ hc hg hm hv ha hn hdb he hpl) mT
theorem Ee (hc:BY X (.type T) r)(hm:X.mg x=none)(hv:DK x=some (.type T))(ha:Gi X (e::es) t)(hg:Gl X x:=by rfl)(hn:x≠"__name__":=by decide)(hdb:(x == ("__debug__":Str))=false:=by decide)
  (he:Au (e::es) X.env=(false,eval e X.env)::Au es X.env:=by rfl) (hpl:(Cg pos (Au es X.env)).any (·.1)=false:=by rfl):B5 X (.Call (.Name x p) (e::es) [] pos) (Zo r t):=PE.mono (Zob hc hg hm hv ha hn hdb he hpl) mT
def S4 (sp:DW)(t:Kn):D3:=λτ M Q=>t τ M λxs M1=>sp xs M1 Q
theorem Ay {st:A4}(d:Df X.K X.mg x st ps f fd)(G:FnOk X.prog X.w X.K X.mg X.base CX0 k f fd ps (lSp X.K sp))(hr:Dg k X.A)(ha:Gi X (e::es) t)
  (hg:Gl X x:=by rfl) (hdb:(x == ("__debug__":Str))=false:=by decide) (he:Au (e::es) X.env=(false,eval e X.env)::Au es X.env:=by rfl) (hpl:(Cg pos (Au es X.env)).any (·.1)=false:=by rfl) :
  B5 X (.Call (.Name x p) (e::es) [] pos) (S4 sp t):=PE.mono (XG d G hr ha hg hdb he hpl) (by
 intro U H Q hI';symm;obtain ⟨Z,τ,M,Q2,st,hr,h,k⟩:=hI';cutsat;refine ⟨Z,τ,M,_,st,hr,h,λZ1 vs ds H1 M1 l1 h1 a1 q1=>?_⟩;show lSp X.K sp (vs++[]) H1 Q E0;rw [CL];exact ⟨Z1,ds,M1,Q2,h1,a1,q1,k.le l1⟩)
def OI:YE:=λ_ M Q=>Q none M
def SU (t:D3):YE:=λτ M Q=>t τ M λx M1=>E4 x λi=>Q (some i) M1
theorem V1:Ko X none OI:=PO.mono wn λU H Q ⟨Z,τ,M,Q2,st,hr,h,k⟩=>k Z none H M (Le.refl _) hr h
theorem Tw (h:B5 X e te):Ko X (some e) (SU te):=PO.mono (wo h) (by
 intro U H Q hI';symm;obtain ⟨Z,τ,M,Q2,st,hr,h,k⟩:=hI';cutsat;refine lE.bind st hr h λZ1 x dx H1 M1 l1 h1 a1 q1=>?_;obtain ⟨i,rfl,q⟩:=CY q1;exact ⟨i,a1,k Z1 (some i) H1 M1 l1 h1 q⟩)
def mH (r:D->Option Int->Option Int->Mp->DV->Prop)(te:D3)(tl th:YE):D3:=λτ M Q=>te τ M λx M1=>tl τ M1 λl M2=>th τ M2 λu M3=>r x l u M3 Q
def iu (K:Ac)(r:D->Option Int->Option Int->Mp->DV->Prop):V->Option Int->Option Int->Hp->VK->Prop:=λx lo hi H Q=>∃Z d M Q2,HR K H M Z/\At Z x d/\r d lo hi M Q2/\Hz K Z Q2 Q
@[irreducible] def Ga (X:Cx)(r:D->Option Int->Option Int->Mp->DV->Prop):Prop:=Sv X (iu X.K r)
unseal Ga
theorem Sv.mono (h:Sv X r)(m:∀x l u H Q,r' x l u H Q->r x l u H Q):Sv X r':=λAf s U H x v vl vu lo hi sl Q I rx hs pl pu q=>h Af s U H x v vl vu lo hi sl Q I rx hs pl pu (m x lo hi H Q q)
theorem II {lo hi:Option Bv}(hr:Ga X r)(he:B5 X e te)(hl:Ko X lo tl)(hu:Ko X hi th):B5 X (.Subscript e (.Slice lo hi none p2) pos) (mH r te tl th):=PE.mono (Η hr he hl hu) (by
 intro U H Q hI';symm;obtain ⟨Z,τ,M,Q2,st,hr,h,k⟩:=hI';cutsat;refine lE.bind st hr h λZ1 x dx H1 M1 l1 h1 a1 q1=>⟨Z1,τ,M1,_,st.mono l1,h1,q1,λZ2 lo H2 M2 l2 h2 q2=>⟨Z2,τ,M2,_,st.mono (l1.trans l2),h2,q2,λZ3 hi H3 M3 l3 h3 q3=>?_⟩⟩;exact ⟨Z3,dx,M3,Q2,h3,a1.mono (l2.trans l3),q3,k.le (l1.trans (l2.trans l3))⟩)
end
end L3
namespace L3
open PySem PySem.Spec PyProof.Rows L2
unseal B5 HX Ju Gi Ko GV C3 Cf FW BY FL Ga
section
variable {K:Ac}{Z:Zt}{H:Hp}{M:Mp}{Q2:DV}{Q:VK}
theorem Hz.v (k:Hz K Z Q2 Q)(hr:HR K H M Z){v:V}(a:At Z v d)(q:Q2 d M):Q v H:=k Z v d H M (Le.refl _) hr a q
theorem Hz.b (k:Hz K Z Q2 Q)(hr:HR K H M Z){b:Bool}(q:Q2 (.bl b) M):Q (.bl b) H:=k Z (.bl b) (.bl b) H M (Le.refl _) hr rfl q
theorem Hz.i (k:Hz K Z Q2 Q)(hr:HR K H M Z){b:Int}(q:Q2 (.int b) M):Q (.int b) H:=k Z (.int b) (.int b) H M (Le.refl _) hr rfl q
theorem Hz.s (k:Hz K Z Q2 Q)(hr:HR K H M Z){b:Str}(q:Q2 (.str b) M):Q (.str b) H:=k Z (.str b) (.str b) H M (Le.refl _) hr rfl q
theorem Hz.n (k:Hz K Z Q2 Q)(hr:HR K H M Z)(q:Q2 .non M):Q .non H:=k Z .non .non H M (Le.refl _) hr rfl q
theorem Hz.t (k:Hz K Z Q2 Q)(hr:HR K H M Z){vs:List V}{ds:List D}{p:Ao}(hp:H p=none)(a:Dw Z vs ds)(q:Q2 (.tup ds) M):Q (.ref p) (CF H p (.tup vs)):=k _ (.ref p) (.tup ds) _ M Le.ext (hr.newT hp a) pW q
theorem Hz.f (k:Hz K Z Q2 Q)(hr:HR K H M Z){vs:List V}{ds:List D}{p:Ao}(hp:H p=none)(a:Dw Z vs ds)(q:Q2 (.lst ds) M):Q (.ref p) (CF H p (.lst vs)):=k _ (.ref p) (.lst ds) _ M Le.ext (hr.newF hp a) aB q
theorem Hz.l (k:Hz K Z Q2 Q)(hr:HR K H M Z){vs:List V}{ds:List D}{p:Ao}(hp:H p=none)(a:Dw Z vs ds)(q:∀p,M p=none->Q2 (.ref p) (put M p (.lst ds))):Q (.ref p) (CF H p (.lst vs)):=k Z (.ref p) (.ref p) _ _ (Le.refl _) (hr.newL hp a) rfl (q p (hr.fresh hp))
theorem Hz.fd (k:Hz K Z Q2 Q)(hr:HR K H M Z){vs:List (B7×V)}{ds:List (B7×D)}{p:Ao}(hp:H p=none)(a:Cw Z vs ds)(q:Q2 (.dic ds) M):Q (.ref p) (CF H p (.dK vs)):=k _ (.ref p) (.dic ds) _ M Le.ext (hr.newFD hp a) pV q
theorem Hz.d (k:Hz K Z Q2 Q)(hr:HR K H M Z){vs:List (B7×V)}{ds:List (B7×D)}{p:Ao}(hp:H p=none)(a:Cw Z vs ds)(q:∀p,M p=none->Q2 (.ref p) (put M p (.dic ds))):Q (.ref p) (CF H p (.dK vs)):=k Z (.ref p) (.ref p) _ _ (Le.refl _) (hr.newD hp a) rfl (q p (hr.fresh hp))
end
section
def sI (C:Int->Int->Prop)(g:Int->Int->D):K2:=λx y M Q=>E4 x λi=>E4 y λj=>C i j/\Q (g i j) M
def Qu (g:Int->Int->D):K2:=λx y M Q=>E4 x λi=>E4 y λj=>Q (g i j) M
theorem o2 (h:Gb X f (rI C g))(hg:∀i j Z,At Z (g i j) (g2 i j)):Cf X f (sI C g2):=Gb.mono h (by
 intro x y H Q hI';symm;obtain ⟨Z,dx,dy,M,Q2,hr,ax,ay,h,k⟩:=hI';cutsat;obtain ⟨i,rfl,h1⟩:=CY h;obtain ⟨j,rfl,c,q⟩:=CY h1;exact ⟨i,j,ax,ay,c,k Z _ _ H M (Le.refl _) hr (hg i j Z) q⟩)
theorem Sc (h:Gb X f (PN g))(hg:∀i j Z,At Z (g i j) (g2 i j)):Cf X f (Qu g2):=Gb.mono h (by
 intro x y H Q hI';symm;obtain ⟨Z,dx,dy,M,Q2,hr,ax,ay,h,k⟩:=hI';cutsat;obtain ⟨i,rfl,h1⟩:=CY h;obtain ⟨j,rfl,q⟩:=CY h1;exact ⟨i,j,ax,ay,k Z _ _ H M (Le.refl _) hr (hg i j Z) q⟩)
theorem Hu:Cf X (By .Add) (Qu λi j=>.int (i+j)):=Sc o5 λ_ _ _=>rfl
theorem Na:Cf X (By .Sub) (Qu λi j=>.int (i-j)):=Sc pi λ_ _ _=>rfl
theorem Uz:Cf X (By .Mult) (sI Pj λi j=>.int (i*j)):=o2 o9 λ_ _ _=>rfl
theorem KY:Cf X (By .FloorDiv) (sI Vb λi j=>.int (i / j)):=o2 uq λ_ _ _=>rfl
theorem Ha:Cf X (By .Mod) (sI (λ_ j=>0<j) λi j=>.int (i%j)):=o2 o8 λ_ _ _=>rfl
theorem Sm:Cf X (By .Pow) (sI Ph λi j=>.int (i^j.toNat)):=o2 pb λ_ _ _=>rfl
theorem VS:Cf X (By .LShift) (sI Ph λi j=>.int (i*2^j.toNat)):=o2 pd λ_ _ _=>rfl
theorem hX:Cf X (By .RShift) (sI (λ_ j=>0<=j) λi j=>.int (i / 2^j.toNat)):=o2 ph λ_ _ _=>rfl
theorem Tr:Cf X (By .BitAnd) (Qu λi j=>.int (AD i j)):=Sc o7 λ_ _ _=>rfl
theorem Kg:Cf X (By .BitOr) (Qu λi j=>.int (AM i j)):=Sc kt λ_ _ _=>rfl
theorem Ts:Cf X (By .BitXor) (Qu λi j=>.int (Bd i j)):=Sc pj λ_ _ _=>rfl
theorem Lp:Cf X (A9 .Lt) (Qu λi j=>.bl (decide (i<j))):=Sc km λ_ _ _=>rfl
theorem QD:Cf X (A9 .LtE) (Qu λi j=>.bl (decide (i<=j))):=Sc kl λ_ _ _=>rfl
theorem Lq:Cf X (A9 .Gt) (Qu λi j=>.bl (decide (j<i))):=Sc kj λ_ _ _=>rfl
theorem XJ:Cf X (A9 .GtE) (Qu λi j=>.bl (decide (j<=i))):=Sc ki λ_ _ _=>rfl
def sU (g:Int->D):D->Mp->DV->Prop:=λx M Q=>E4 x λi=>Q (g i) M
theorem u2 (h:Rx X f (rU g))(hg:∀i Z,At Z (g i) (g2 i)):FW X f (sU g2):=Rx.mono h (by
 intro x H Q hI';symm;obtain ⟨Z,dx,M,Q2,hr,ax,h,k⟩:=hI';cutsat;obtain ⟨i,rfl,q⟩:=CY h;exact ⟨i,ax,k Z _ _ H M (Le.refl _) hr (hg i Z) q⟩)
theorem ZG:FW X (Nd .USub) (sU λi=>.int (-i)):=u2 ui λ_ _=>rfl
theorem VN:FW X (Nd .Invert) (sU λi=>.int (En i)):=u2 uh λ_ _=>rfl
noncomputable def DQ:D->Bool
 |.non=>true
 |.bl _=>true
 |.int _=>true
 |.str _=>true
 |_=>false
noncomputable def KJ:D->D->Bool
 |.non,.non=>true
 |.bl a,.bl b=>a == b
 |.bl a,.int b=>(if a then 1 else 0) == b
 |.int a,.bl b=>a == (if b then 1 else 0)
 |.int a,.int b=>decide (a=b)
 |.str a,.str b=>decide (a=b)
 |_,_=>false
noncomputable def Tp (x y:D):Bool:=match x,y with
 |.non,.non=>true | .non,.int _=>true | .int _,.non=>true | .non,.bl _=>true | .bl _,.non=>true | .non,.str _=>true | .str _,.non=>true
 |.int _,.int _=>true | .bl _,.bl _=>true | .str _,.str _=>true
 |.int _,.str _=>true | .str _,.int _=>true | .bl _,.str _=>true | .str _,.bl _=>true
 |_,_=>false
def Ta (neg:Bool):K2:=λx y M Q=>Tp x y=true/\Q (.bl (if neg then !KJ x y else KJ x y)) M
theorem vV (ax:At Z x dx)(ay:At Z y dy)(h:Tp dx dy=true):Ud x y=true/\decide (x=y)=KJ dx dy:=by
 cases dx<;>cases dy<;>first
  |exact absurd h Am
  |(subst ax;subst ay;refine⟨rfl,?_⟩;simp[KJ,NT])
theorem CS:Cf X (A9 .Eq) (Ta false):=Gb.mono kh (by
 intro x y H Q hI';symm;obtain ⟨Z,dx,dy,M,Q2,hr,ax,ay,⟨f,q⟩,k⟩:=hI';cutsat;obtain ⟨h1,h2⟩:=vV ax ay f;exact ⟨h1,by rw [h2];exact k.b hr q⟩)
theorem XI:Cf X (A9 .NotEq) (Ta true):=Gb.mono kq (by
 intro x y H Q hI';symm;obtain ⟨Z,dx,dy,M,Q2,hr,ax,ay,⟨f,q⟩,k⟩:=hI';cutsat;obtain ⟨h1,h2⟩:=vV ax ay f;exact ⟨h1,by rw [h2];exact k.b hr q⟩)
noncomputable def KQ (M:Mp):D->Option String
 |.non=>some "NoneType"
 |.bl _=>some "bool"
 |.int _=>some "int"
 |.str _=>some "str"
 |.tup _=>some "tuple"
 |.lst _=>some "list"
 |.dic _=>some "dict"
 |.dct _=>some "dict"
 |.ref p=>match M p with
  |some (.lst _)=>some "list"
  |some (.dic _)=>some "dict"
  |some (.dct _)=>some "dict"
  |_=>none
 |.ty _=>none
noncomputable def DA (t c:String):Option Bool:=if t=c then some true else if t = "bool"/\c = "int" then some true else if (t = "int"\/t = "str"\/t = "list"\/t = "tuple"\/t = "dict"\/t = "NoneType")/\(c = "bool"\/c = "int"\/c = "str"\/c = "list"\/c = "tuple"\/c = "dict")then some false else none
theorem vo (K:Ac)(h:DA t c=some b):DD K (.type t) (.type c)=some b:=by
 unfold DA at h;split at h
 .next e=>subst e;cases h;exact zu K t
 .split at h
  .next e=>obtain⟨rfl,rfl⟩:=e;cases h;kernel_rfl
  .split at h
   .next n1 n2 e=>
    cases h;obtain⟨e1,e2⟩:=e
    rcases e1 with rfl|rfl|rfl|rfl|rfl|rfl<;>rcases e2 with rfl|rfl|rfl|rfl|rfl|rfl<;>first
     |exact absurd rfl n1
     |kernel_rfl
   .cases h
def Xx (c:String):List D->Mp->DV->Prop:=λxs M Q=>match xs with
 |[x,.ty c']=>c'=c/\Cp (KQ M x) λt=>Cp (DA t c) λb=>Q (.bl b) M
 |_=>False
theorem jv (I:A6 X Af U H s)(hr:HR X.K H M Z)(a:At Z x d)(rx:RelV x u)(ty:KQ M d=some t)
  (e:DD X.K (.type t) c=some b) (h:∀tk,Q (.bool b) {s with toks:=tk}):Av (AA X.prog X.w) A (IA (.builtin "isinstance") [u,c]) Q E s:=by
 have dicC:∀{p:Ao} {ks:List (B7×V)},Rd H p (.dK ks)->DD X.K (.type "dict") c=some b->Av (AA X.prog X.w) A (IA (.builtin "isinstance") [.ref p,c]) Q E s:=λhp e=>by
  symm;obtain⟨_,_,vs,_,o,es,ep,h1,h2,_⟩:=Rv I.hok hp;cutsat;exact EG LL I.kIn ⟨o,h1,h2.1⟩ e (λz=>nomatch z) h
 have dctC:∀{p:Ao} {ks:List (List B7×V)},Rd H p (.dT ks)->DD X.K (.type "dict") c=some b->Av (AA X.prog X.w) A (IA (.builtin "isinstance") [.ref p,c]) Q E s:=λhp e=>by
  symm;obtain⟨_,_,vs,_,o,es,ep,h1,h2,_⟩:=VO I.hok hp;cutsat;exact EG LL I.kIn ⟨o,h1,h2.1⟩ e (λz=>nomatch z) h
 have lisC:∀{p:Ao} {vs:List V},FO X.K H p vs->DD X.K (.type "list") c=some b->Av (AA X.prog X.w) A (IA (.builtin "isinstance") [.ref p,c]) Q E s:=λhs e=>by
  obtain⟨Bn,_,p,_⟩:=I.list hs;obtain⟨o,h1,h2,_⟩:=p.isList;exact EG Pm I.kIn ⟨o,h1,h2⟩ e (λz=>nomatch z) h
 cases d with
 |non=>cases ty;exact aY I rx (by cases(show x=V.non from a);exact Io.non) e h
 |bl y=>cases ty;exact aY I rx (by cases(show x=V.bl y from a);exact Io.bl _) e h
 |int y=>cases ty;exact aY I rx (by cases(show x=V.int y from a);exact Io.int _) e h
 |str y=>cases ty;exact aY I rx (by cases(show x=V.str y from a);exact Io.str _) e h
 |tup ds=>cases ty;obtain⟨p,vs,rfl,hs,_⟩:=hr.rdT a;cases(show u=AC p from rx);obtain⟨Bn,_,⟨o,h1,h2,_⟩,_⟩:=I.tuple hs;exact EG TU I.kIn ⟨o,h1,h2⟩ e (λz=>nomatch z) h
 |lst ds=>cases ty;obtain⟨p,vs,rfl,hs,_⟩:=hr.rdF a;cases(show u=AC p from rx);exact lisC hs e
 |dic ds=>
  cases ty;obtain⟨p,rfl,z⟩:=a;cases(show u=AC p from rx);rcases hr.z p _ z with⟨vs,r,_⟩|k
  .exact dicC r e
  .exact k.elim
 |dct ds=>
  cases ty;obtain⟨p,rfl,z⟩:=a;cases(show u=AC p from rx);rcases hr.z p _ z with⟨vs,r,_⟩|k
  .exact dctC r e
  .exact k.elim
 |ref p=>
  cases(show x=.ref p from a);cases(show u=AC p from rx);unfold KQ at ty;simp only at ty;split at ty
  .next q=>
   cases ty;obtain⟨vs,r,_⟩:=hr.rdM q;exact lisC (FO.of r) e
  .next q=>
   cases ty;obtain⟨vs,r,_⟩:=hr.rdMD q;exact dicC (.inl r) e
  .next q=>
   cases ty;obtain⟨vs,r,_⟩:=hr.rdMT q;exact dctC (.inl r) e
  .cases ty
 |ty n=>cases ty
theorem nI (c:String):BY X (.builtin "isinstance") (Xx c):=by
 intro Af s U H xs us Q I r h;symm;obtain⟨Z,ds,M,Q2,hr,a,h,k⟩:=h;cutsat
 match ds,a,h with
 |[x,.ty c'],a,h=>
  obtain⟨rfl,h⟩:=h;obtain⟨t,ht,h⟩:=Cn h;obtain⟨b,hb,q⟩:=Cn h;cases a with
  |cons a1 a2=>
   cases a2 with
   |cons a2 a3=>cases a3;obtain⟨u,w',rfl,r1,r2⟩:=MP r;cases(show _=V.ty c' from a2);cases(show w'=DX c' from r2);exact jv I hr a1 r1 ht (vo _ hb) λtk=>⟨.bl b,H,I.tok tk,rfl,k.b hr q⟩
inductive Cs:List Bv->List D->Prop where
 |nil:Cs [] []
 |int {i j pos es ds} (h:Cs es ds):Cs (.Constant (.int i) j pos::es) (.int i::ds)
 |str {i j pos es ds} (h:Cs es ds):Cs (.Constant (.str i) j pos::es) (.str i::ds)
def mL (ds:List D):Kn:=λ_ M Q=>Q ds M
theorem X7 (h:Cs es ds):Gi X es (mL ds):=by
 induction h with
 |nil=>exact PA.mono (qN) λU H Q ⟨Z,τ,M,Q2,st,hr,h,k⟩=>⟨Z,τ,M,Q2,st,hr,h,k⟩
 |int h ih=>exact PA.mono (qA (Ak) ih rfl) λU H Q ⟨Z,τ,M,Q2,st,hr,h,k⟩=>⟨Z,τ,M,Q2,st,hr,h,k⟩
 |str h ih=>exact PA.mono (qA (BX) ih rfl) λU H Q ⟨Z,τ,M,Q2,st,hr,h,k⟩=>⟨Z,τ,M,Q2,st,hr,h,k⟩
theorem oC (a:Dw Z vs ds)(h:FK ds i=some d):∃v,FK vs i=some v/\At Z v d:=by
 unfold FK at h ⊢;rw[a.length];cases e:Rs ds.length i with
 |none=>rw[e]at h;cases h
 |some j=>rw[e]at h;exact a.get h
def LZ:K2:=λx y M Q=>match x with
 |.tup xs=>E4 y λi=>Cp (FK xs i) λv=>Q v M
 |_=>False
def Xw:K2:=λx y M Q=>Cp (Bh M x) λxs=>E4 y λi=>Cp (FK xs i) λv=>Q v M
theorem BE:FL X LZ:=Pg.mono jy (by
 intro x y H Q hI';symm;obtain⟨Z,dx,dy,M,Q2,hr,ax,ay,h,k⟩:=hI';cutsat;cases dx with
 |tup xs=>obtain⟨i,rfl,h1⟩:=CY h;obtain⟨v,e,q⟩:=Cn h1;obtain⟨p,vs,rfl,hs,a⟩:=hr.rdT ax;obtain⟨v',e',a'⟩:=oC a e;exact⟨p,vs,i,v',rfl,ay,hs,e',k.v hr a' q⟩
 | _=>exact h.elim)
theorem Hy:FL X Xw:=Pg.mono vp (by
 intro x y H Q hI';symm;obtain ⟨Z,dx,dy,M,Q2,hr,ax,ay,h,k⟩:=hI';cutsat;obtain ⟨xs,e0,h0⟩:=Cn h;obtain ⟨i,rfl,h1⟩:=CY h0;obtain ⟨v,e,q⟩:=Cn h1;obtain ⟨p,vs,rfl,hs,a⟩:=hr.rdL e0 ax;obtain ⟨v',e',a'⟩:=oC a e;exact ⟨p,vs,i,v',rfl,ay,hs,e',k.v hr a' q⟩)
def Xv:K2:=λx y M Q=>Gh x λz=>E4 y λi=>z.length<=An/\Cp (FK z.cps.toList i) λc=>Q (.str ⟨#[c]⟩) M
theorem X6:FL X Xv:=Pg.mono jw (by
 intro x y H Q hI';symm;obtain ⟨Z,dx,dy,M,Q2,hr,ax,ay,h,k⟩:=hI';cutsat;obtain ⟨z,rfl,h1⟩:=Ea h;obtain ⟨i,rfl,hz,h2⟩:=CY h1;obtain ⟨c,e,q⟩:=Cn h2;exact ⟨z,i,c,ax,ay,hz,e,k.s hr q⟩)
def Gx (xs:List D)(k:D->Prop):Prop:=match xs with
 |[x]=>k x
 |_=>False
def FI (xs:List D)(k:D->D->Prop):Prop:=match xs with
 |[x,y]=>k x y
 |_=>False
theorem GN (h:Gx xs k):∃x,xs=[x]/\k x:=by
 match xs,h with
 |[x],h=>exact⟨x,rfl,h⟩
theorem Lo (h:FI xs k):∃x y,xs=[x,y]/\k x y:=by
 match xs,h with
 |[x,y],h=>exact⟨x,y,rfl,h⟩
theorem IN (a:Dw Z vs [d]):∃v,vs=[v]/\At Z v d:=by
 cases a with
 |cons a1 a2=>cases a2;exact⟨_,rfl,a1⟩
theorem Pd (a:Dw Z vs [d,e]):∃v w,vs=[v,w]/\At Z v d/\At Z w e:=by
 cases a with
 |cons a1 a2=>obtain⟨w,rfl,a3⟩:=IN a2;exact⟨_,w,rfl,a1,a3⟩
theorem Ma:BY X (.builtin "len") (λxs M Q=>Gx xs λx=>Cp (HH M x) λys=>Q (.int ys.length) M):=Fe.mono Zka (by
 intro xs H Q hI';symm;obtain ⟨Z,ds,M,Q2,hr,a,h,k⟩:=hI';cutsat;obtain ⟨x,rfl,h1⟩:=GN h;obtain ⟨ys,e,q⟩:=Cn h1;obtain ⟨v,rfl,a1⟩:=IN a;obtain ⟨p,vs,rfl,hs,a2⟩:=hr.rdS e a1;exact ⟨p,vs,rfl,hs,by rw [a2.length];exact k.i hr q⟩)
theorem ξ:BY X (.builtin "len") (λxs M Q=>Gx xs λx=>Gh x λz=>z.length<=An/\Q (.int z.length) M):=Fe.mono Zk9 (by
 intro xs H Q hI';symm;obtain ⟨Z,ds,M,Q2,hr,a,h,k⟩:=hI';cutsat;obtain ⟨x,rfl,h1⟩:=GN h;obtain ⟨z,rfl,hz,q⟩:=Ea h1;obtain ⟨v,rfl,a1⟩:=IN a;cases (show v=V.str z from a1);exact ⟨z,rfl,hz,k.i hr q⟩)
theorem Ye:BY X (.type "list") (λxs M Q=>Gx xs λx=>Cp (HH M x) λys=>Q (.lst ys) M):=Fe.mono Zk8 (by
 intro xs H Q hI';symm;obtain ⟨Z,ds,M,Q2,hr,a,h,k⟩:=hI';cutsat;obtain ⟨x,rfl,h1⟩:=GN h;obtain ⟨ys,e,q⟩:=Cn h1;obtain ⟨v,rfl,a1⟩:=IN a;obtain ⟨p,vs,rfl,hs,a2⟩:=hr.rdS e a1;exact ⟨p,vs,rfl,hs,λl hl=>k.f hr hl a2 q⟩)
theorem Yg:BY X (.type "tuple") (λxs M Q=>Gx xs λx=>Cp (HH M x) λys=>Q (.tup ys) M):=Fe.mono ZiC (by
 intro xs H Q hI';symm;obtain⟨Z,ds,M,Q2,hr,a,h,k⟩:=hI';cutsat;obtain⟨x,rfl,h1⟩:=GN h;obtain⟨ys,e,q⟩:=Cn h1;obtain⟨v,rfl,a1⟩:=IN a
 have go:Bh M x=some ys->∃p zs,[v]=[V.ref p]/\((FO X.K H p zs/\∀l,H l=none->Q (.ref l) (CF H l (.tup zs)))\/(LC X.K H p zs/\Q (.ref p) H)):=λe=>by
  obtain⟨p,vs,rfl,hs,a2⟩:=hr.rdL e a1;exact⟨p,vs,rfl,.inl ⟨hs,λl hl=>k.t hr hl a2 q⟩⟩
 cases x with
 |tup zs=>cases e;obtain⟨p,vs,rfl,hs,a2⟩:=hr.rdT a1;exact⟨p,vs,rfl,.inr ⟨hs,k.v hr a1 q⟩⟩
 |lst zs=>exact go e
 |ref p=>exact go e
 | _=>cases e)
theorem nJ (hc:X.calm=true):BY X (.builtin "max") (λxs M Q=>FI xs λx y=>E4 x λi=>E4 y λj=>Q (.int (if j > i then j else i)) M):=Fe.mono (π hc) (by
 intro xs H Q hI';symm;obtain ⟨Z,ds,M,Q2,hr,a,h,k⟩:=hI';cutsat;obtain ⟨x,y,rfl,h1⟩:=Lo h;obtain ⟨i,rfl,h2⟩:=CY h1;obtain ⟨j,rfl,q⟩:=CY h2;obtain ⟨v,w,rfl,a1,a2⟩:=Pd a;cases (show v=V.int i from a1);cases (show w=V.int j from a2);exact ⟨i,j,rfl,k.i hr q⟩)
theorem jb (hc:X.calm=true):BY X (.builtin "min") (λxs M Q=>FI xs λx y=>E4 x λi=>E4 y λj=>Q (.int (if j<i then j else i)) M):=Fe.mono (ρ hc) (by
 intro xs H Q hI';symm;obtain ⟨Z,ds,M,Q2,hr,a,h,k⟩:=hI';cutsat;obtain ⟨x,y,rfl,h1⟩:=Lo h;obtain ⟨i,rfl,h2⟩:=CY h1;obtain ⟨j,rfl,q⟩:=CY h2;obtain ⟨v,w,rfl,a1,a2⟩:=Pd a;cases (show v=V.int i from a1);cases (show w=V.int j from a2);exact ⟨i,j,rfl,k.i hr q⟩)
noncomputable def cutD (xs:List D)(lo hi:Option Int):List D:=(xs.drop (HT.sIx xs.length 0 lo)).take (HT.sIx xs.length xs.length hi-HT.sIx xs.length 0 lo)
theorem Dw.cut (a:Dw Z vs ds)(lo hi:Option Int):Dw Z (Ki vs lo hi) (cutD ds lo hi):=by
 unfold Ki cutD;rw[a.length];exact(a.drop _).take _
def Xs:D->Option Int->Option Int->Mp->DV->Prop:=λx lo hi M Q=>Cp (Bh M x) λxs=>Q (.lst (cutD xs lo hi)) M
theorem Yj:Ga X Xs:=Sv.mono xq (by
 intro x lo hi H Q hI';symm;obtain ⟨Z,d,M,Q2,hr,a,h,k⟩:=hI';cutsat;obtain ⟨xs,e,q⟩:=Cn h;obtain ⟨p,vs,rfl,hs,a2⟩:=hr.rdL e a;exact ⟨p,vs,rfl,hs,λl hl=>k.f hr hl (a2.cut lo hi) q⟩)
def Xr:D->Option Int->Option Int->Mp->DV->Prop:=λx lo hi M Q=>match x with
 |.tup xs=>¬(HT.sIx xs.length 0 lo=0/\HT.sIx xs.length xs.length hi=xs.length)/\Q (.tup (cutD xs lo hi)) M
 |_=>False
theorem nY:Ga X Xr:=Sv.mono ud (by
 intro x lo hi H Q hI';symm;obtain⟨Z,d,M,Q2,hr,a,h,k⟩:=hI';cutsat;cases d with
 |tup xs=>obtain⟨hn,q⟩:=h;obtain⟨p,vs,rfl,hs,a2⟩:=hr.rdT a;exact⟨p,vs,rfl,hs,by rw[a2.length];exact hn,λl hl=>k.t hr hl (a2.cut lo hi) q⟩
 | _=>exact h.elim)
end
section
variable {X:Cx}{st:A4}{Db:List A4}{t u:GU}{e:Bv}{te:D3}{pos:Pos}
def SV:GU:=λD τ M=>D.nx τ M
def W0 (t u:GU):GU:=λD τ M=>t {D with nx:=u D} τ M
def cK (t u:GU):GU:=λD τ M=>∃N:GA->Mp->Prop,t {D with nx:=N} τ M/\∀τ' M',N τ' M'->u D τ' M'
def Qm:GU:=λ_ _ _=>False
theorem lS.nx {K:Ac}{Z:Zt}{U:St}{τ:GA}{H:Hp}{M:Mp}{D2:J2}{D:Ml}(er:ER K Z D2 D)(st:Gz Z U τ)(hr:HR K H M Z)(h:D2.nx τ M):D.nx U H:=er.nx Z U τ H M (Le.refl _) st hr h
theorem qE:C3 X [] SV:=K3.mono ww λD U H ⟨Z,τ,M,D2,st,hr,h,er⟩=>lS.nx er st hr h
theorem qC (h1:GV X st t)(h2:C3 X Db u):C3 X (st::Db) (W0 t u):=K3.mono (sX h1 h2) (by
 intro D U H hI';symm;obtain ⟨Z,τ,M,D2,st,hr,h,er⟩:=hI';cutsat;exact ⟨Z,τ,M,{ D2 with nx:=u D2 },st,hr,h,⟨λZ1 U1 τ1 H1 M1 l1 s1 h1 q1=>⟨Z1,τ1,M1,D2,s1,h1,q1,er.le l1⟩,er.rt,er.bk,er.ct⟩⟩)
theorem EW (h1:GV X st t)(h2:C3 X Db u):C3 X (st::Db) (cK t u):=K3.mono (sX h1 h2) (by
 intro D U H hI';symm;obtain ⟨Z,τ,M,D2,st,hr,⟨N,h,hN⟩,er⟩:=hI';cutsat;exact ⟨Z,τ,M,{ D2 with nx:=N },st,hr,h,⟨λZ1 U1 τ1 H1 M1 l1 s1 h1 q1=>⟨Z1,τ1,M1,D2,s1,h1,hN τ1 M1 q1,er.le l1⟩,er.rt,er.bk,er.ct⟩⟩)
theorem qO (h1:GV X st t):C3 X [st] t:=xa h1
theorem Pe:GV X st Qm:=λ_ _ _ _ _ _ ⟨_,_,_,_,_,_,h,_⟩=>h.elim
def SY (te:D3):GU:=λD τ M=>te τ M λ_ M1=>D.nx τ M1
theorem Fb (he:B5 X e te)(hs:D4 e none pos.line X.env=pure false:=by rfl):GV X (.Expr e pos) (SY te):=PS.mono (wv he hs) (by
 intro D U H hI';symm;obtain ⟨Z,τ,M,D2,st,hr,h,er⟩:=hI';cutsat;exact lE.bind st hr h λZ1 x dx H1 M1 l1 h1 a1 q1=>lS.nx (er.le l1) (st.mono l1) h1 q1)
def W4 (te:D3):GU:=λD τ M=>te τ M D.rt
theorem CH (he:B5 X e te):GV X (.Return (some e) pos) (W4 te):=PS.mono (m9 he) (by
 intro D U H hI';symm;obtain ⟨Z,τ,M,D2,st,hr,h,er⟩:=hI';cutsat;exact ⟨Z,τ,M,D2.rt,st,hr,h,er.rt⟩)
def W8 (c:K0)(t u:GU):GU:=λD τ M=>c τ M λb M1=>if b=true then t D τ M1 else u D τ M1
theorem ED (hc:HX X c tc)(ha:C3 X a t)(hb:C3 X b u):GV X (.If c a b pos) (W8 tc t u):=PS.mono (lg hc ha hb) (by
 intro D U H hI';symm;obtain⟨Z,τ,M,D2,st,hr,h,er⟩:=hI';cutsat;refine lT.bind st hr h λZ1 c H1 M1 l1 h1 q1=>?_;cases c with
 |true=>rw[if_pos rfl]at q1 ⊢;exact⟨Z1,τ,M1,D2,st.mono l1,h1,q1,er.le l1⟩
 | false=>rw [if_neg Am] at q1 ⊢;exact ⟨Z1,τ,M1,D2,st.mono l1,h1,q1,er.le l1⟩)
abbrev TD:=D->GA->(GA->Prop)->Prop
def lG (K:Ac)(g:TD):TG:=λv U H Q=>∃Z τ M d Q2,Gz Z U τ/\HR K H M Z/\At Z v d/\g d τ (λτ'=>Q2 τ' M)/\Ry K Z Q2 Q
@[irreducible] def K4 (X:Cx)(tg:Bv)(g:TD):Prop:=PG X tg (lG X.K g)
unseal K4
theorem PG.mono {tg:Bv}{t t':TG}(h:PG X tg t)(m:∀v U H Q,t' v U H Q->t v U H Q):PG X tg t':=λAf s U H v u Q I r q=>h Af s U H v u Q I r (m v U H Q q)
def Fm (i:Nat):TD:=λd τ k=>k (τ.set i (some d))
theorem Nb {i:Nat}{x:Str}(hN:X.N.Nodup)(hi:X.N[i]? = some x)(hx:U9 X.env.scope x)(hf:X.fn x=true\/X.env.scope.names.lookup x=some .local:=by first | exact .inl rfl | exact .inr rfl | assumption):K4 X (.Name x pos) (Fm i):=PG.mono (Md hN hi hx hf) (by
 intro v U H Q hI';symm;obtain ⟨Z,τ,M,d,Q2,st,hr,a,h,k⟩:=hI';cutsat;exact k Z _ _ H M (Le.refl _) (st.set a i) hr h)
noncomputable def Gp:GA->List Nat->List D->GA
 | τ,i::is,x::xs=>Gp (τ.set i (some x)) is xs
 | τ,_,_=>τ
def Gs:List Nat->TC
 |[]=>XY
 |i::is=>To (KI i) (Gs is)
theorem tZ {K:Ac}(hr:HR K H M Z)(k:Ry K Z Q2 Q):∀is {vs:List V}{ds:List D}{U:St}{τ:GA},Dw Z vs ds->Gz Z U τ->ds.length=is.length->Q2 (Gp τ is ds) M->Gs is vs U H Q
 |[],vs,ds,U,τ,a,st,hl,q=>by
  have e:=AG hl;subst e;cases a;exact⟨rfl,k Z U τ H M (Le.refl _) st hr (by unfold Gp at q;exact q)⟩
 |i::is,vs,[],U,τ,a,st,hl,q=>by cases hl
 |i::is,vs,d::ds,U,τ,a,st,hl,q=>by
  cases a with
  |cons a1 a2=>exact⟨_,_,rfl,tZ hr k is a2 (st.set a1 i) (GQ hl) q⟩
def XX (is:List Nat):TD:=λd τ k=>match d with
 |.tup xs=>xs.length=is.length/\k (Gp τ is xs)
 |_=>False
theorem VX {es:List Bv}{k:Nat}{is:List Nat}(hc:X.calm=true)(h:TF X es (Gs is))
  (hn:(CW es X.env).length=is.length:=by rfl) (hst:(CW es X.env).findIdx? (·.1)=none:=by rfl):K4 X (.Tuple es k pos) (XX is):=PG.mono (pE hc h hn hst) (by
 intro v U H Q hI';symm;obtain⟨Z,τ,M,d,Q2,st,hr,a,h,k⟩:=hI';cutsat;cases d with
 |tup xs=>obtain⟨hl,q⟩:=h;obtain⟨p,vs,rfl,hs,a2⟩:=hr.rdT a;exact⟨p,vs,rfl,hs,by rw[a2.length];exact hl,tZ hr k is a2 st hl q⟩
 | _=>exact h.elim)
def Ua (te:D3)(g:TD):GU:=λD τ M=>te τ M λx M1=>g x τ λτ'=>D.nx τ' M1
theorem gF {K:Ac} :∀D U H,lS K (Ua te g) D U H->O4 (lE K te) (lG K g) D U H:=by
 intro D U H hI';symm;obtain⟨Z,τ,M,D2,st,hr,h,er⟩:=hI';cutsat;exact lE.bind st hr h λZ1 x dx H1 M1 l1 h1 a1 q1=>⟨Z1,τ,M1,dx,D2.nx,st.mono l1,h1,a1,q1,er.nx.le l1⟩
theorem nv (he:B5 X e te)(hg:K4 X tg g)(hs:swapsWithSole [tg] e pos.line X.env=pure false:=by rfl)(hw:swappedStores [tg] e X.env=pure none:=by rfl)
  (h1:(CW [tg] X.env).map (·.2)=[LP tg X.env]:=by rfl):GV X (.Assign [tg] e pos) (Ua te g):=PS.mono (m6 he hg hs hw h1) gF
def FH (i:Nat)(te:D3):GU:=λD τ M=>te τ M λx M1=>D.nx (τ.set i (some x)) M1
theorem gE {K:Ac}{i:Nat}:∀D U H,lS K (FH i te) D U H->O4 (lE K te) (KI i) D U H:=by
 intro D U H hI';symm;obtain⟨Z,τ,M,D2,st,hr,h,er⟩:=hI';cutsat;exact lE.bind st hr h λZ1 x dx H1 M1 l1 h1 a1 q1=>lS.nx (er.le l1) ((st.mono l1).set a1 i) h1 q1
theorem ZT (hN:X.N.Nodup)(hi:X.N[i]? = some x)(hx:U9 X.env.scope x)(he:B5 X e te)(hs:D4 e (some (.Name x pos')) pos.line X.env=pure false:=by rfl)(hf:X.fn x=true\/X.env.scope.names.lookup x=some .local:=by first | exact .inl rfl | exact .inr rfl | assumption) :
  GV X (.Assign [.Name x pos'] e pos) (FH i te):=PS.mono (nc hN hi hx he hs hf) gE
theorem CC (i)(hN:X.N.Nodup)(he:B5 X e te)(hi:X.N[i]? = some x:=by rfl)(hx:U9 X.env.scope x:=by exact B4 rfl)(hs:D4 e (some (.Name x pos')) pos.line X.env=pure false:=by rfl)(hf:X.fn x=true\/X.env.scope.names.lookup x=some .local:=by first | exact .inl rfl | exact .inr rfl | assumption) :
  GV X (.Assign [.Name x pos'] e pos) (FH i te):=ZT hN hi hx he hs hf
def W9 (te:D3):D3:=λτ M Q=>te τ M λd M1=>JZ d λp=>match M1 p with
 |some (.lst ds)=>Q (.lst ds) (JL M1 p)
 |some (.dic ds)=>Q (.dic ds) (JL M1 p)
 |some (.dct ds)=>Q (.dct ds) (JL M1 p)
 |_=>False
theorem Ln (h:B5 X e te):B5 X e (W9 te):=PE.mono h (by
 sleep 3;refine lE.bind st hr h λZ1 x dx H1 M1 l1 h1 a1 q1=>?_;obtain⟨p,rfl,q⟩:=Ik q1;cases(show x=V.ref p from a1);split at q
 .next e=>exact k _ (.ref p) (.lst _) H1 _ (l1.trans Le.ext) (h1.frzL e) aB q
 .next e=>exact k _ (.ref p) (.dic _) H1 _ (l1.trans Le.ext) (h1.frzD e) pV q
 .next e=>exact k _ (.ref p) (.dct _) H1 _ (l1.trans Le.ext) (h1.frzDT e) yh q
 .exact q.elim)
def T8 (c:K0)(tb:GU):GU:=λD τ M=>∃Pv:Nat->GA->Mp->Prop,(∃m,Pv m τ M)/\∀m τ M,Pv m τ M ->
 c τ M λb M1=>if b=true then tb {D with nx:=λτ' M'=>∃m',m' < m/\Pv m' τ' M',ct:=λτ' M'=>∃m',m' < m/\Pv m' τ' M',bk:=D.nx} τ M1 else D.nx τ M1
theorem UQ {c:Bv}{body:List A4}{tc:K0}{tb:GU}(hp:Px (AA X.prog X.w) X.A X.env X.xe)(hc:HX X c tc)(hb:C3 X body tb):GV X (.While c body [] pos) (T8 tc tb):=PS.mono (Ι hp hc hb) (by
 intro D U H hI';symm;obtain⟨Z,τ,M,D2,st,hr,⟨Pv,⟨m0,p0⟩,turn⟩,er⟩:=hI';cutsat;refine⟨λm U H=>∃Z1 τ1 M1,Le Z Z1/\Gz Z1 U τ1/\HR X.K H M1 Z1/\Pv m τ1 M1,⟨m0,Z,τ,M,Le.refl _,st,hr,p0⟩,?_⟩;intro m U1 H1 hI';symm;obtain⟨Z1,τ1,M1,l1,s1,h1,p1⟩:=hI';cutsat;refine lT.bind s1 h1 (turn m τ1 M1 p1) λZ2 c H2 M2 l2 h2 q2=>?_;cases c with
 |false=>rw[if_neg Am]at q2 ⊢;exact lS.nx (er.le (l1.trans l2)) (s1.mono l2) h2 q2
 | true=>rw [if_pos rfl] at q2 ⊢;refine ⟨_,λU' H' n=>n,Z2,τ1,M2,_,s1.mono l2,h2,q2,?_⟩;have k:Ry X.K Z2 (λτ' M'=>∃ m',m' < m/\Pv m' τ' M') λU' H'=>∃ m',m' < m/\∃ Z1 τ1 M1,Le Z Z1/\Gz Z1 U' τ1/\HR X.K H' M1 Z1/\Pv m' τ1 M1:=λZ3 U3 τ3 H3 M3 l3 s3 h3 ⟨m',lt,p'⟩=>⟨m',lt,Z3,τ3,M3,l1.trans (l2.trans l3),s3,h3,p'⟩;exact ⟨k,er.rt.le (l1.trans l2),er.nx.le (l1.trans l2),k⟩)
def YK (K:Ac)(J:It)(xs:List D)(S:Mp->Prop)(Z:Zt):Prop:=∀i H M Z',Le Z Z'->HR K H M Z'->S M ->
 (∀d,xs[i]? = some d->J.go i H/\∀x H',J.yld i H x H'->∃Z2,Le Z' Z2/\HR K H' M Z2/\At Z2 x d)/\(xs.length<=i->J.stop i H)
abbrev Nu:=GA->Mp->(List D->(Mp->Prop)->Mp->Prop)->Prop
def lI (K:Ac)(t:Nu):TI:=λU H R=>∃Z τ M R2,Gz Z U τ/\HR K H M Z/\t τ M R2/\∀Z' J xs S H' M',Le Z Z'->HR K H' M' Z'->YK K J xs S Z'->R2 xs S M'->R J H'
@[irreducible] def Hw (X:Cx)(tg iter:Bv)(t:Nu):Prop:=PI X tg iter (lI X.K t)
unseal Hw
theorem PI.mono {t t':TI}(h:PI X tg iter t)(m:∀U H R,t' U H R->t U H R):PI X tg iter t':=λAf s U H R I q=>h Af s U H R I (m U H R q)
def SR (te:D3):Nu:=λτ M R=>te τ M λx M1=>Cp (Bh M1 x) λxs=>R xs (λM=>Bh M x=some xs) M1
def WW (te:D3):Nu:=λτ M R=>te τ M λx M1=>match x with
 |.tup xs=>R xs (λ_=>True) M1
 |_=>False
theorem J0 {tg l:Bv}(hl:B5 X l tl):Hw X tg l (SR tl):=PI.mono (wj hl) (by
 intro U H R hI';symm;obtain ⟨Z,τ,M,R2,st,hr,h,k⟩:=hI';cutsat;refine lE.bind st hr h λZ1 v d H1 M1 l1 h1 a1 q1=>?_;obtain ⟨xs,e,q⟩:=Cn q1;obtain ⟨p,vs,rfl,hs,a2⟩:=h1.rdL e a1;refine ⟨p,rfl,⟨vs,hs⟩,k Z1 _ xs _ H1 M1 l1 h1 (λi H M Z' l hr s=>?_) q⟩;obtain ⟨p',ws,e2,hs2,a3⟩:=hr.rdL s (a1.mono l);cases e2;refine ⟨λd hd=>?_,λhi=>⟨ws,hs2,by rw [a3.length];exact hi⟩⟩;obtain ⟨v,hv,av⟩:=a3.get hd;refine ⟨⟨ws,v,hs2,hv⟩,λx H' y=>?_⟩;obtain ⟨rfl,y⟩:=y;have:=y ws hs2;rw [hv] at this;cases this;exact ⟨Z',Le.refl _,hr,av⟩)
theorem QV {tg l:Bv}(hl:B5 X l tl):Hw X tg l (WW tl):=PI.mono (mj hl) (by
 intro U H R hI';symm;obtain⟨Z,τ,M,R2,st,hr,h,k⟩:=hI';cutsat;refine lE.bind st hr h λZ1 v d H1 M1 l1 h1 a1 q1=>?_;cases d with
 |tup xs=>obtain⟨p,vs,rfl,hs,a2⟩:=h1.rdT a1;refine⟨p,rfl,⟨vs,hs⟩,k Z1 _ xs _ H1 M1 l1 h1 (λi H M Z' l hr s=>?_) q1⟩;obtain⟨p',ws,e2,hs2,a3⟩:=hr.rdT (a1.mono l);cases e2;refine⟨λd hd=>?_,λhi=>⟨ws,hs2,by rw[a3.length];exact hi⟩⟩;obtain⟨v,hv,av⟩:=a3.get hd;refine⟨⟨ws,v,hs2,hv⟩,λx H' y=>?_⟩;obtain⟨rfl,y⟩:=y;have:=y ws hs2;rw[hv]at this;cases this;exact⟨Z',Le.refl _,hr,av⟩
 | _=>exact q1.elim)
noncomputable def N7 (lo:Int)(n:Nat):List D:=(Bu n).map λk=>.int (lo+(k:Nat))
theorem Yi {lo:Int}(h:(N7 lo n)[i]? = some d):i<n/\d=.int (lo+(i:Nat)):=by
 unfold N7 at h;rw[AH]at h;by_cases hi:i<n
 .rw[EO hi]at h;exact⟨hi,(Bb h).symm⟩
 .rw[EJ.mpr (by rw[Ce];ext)]at h;cases h
theorem V5 (lo:Int)(n:Nat):(N7 lo n).length=n:=by unfold N7;rw[Ab,Ce]
theorem ZoG {K:Ac}(lo:Int)(n:Nat):YK K (bR lo n) (N7 lo n) (λ_=>True) Z:=λi H M Z' l hr s=>by
 refine⟨λd hd=>?_,λhi=>by rw[V5]at hi;exact hi⟩;obtain⟨hi,rfl⟩:=Yi hd;refine⟨hi,λx H' y=>?_⟩;obtain⟨rfl,rfl⟩:=y;exact⟨Z',Le.refl _,hr,rfl⟩
def SQ (t:Kn):Nu:=λτ M R=>t τ M λxs M1=>Gx xs λx=>E4 x λj=>(-(2^62)<=j/\j<2^62)/\R (N7 0 j.toNat) (λ_=>True) M1
theorem aV {tg a:Bv}{ta:Kn}{p pos:Pos}(hm:X.mg "range" = none)(ha:Gi X [a] ta)(hg:Gl X "range":=by rfl)(hs:Au [a] X.env=[(false,eval a X.env)]:=by rfl) :
  Hw X tg (.Call (.Name "range" p) [a] [] pos) (SQ ta):=PI.mono (Zo9 hg hm ha hs) (by
 intro U H R hI';symm;obtain ⟨Z,τ,M,R2,st,hr,h,k⟩:=hI';cutsat;refine ⟨Z,τ,M,_,st,hr,h,λZ1 vs ds H1 M1 l1 h1 a1 q1=>?_⟩;obtain ⟨x,rfl,q⟩:=GN q1;obtain ⟨j,rfl,⟨b1,b2⟩,q⟩:=CY q;obtain ⟨v,rfl,a2⟩:=IN a1;cases (show v=V.int j from a2);exact ⟨j,rfl,b1,b2,k Z1 _ _ _ H1 M1 l1 h1 (ZoG _ _) q⟩)
def U8 (xs:List D)(S:Mp->Prop)(g:TD)(tb:GU)(D:J2)(τ:GA)(M:Mp):Prop:=∃Pv:Nat->GA->Mp->Prop,Pv 0 τ M/\(∀k τ M,Pv k τ M->S M) /\
 (∀k x τ M,xs[k]? = some x->Pv k τ M->g x τ λτ'=>tb {D with nx:=Pv (k+1),ct:=Pv (k+1),bk:=D.nx} τ' M)/\∀τ M,Pv xs.length τ M->D.nx τ M
def Xa (ti:Nu)(g:TD)(tb:GU):GU:=λD τ M=>ti τ M λxs S M1=>U8 xs S g tb D τ M1
theorem KZ {tg iter:Bv}{body:List A4}{wi:Nu}{g:TD}{tb:GU}(hp:Px (AA X.prog X.w) X.A X.env X.xe)(hc:X.calm=true)(hi:Hw X tg iter wi)(hg:K4 X tg g)(hb:C3 X body tb)
  (hs:∀ x,BB iter X.env x=pure x:=by intro _;rfl):GV X (.For tg iter body [] pos) (Xa wi g tb):=PS.mono (m8 hp hc hi hg hb hs) (by
 intro D U H hI';symm;obtain⟨Z,τ,M,D2,st,hr,h,er⟩:=hI';cutsat;refine⟨Z,τ,M,_,st,hr,h,λZ1 J xs S H1 M1 l1 h1 jk ⟨Pv,p0,stay,turn,done⟩=>?_⟩;refine⟨λi m U H=>m=xs.length-i/\i<=xs.length/\∃Z2 τ2 M2,Le Z1 Z2/\Gz Z2 U τ2/\HR X.K H M2 Z2/\Pv i τ2 M2,⟨xs.length,by simp,Ek _,Z1,τ,M1,Le.refl _,st.mono l1,h1,p0⟩,?_⟩;intro i m U2 H2 hI';symm;obtain⟨e1',hi,Z2,τ2,M2,l2,s2,h2,p2⟩:=hI';cutsat;subst e1';obtain⟨go,stop⟩:=jk i H2 M2 Z2 l2 h2 (stay i τ2 M2 p2);by_cases hlt:i<xs.length
 .obtain⟨g1,g2⟩:=go _ (Ag hlt);refine .inr ⟨g1,λU' H'=>∃Z3 τ3 M3,Le Z1 Z3/\Gz Z3 U' τ3/\HR X.K H' M3 Z3/\Pv (i+1) τ3 M3,λU' H' n=>⟨xs.length-(i+1),by ext,rfl,hlt,n⟩,λx H' y=>?_⟩;obtain⟨Z5,l5,h5,a⟩:=g2 x H' y;have tk:=turn i _ τ2 M2 (Ag hlt) p2;have l2:=l2.trans l5;refine⟨Z5,τ2,M2,_,λτ' M'=>tb {D2 with nx:=Pv (i+1),ct:=Pv (i+1),bk:=D2.nx} τ' M',s2.mono l5,h5,a,tk,λZ3 U3 τ3 H3 M3 l3 s3 h3 q3=>?_⟩;have k:Ry X.K Z3 (Pv (i+1)) λU' H'=>∃Z3 τ3 M3,Le Z1 Z3/\Gz Z3 U' τ3/\HR X.K H' M3 Z3/\Pv (i+1) τ3 M3:=λZ4 U4 τ4 H4 M4 l4 s4 h4 q4=>⟨Z4,τ4,M4,l2.trans (l3.trans l4),s4,h4,q4⟩;have er3:=er.le (l1.trans (l2.trans l3));exact⟨Z3,τ3,M3,_,s3,h3,q3,⟨k,er3.rt,er3.nx,k⟩⟩
 .have e:i=xs.length:=by ext
  subst e;exact .inl ⟨stop (AJ _),lS.nx (er.le (l1.trans l2)) s2 h2 (done τ2 M2 p2)⟩)
end
end L3
namespace L3
open PySem PySem.Spec PyProof.Rows L2
unseal B5 HX Ju Gi Ko GV C3 Cf FW BY FL Ga K4 Hw
section
variable {X:Cx}{e:Bv}{te:D3}
noncomputable def L9 (τ:GA)(caps:List (Str×Nat))(v:Option D):GA:=v::caps.map λc=>(τ[c.2]?).join
theorem Gz.join (h:Gz Z U τ)(i:Nat):OA Z (U[i]?).join (τ[i]?).join:=by
 cases e:(τ[i]?).join with
 |none=>cases(U[i]?).join<;>exact Cm
 |some d=>obtain⟨v,h1,h2⟩:=h.get (EZ.mp e);rw[h1];exact h2
theorem Gz.cap (h:Gz Z U τ)(caps:List (Str×Nat))(a:At Z x d):Gz Z (MZ U caps (some x)) (L9 τ caps (some d)):=by
 refine .cons a ?_;induction caps with
 |nil=>exact .nil
 |cons c r ih=>exact .cons (h.join c.2) ih
def GJ:K0:=λ_ M Q=>Q true M
def ET (xs:List D)(S:Mp->Prop)(caps:List (Str×Nat))(tt:K0)(te:D3)(τ:GA)(M:Mp)(Q:List D->Mp->Prop):Prop:=xs.length<=An/\∃W:Nat->List D->Mp->Prop,W 0 [] M/\(∀i ys M,W i ys M->S M/\ys.length<=i) /\
 (∀i x ys M,xs[i]? = some x->W i ys M->tt (L9 τ caps (some x)) M λb M2=>if b=true then te (L9 τ caps (some x)) M2 λy M3=>W (i+1) (ys++[y]) M3 else W (i+1) ys M2)/\∀ys M,W xs.length ys M->Q ys M
def HG (wi:Nu)(caps:List (Str×Nat))(tt:K0)(te:D3):D3:=λτ M Q=>wi τ M λxs S M1=>ET xs S caps tt te τ M1 λys M2=>Q (.lst ys) M2
def OK (wi:Nu)(caps:List (Str×Nat))(tt:K0)(te:D3):D3:=λτ M Q=>wi τ M λxs S M1=>ET xs S caps tt te τ M1 λys M2=>∀p,M2 p=none->Q (.ref p) (put M2 p (.lst ys))
theorem Yt {K:Ac}(st:Gz Z U τ)(hr:HR K H M Z)(h:wi τ M λxs S M1=>ET xs S caps tt te τ M1 QL)
  (ht:∀U H Q,lT K tt U H Q->tt1 U H Q)
  (k:∀Z1 H1 M1 vs ds,Le Z Z1->HR K H1 M1 Z1->Dw Z1 vs ds->QL ds M1->∀p,H1 p=none->Q (.ref p) (CF H1 p (.lst vs))):JY (lI K wi) caps tt1 (lE K te) U H Q:=by
 refine⟨Z,τ,M,_,st,hr,h,λZ1 J xs S H1 M1 l1 h1 jk ⟨hz,W,w0,stay,turn,done⟩=>?_⟩;refine⟨xs.length,λi vs H=>i<=xs.length/\∃Z2 M2 ds,Le Z1 Z2/\HR K H M2 Z2/\Dw Z2 vs ds/\W i ds M2,⟨Ek _,Z1,M1,[],Le.refl _,h1,.nil,w0⟩,?_⟩;intro i vs H2 hI';symm;obtain⟨hi,Z2,M2,ds,l2,h2,a2,w2⟩:=hI';cutsat;obtain⟨s2,hl⟩:=stay i ds M2 w2;obtain⟨go,stop⟩:=jk i H2 M2 Z2 l2 h2 s2;have la:=a2.length;by_cases hlt:i<xs.length
 .obtain⟨g1,g2⟩:=go _ (Ag hlt);refine .inr ⟨g1,hlt,by ext,λx H' y=>?_⟩;obtain⟨Z5,l5,h5,a⟩:=g2 x H' y;have tk:=turn i _ ds M2 (Ag hlt) w2;have l2:=l2.trans l5;have a2:=a2.mono l5;refine ht _ _ _ (lT.bind ((st.mono (l1.trans l2)).cap caps a) h5 tk λZ3 b H3 M3 l3 h3 q3=>?_);cases b with
  |false=>rw[if_neg Am]at q3 ⊢;exact⟨hlt,Z3,M3,ds,l2.trans l3,h3,a2.mono l3,q3⟩
  |true=>rw[if_pos rfl]at q3 ⊢;refine lE.bind (((st.mono (l1.trans l2)).cap caps a).mono l3) h3 q3 λZ4 z dz H4 M4 l4 h4 a4 q4=>?_;exact⟨hlt,Z4,M4,ds++[dz],l2.trans (l3.trans l4),h4,(a2.mono (l3.trans l4)).append (.cons a4 .nil),q4⟩
 .have e:i=xs.length:=by ext
  subst e;exact .inl ⟨stop (AJ _),by ext,k Z2 H2 M2 vs ds (l1.trans l2) h2 a2 (done ds M2 w2)⟩
theorem Lz {K:Ac}:∀U H Q,lT K GJ U H Q->S7 U H Q:=λU H Q ⟨Z,τ,M,Q2,st,hr,h,k⟩=>k Z true H M (Le.refl _) hr h
theorem L6 {K:Ac}(ht:∀U H Q,lT K tt U H Q->tt1 U H Q):∀U H Q,lE K (HG wi caps tt te) U H Q->JY (lI K wi) caps tt1 (lE K te) U H Q:=by
 sleep 3;exact Yt st hr h ht λZ1 H1 M1 vs ds l1 h1 a1 q p hp=>(k.le l1).f h1 hp a1 q
theorem Tl {K:Ac}(ht:∀U H Q,lT K tt U H Q->tt1 U H Q):∀U H Q,lE K (OK wi caps tt te) U H Q->JY (lI K wi) caps tt1 (lE K te) U H Q:=by
 sleep 3;exact Yt st hr h ht λZ1 H1 M1 vs ds l1 h1 a1 q p hp=>(k.le l1).l h1 hp a1 q
variable {scope:JB}{x:Str}{px:Pos}{caps:List (Str×Nat)}{elt iter:Bv}  {wi:Nu}
theorem Gq (B:Eg X scope x caps)(hc:X.calm=true)(hi:Hw X (.Name x px) iter wi)(he:∀cl C fp pn s H,B5 (GS X scope cl C (x::caps.map (·.1)) fp pn s H) elt te)
  (hs:∀x,BB iter X.env x=pure x:=by intro _;rfl):B5 X (.ListComp elt [⟨.Name x px,iter,[],0⟩] scope pos) (HG wi caps GJ te):=PE.mono (aE (te:=lE X.K te) B hc hi he (λ_ _ _ _ _ _=>HL.nil) hs) (L6 Lz)
theorem XC (B:Eg X scope x caps)(hc:X.calm=true)(hi:Hw X (.Name x px) iter wi)(he:∀cl C fp pn s H,B5 (GS X scope cl C (x::caps.map (·.1)) fp pn s H) elt te)
  (hs:∀x,BB iter X.env x=pure x:=by intro _;rfl):B5 X (.ListComp elt [⟨.Name x px,iter,[],0⟩] scope pos) (OK wi caps GJ te):=PE.mono (aE (te:=lE X.K te) B hc hi he (λ_ _ _ _ _ _=>HL.nil) hs) (Tl Lz)
theorem Jm (B:Eg X scope x caps)(hc:X.calm=true)(hi:Hw X (.Name x px) iter wi)(he:∀cl C fp pn s H,B5 (GS X scope cl C (x::caps.map (·.1)) fp pn s H) elt te)(hif:∀cl C fp pn s H,HX (GS X scope cl C (x::caps.map (·.1)) fp pn s H) c tt)
  (hs:∀x,BB iter X.env x=pure x:=by intro _;rfl):B5 X (.ListComp elt [⟨.Name x px,iter,[c],0⟩] scope pos) (HG wi caps tt te):=PE.mono (aE (te:=lE X.K te) (tt:=lT X.K tt) B hc hi he (λcl C fp pn s H=>HL.one (hif cl C fp pn s H)) hs) (L6 λ_ _ _ h=>h)
section
variable {i:Nat}{y:Str}
theorem QG {K:Ac}(m:∀U H Q,lE K t2 U H Q->t1 U H Q):∀D U H,lS K (FH i t2) D U H->O4 t1 (KI i) D U H:=by
 intro D U H hI';symm;obtain⟨Z,τ,M,D2,st,hr,h,er⟩:=hI';cutsat;exact m _ _ _ (lE.bind st hr h λZ1 x dx H1 M1 l1 h1 a1 q1=>lS.nx (er.le l1) ((st.mono l1).set a1 i) h1 q1)
variable (hN:X.N.Nodup)(hi0:X.N[i]? = some y)(hy:X.env.scope.names.lookup y=some .local)(B:Eg X scope x caps)(hc:X.calm=true)(hi:Hw X (.Name x px) iter wi)(he:∀cl C fp pn s H,B5 (GS X scope cl C (x::caps.map (·.1)) fp pn s H) elt te)
theorem sY (hN:X.N.Nodup)(hi0:X.N[i]? = some y)(hy:X.env.scope.names.lookup y=some .local)(B:Eg X scope x caps)(hc:X.calm=true)(hi:Hw X (.Name x px) iter wi)(he:∀cl C fp pn s H,B5 (GS X scope cl C (x::caps.map (·.1)) fp pn s H) elt te)
  (hsw:D4 (.ListComp elt [⟨.Name x px,iter,[],0⟩] scope pos) (some (.Name y py)) spos.line X.env=pure true:=by rfl) (hs:∀x,BB iter X.env x=pure x:=by intro _;rfl) :
  GV X (.Assign [.Name y py] (.ListComp elt [⟨.Name x px,iter,[],0⟩] scope pos) spos) (FH i (HG wi caps GJ te)):=PS.mono (jF (te:=lE X.K te) hN hi0 hy B hc hi he (λ_ _ _ _ _ _=>HL.nil) hsw hs) (QG (L6 Lz))
theorem xg (hN:X.N.Nodup)(hi0:X.N[i]? = some y)(hy:X.env.scope.names.lookup y=some .local)(B:Eg X scope x caps)(hc:X.calm=true)(hi:Hw X (.Name x px) iter wi)(he:∀cl C fp pn s H,B5 (GS X scope cl C (x::caps.map (·.1)) fp pn s H) elt te)
  (hsw:D4 (.ListComp elt [⟨.Name x px,iter,[],0⟩] scope pos) (some (.Name y py)) spos.line X.env=pure true:=by rfl) (hs:∀x,BB iter X.env x=pure x:=by intro _;rfl) :
  GV X (.Assign [.Name y py] (.ListComp elt [⟨.Name x px,iter,[],0⟩] scope pos) spos) (FH i (OK wi caps GJ te)):=PS.mono (jF (te:=lE X.K te) hN hi0 hy B hc hi he (λ_ _ _ _ _ _=>HL.nil) hsw hs) (QG (Tl Lz))
theorem kF (hN:X.N.Nodup)(hi0:X.N[i]? = some y)(hy:X.env.scope.names.lookup y=some .local)(B:Eg X scope x caps)(hc:X.calm=true)(hi:Hw X (.Name x px) iter wi)(he:∀cl C fp pn s H,B5 (GS X scope cl C (x::caps.map (·.1)) fp pn s H) elt te)(hif:∀cl C fp pn s H,HX (GS X scope cl C (x::caps.map (·.1)) fp pn s H) c tt)
  (hsw:D4 (.ListComp elt [⟨.Name x px,iter,[c],0⟩] scope pos) (some (.Name y py)) spos.line X.env=pure true:=by rfl) (hs:∀x,BB iter X.env x=pure x:=by intro _;rfl) :
  GV X (.Assign [.Name y py] (.ListComp elt [⟨.Name x px,iter,[c],0⟩] scope pos) spos) (FH i (HG wi caps tt te)):=PS.mono (jF (te:=lE X.K te) (tt:=lT X.K tt) hN hi0 hy B hc hi he (λcl C fp pn s H=>HL.one (hif cl C fp pn s H)) hsw hs) (QG (L6 λ_ _ _ h=>h))
end
def lM (K:Ac)(r:D->List D->Mp->DV->Prop):V->List V->Hp->VK->Prop:=λx xs H Q=>∃Z d ds M Q2,HR K H M Z/\At Z x d/\Dw Z xs ds/\r d ds M Q2/\Hz K Z Q2 Q
@[irreducible] def ES (X:Cx)(id:String)(r:D->List D->Mp->DV->Prop):Prop:=Nv X id (lM X.K r)
unseal ES
theorem Nv.mono {id:String}{r r':V->List V->Hp->VK->Prop}(h:Nv X id r)(m:∀x xs H Q,r' x xs H Q->r x xs H Q):Nv X id r':=λAf s U H x xs v us Q I rx r q=>h Af s U H x xs v us Q I rx r (m x xs H Q q)
def mM (T:String)(r:D->List D->Mp->DV->Prop)(to:D3)(t:Kn):D3:=λτ M Q=>to τ M λx M1=>KQ M1 x=some T/\t τ M1 λxs M2=>r x xs M2 Q
def Xc (T:String)(r:D->List D->Mp->DV->Prop)(to:D3):D3:=λτ M Q=>to τ M λx M1=>KQ M1 x=some T/\r x [] M1 Q
theorem rL {K:Ac}(hr:HR K H M Z)(a:At Z v d)(h:KQ M d=some T)(hT:T = "list"\/T = "int"\/T = "str"):Zp K T v H:=by
 cases d with
 |int i=>cases h;cases(show v=V.int i from a);rfl
 |str i=>cases h;cases(show v=V.str i from a);rfl
 |lst ds=>cases h;obtain⟨p,vs,rfl,hs,_⟩:=hr.rdF a;exact .inl ⟨rfl,vs,hs⟩
 |dic ds=>cases h;rcases hT with h | h | h<;>exact absurd h (by decide)
 |dct ds=>cases h;rcases hT with h | h | h<;>exact absurd h (by decide)
 |ref p=>
  cases(show v=.ref p from a);unfold KQ at h;simp only at h;split at h
  .next q=>
   cases h;obtain⟨vs,r,_⟩:=hr.rdM q;exact .inl ⟨rfl,vs,FO.of r⟩
  .next q=>
   cases h;rcases hT with h|h|h<;>exact absurd h (by decide)
  .next q=>
   cases h;rcases hT with h|h|h<;>exact absurd h (by decide)
  .cases h
 |non=>cases h;rcases hT with h | h | h<;>exact absurd h (by decide)
 |bl _=>cases h;rcases hT with h | h | h<;>exact absurd h (by decide)
 |tup _=>cases h;rcases hT with h | h | h<;>exact absurd h (by decide)
 |ty _=>cases h
theorem Kf {T id:String}(pa:NL T)(slot:cD T name id)(hty:TN (.builtin id)=pure (.type "method_descriptor"))(hm:ES X id r)(ho:B5 X o to)(ha:Gi X (e::es) t)
  (hT:T = "list"\/T = "int"\/T = "str":=by decide)
  (hbase:CJ o name X.env (eval o X.env)=eval o X.env:=by rfl)
  (hfew:((Cg cpos (Au (e::es) X.env)).all (λx=>!x.1) && (Fx cpos (DJ [] X.env)).all (λx=>x.1.isSome)
   && decide ((e::es).length+([]:List E1).length+(if ([]:List E1).isEmpty then 0 else 1)<30))=true:=by rfl)
  (hline:(apos.endLine == cpos.line)=true:=by rfl) (hs:Au (e::es) X.env=(false,eval e X.env)::Au es X.env:=by rfl) (hplain:(Cg cpos (Au es X.env)).any (·.1)=false:=by rfl) :
  B5 X (.Call (.Attribute o name apos) (e::es) [] cpos) (mM T r to t):=PE.mono (nV pa slot hty hm ho ha hbase hfew hline hs hplain) (by
 intro U H Q hI';symm;obtain ⟨Z,τ,M,Q2,st,hr,h,k⟩:=hI';cutsat;refine lE.bind st hr h λZ1 x dx H1 M1 l1 h1 a1 q1=>⟨rL h1 a1 q1.1 hT,Z1,τ,M1,_,st.mono l1,h1,q1.2,λZ2 vs ds H2 M2 l2 h2 a2 q2=>?_⟩;exact ⟨Z2,dx,ds,M2,Q2,h2,a1.mono l2,a2,q2,k.le (l1.trans l2)⟩)
theorem Ul {T id:String}(pa:NL T)(slot:cD T name id)(hty:TN (.builtin id)=pure (.type "method_descriptor"))(hm:ES X id r)(ho:B5 X o to)
  (hT:T = "list"\/T = "int"\/T = "str":=by decide)
  (hbase:CJ o name X.env (eval o X.env)=eval o X.env:=by rfl) (hline:(apos.endLine == cpos.line)=true:=by rfl) :
  B5 X (.Call (.Attribute o name apos) [] [] cpos) (Xc T r to):=PE.mono (pw pa slot hty hm ho hbase hline) (by
 intro U H Q hI';symm;obtain ⟨Z,τ,M,Q2,st,hr,h,k⟩:=hI';cutsat;refine lE.bind st hr h λZ1 x dx H1 M1 l1 h1 a1 q1=>⟨rL h1 a1 q1.1 hT,Z1,dx,[],M1,Q2,h1,a1,.nil,q1.2,k.le l1⟩)
def G5:D->List D->Mp->DV->Prop:=λx xs M Q=>JZ x λp=>Gx xs λy=>match M p with
 |some (.lst ys)=>ys.length<An/\Q .non (put M p (.lst (ys++[y])))
 |_=>False
theorem QZ:ES X "list.append" G5:=Nv.mono Zop (by
 intro x xs H Q hI';symm;obtain⟨Z,d,ds,M,Q2,hr,a,as,h,k⟩:=hI';cutsat;obtain⟨p,rfl,h1⟩:=Ik h;obtain⟨y,rfl,h2⟩:=GN h1;cases(show x=V.ref p from a);obtain⟨v,rfl,av⟩:=IN as;split at h2
 .next ys e=>
  obtain⟨hl,q⟩:=h2;obtain⟨vs,r,a2⟩:=hr.rdM e;refine⟨p,vs,v,rfl,rfl,r,by rw[a2.length];exact hl,?_⟩;exact k Z .non .non _ _ (Le.refl _) (hr.chgL e (a2.append (.cons av .nil))) rfl q
 .exact h2.elim)
theorem ma:ES X "int.bit_length" (λx xs M Q=>E4 x λi=>xs=[]/\Q (.int (Ep i)) M):=Nv.mono uk (by
 intro x xs H Q hI';symm;obtain ⟨Z,d,ds,M,Q2,hr,a,as,h,k⟩:=hI';cutsat;obtain ⟨i,rfl,rfl,q⟩:=CY h;cases as;exact ⟨i,a,rfl,k.i hr q⟩)
def Xq (h:Ao)(D:List (Str×Int)):K2:=λx y M Q=>JZ x λa=>a=h/\Gh y λk=>Cp (D.lookup k) λv=>Q (.int v) M
theorem oK {D:List (Str×Int)}(T:TabOk X.K X.w h D):FL X (Xq h D):=Pg.mono jx (by
 intro x y H Q hI';symm;obtain ⟨Z,dx,dy,M,Q2,hr,ax,ay,q,k⟩:=hI';cutsat;obtain ⟨a,rfl,rfl,q1⟩:=Ik q;obtain ⟨k',rfl,q2⟩:=Ea q1;obtain ⟨v,l,q3⟩:=Cn q2;exact ⟨a,D,k',v,ax,ay,T,l,k.i hr q3⟩)
def Dn (Q:DV):DV:=λd M=>∃M0,Sub M0 M/\Q d M0
theorem Dn.of (h:Q d M):Dn Q d M:=⟨M,Sub.refl _,h⟩
noncomputable def JF (N:List Str)(ds:List D):GA:=ds.map some++Ax (N.length-ds.length) none
noncomputable def DE:List Str->List D->GA
 |[],_=>[]
 |_::N,[]=>none::DE N []
 |_::N,d::ds=>some d::DE N ds
theorem kJ:∀{N:List Str}{ds:List D},ds.length<=N.length->DE N ds=JF N ds
 |[],[],_=>rfl
 |[],d::ds,h=>by simp at h
 |n::N,[],_=>by
  unfold DE;rw[kJ (Ek _)];simp[JF,C0]
 |n::N,d::ds,h=>by
  unfold DE;rw[kJ (by simpa using h)];simp[JF]
theorem Znn (a:Dw Z vs ds):Gz Z (L2.start N vs) (JF N ds):=by
 unfold L2.start JF;rw[a.length]
 have tail:∀n,Gz Z (Ax n none) (Ax n none):=λn=>by
  induction n with
  |zero=>exact .nil
  |succ n ih=>exact .cons Cm ih
 generalize N.length-ds.length=n;induction a with
 |nil=>exact tail n
 |cons r _ ih=>exact .cons r ih
end
section
variable   {K:Ac}
theorem Co.ok2 {st:A4}(F:Co K x qual st f fd)(S:Ef N ps (Gu st))(len:∀ds M Q,sp ds M Q->ds.length=ps.length)
  (hbody:∀ cdv A outer s H E ds M Q,Dg k (A.deeper (EQ qual (Gu st) s.heap.objs.size f cdv))->sp ds M Q ->
   ∃ t,C3 (Im CX0 P w K mg base N qual (Gu st) f cdv A outer s H E).nox (LB st) t/\t { nx:=λ_ M'=>Dn Q .non M',rt:=Dn Q } (DE N ds) M):FnOk P w K mg base CX0 (k+1) f fd ps (lSp K sp):=by
 refine F.ok S (λvs H Q E h=>?_) λcdv A outer s H vs Q E hr h=>?_
 .symm;obtain⟨Z,ds,M,Q2,_,a,h,_⟩:=h;cutsat;rw[a.length];exact len ds M Q2 h
 .symm;obtain⟨Z,ds,M,Q2,hR,a,h,k'⟩:=h;cutsat;obtain⟨t,ht,q⟩:=hbody cdv A outer s H E ds M Q2 hr h;have hpl:ps.length<=N.length:=by have:=congrArg Ey S.pre;rw[AZ]at this;ext
  rw[kJ (by rw[len ds M Q2 h];exact hpl)]at q;refine⟨_,ht,Z,JF N ds,M,_,Znn a,hR,q,?_⟩;refine⟨λZ1 U τ H1 M1 l1 s1 h1 q1=>?_,k'.dn,λ_ _ _ _ _ _ _ _ q=>q.elim,λ_ _ _ _ _ _ _ _ q=>q.elim⟩;exact(k'.dn.le l1).n h1 q1
def spLaw2:DW:=λds M Q=>∃ns:List Int,ds=[.lst (ns.map D.int)]/\ns.length<=63/\∀M',Q (.bl true) M'
theorem rV (Z)(ns:List Int):Dw Z (ns.map V.int) (ns.map D.int):=by
 induction ns with
 |nil=>exact .nil
 |cons n r ih=>exact .cons rfl ih
theorem lx {ns:List Int}(hl:ns.length<=63)(hS:FO K H a (ns.map V.int)):lSp K spLaw2 [.ref a] H (λv _=>v=.bl true) E:=by
 refine⟨λb d=>b=a/\d=.lst (ns.map D.int),[.lst (ns.map D.int)],λ_=>none,λd _=>d=.bl true,⟨λp d z=>?_,λp o e=>nomatch e⟩,.cons ⟨a,rfl,rfl,rfl⟩ .nil,⟨ns,rfl,hl,λ_=>rfl⟩,λZ' v d H' M' _ _ at' q=>?_⟩
 .obtain⟨rfl,rfl⟩:=z;rcases hS with r|r
  .exact .inl ⟨_,r,rV _ ns⟩
  .exact .inr ⟨_,r,rV _ ns⟩
 .subst q;exact at'
theorem walk2 {l:Pw}{K:JD->Ac}(hn:l.most=some 63)(hdf:d.params.defaults=[])(hr:Dg k JR)
  (hY:∀w h,YP w h->(K w.params).In h)
  (F:∀ w mg fa h,(K w.params).In h->h.Ns B3 mg->mg d.name=some (.ref fa) ->
   ∃ fd,(∀ s u,No s fd ⟨[u],[]⟩ [("script",u)])/\∀ base,(K w.params).In base->base.Ns B3 mg->FnOk l.prog w (K w.params) mg base CX0 k fa fd ["script"] (lSp (K w.params) spLaw2)) :
  Ra q loose XP YP l.row.toRowW d [] (λf vs=>OT f vs):=
 L2.walk_of hn (by decide) hdf hr hY F (λ_ _ a ns hl _ hS=>lx hl hS) λ_ _ _ _ _ z=>z
end
end L3
namespace L3
open PySem PySem.Spec PyProof.Rows L2
unseal B5 HX Ju Gi Ko GV C3 Cf FW BY FL Ga K4 Hw ES
section
theorem rX (I:A6 X Af U H s)(h1:FO X.K H p vs)(h2:FO X.K H p' ws)(hz:vs.length+ws.length<=An)
  (q:∀l,H l=none->Q (.ref l) (CF H l (.lst (vs++ws)))):Av (AA X.prog X.w) X.A (By .Add (.ref p) (.ref p')) (EP X Af U Q) X.xe s:=by
 obtain⟨Bn,r1,l1,_⟩:=I.list h1;obtain⟨its2,r2,l2,_⟩:=I.list h2;have n1:=r1.length;have n2:=r2.length;obtain⟨⟨cls,dd,data,sl⟩,ho,hc,n,hd⟩:=l1.isList;obtain⟨⟨cls2,dd2,data2,sl2⟩,ho2,hc2,n2',hd2⟩:=l2.isList;simp only at hc hd hc2 hd2;subst hc hd hc2 hd2;refine concat_meets ⟨_,ho,rfl⟩ ⟨_,ho2,rfl⟩ noFill_list_add seq_list_add PySem.F.slot_list_add PySem.F.entry_list_add (PySem.F.args_list_add_2 _ _) (list_addW p p' Bn.toArray its2.toArray n n2' dd dd2 sl sl2 (by simp;ext)) ⟨ho,ho2,?_⟩;have e:Bn.toArray++its2.toArray=(Bn++its2).toArray:=by simp
 rw[e];exact⟨.ref _,_,I.lnew (r1.append r2) (by rw[As];ext),rfl,q _ I.fresh⟩
def Tb:K2:=λx y M Q=>Cp (Bh M x) λxs=>Cp (Bh M y) λys=>xs.length+ys.length<=An/\Q (.lst (xs++ys)) M
def XA:K2:=λx y M Q=>Cp (Bh M x) λxs=>Cp (Bh M y) λys=>xs.length+ys.length<=An/\∀p,M p=none->Q (.ref p) (put M p (.lst (xs++ys)))
theorem ZR:Cf X (By .Add) Tb:=by
 intro Af s U H x y v u Q I rx ry h;symm;obtain⟨Z,dx,dy,M,Q2,hr,ax,ay,h,k⟩:=h;cutsat;obtain⟨xs,e1,h1⟩:=Cn h;obtain⟨ys,e2,hz,q⟩:=Cn h1;obtain⟨p,vs,rfl,hs,a⟩:=hr.rdL e1 ax;obtain⟨p',ws,rfl,hs',a'⟩:=hr.rdL e2 ay;cases(show v=AC p from rx);cases(show u=AC p' from ry);have l1:=a.length;have l2:=a'.length;exact rX I hs hs' (by ext) λl hl=>k.f hr hl (a.append a') q
theorem jj:Cf X (By .Add) XA:=by
 intro Af s U H x y v u Q I rx ry h;symm;obtain⟨Z,dx,dy,M,Q2,hr,ax,ay,h,k⟩:=h;cutsat;obtain⟨xs,e1,h1⟩:=Cn h;obtain⟨ys,e2,hz,q⟩:=Cn h1;obtain⟨p,vs,rfl,hs,a⟩:=hr.rdL e1 ax;obtain⟨p',ws,rfl,hs',a'⟩:=hr.rdL e2 ay;cases(show v=AC p from rx);cases(show u=AC p' from ry);have l1:=a.length;have l2:=a'.length;exact rX I hs hs' (by ext) λl hl=>k.l hr hl (a.append a') q
noncomputable def EK (f:D->D->Option Bool):List D->List D->Option Bool
 |[],[]=>some true
 |[],_::_=>some false
 |_::_,[]=>some false
 |x::xs,y::ys=>match f x y,EK f xs ys with
  |some a,some b=>some (a && b)
  |_,_=>none
noncomputable def De (M:Mp):Nat->D->D->Option Bool
 |0,x,y=>if DQ x && DQ y then some (KJ x y)else none
 |n+1,x,y=>if DQ x && DQ y then some (KJ x y)else match x,y with
  |.tup xs,.tup ys=>EK (De M n) xs ys
  |x,y=>match Bh M x,Bh M y with
   |some xs,some ys=>EK (De M n) xs ys
   |_,_=>none
theorem nP (ax:At Z x d)(ay:At Z y e)(f1:DQ d=true)(f2:DQ e=true):Hi x=true/\Hi y=true/\QI x y=KJ d e:=by
 cases d<;>first
  |exact absurd f1 Am
  | (cases e<;>first
    |exact absurd f2 Am
    | (subst ax;subst ay;refine ⟨rfl,rfl,?_⟩;simp [QI,KJ,NT]))
theorem Tz :∀{xs ys:List D}{b:Bool},EK f xs ys=some b->∃e:Nat->Bool,(∀(j:Nat) x y,xs[j]? = some x->ys[j]? = some y->f x y=some (e j)) /\
  ((Bu (min xs.length ys.length)).all e && xs.length == ys.length)=b
 |[],[],b,h=>⟨λ_=>true,λj x y h=>by simp at h,by cases h;rfl⟩
 |[],y::ys,b,h=>⟨λ_=>true,λj x y h=>by simp at h,by cases h;simp⟩
 |x::xs,[],b,h=>⟨λ_=>true,λj x y _ h=>by simp at h,by cases h;simp⟩
 |x::xs,y::ys,b,h=>by
  unfold EK at h;split at h
  .next a c ha hc=>
   cases h;obtain⟨e,he,hb⟩:=Tz hc;refine⟨λj=>match j with | 0=>a | j+1=>e j,λj x' y' h1 h2=>?_,?_⟩
   .cases j with
    |zero=>
     have e1:x=x':=by simpa using h1
     have e2:y=y':=by simpa using h2
     rw[<- e1,<- e2];exact ha
    |succ j=>exact he j x' y' (by simpa using h1) (by simpa using h2)
   .rw[AO,AO,Nat.succ_min_succ,EF,F5,Vl,<- hb];have:((λj=>match j with | 0=>a | j+1=>e j) ∘ Nat.succ:Nat->Bool)=e:=rfl;rw[this,Bool.and_assoc];congr 2
    simp
  .cases h
theorem UG (r:BJ vs us)(a:Dw Z vs ds)(j:Nat)(h:j<us.toArray.size):∃v d,vs[j]? = some v/\ds[j]? = some d/\At Z v d/\RelV v us.toArray[j]:=by
 have l1:=r.length;have k1:j<vs.length:=by rw[l1];simpa using h
 have e:=Ag k1;obtain⟨u,e1,q1⟩:=r.get e;obtain⟨d,e2,q2⟩:=a.got e
 have z1:us.toArray[j]=u:=by
  obtain⟨_,z⟩:=Ai.mp e1;simpa using z
 exact⟨_,d,e,e2,q2,by rw[z1];exact q1⟩
theorem rB (h:k=true):Eu A s (.ref p) (.ref p) k:=by rw[h];exact NK _
theorem rZ (I:A6 X Af U H s)(hr:HR X.K H M Z):∀n {v:V}{x y:D}{b:Bool},At Z v x->At Z v y->De M n x y=some b->b=true:=by
 have flat:∀{v:V} {x y:D},At Z v x->At Z v y->DQ x=true->DQ y=true->KJ x y=true:=λ{v x y} ax ay f1 f2=>by
  cases x<;>first
   |exact absurd f1 Am
   | (cases y<;>first
     |exact absurd f2 Am
     | (rw [show v=_ from ax] at ay;cases ay<;>simp [KJ]))
 intro n;induction n with
 |zero=>
  intro v x y b ax ay h;unfold De at h;split at h
  .next f=>
   rw[BM]at f;cases h;exact flat ax ay f.1 f.2
  .cases h
 |succ n ih=>
  intro v x y b ax ay h;unfold De at h;split at h
  .next f=>
   rw[BM]at f;cases h;exact flat ax ay f.1 f.2
  .have lists:∀{vs:List V} {xs ys:List D},Dw Z vs xs->Dw Z vs ys->EK (De M n) xs ys=some b->b=true:=λ{vs xs ys} a1 a2 hc=>by
    obtain⟨e,he,hb⟩:=Tz hc;have l1:=a1.length;have l2:=a2.length;rw[<- hb,BM];refine⟨CP.mpr λj hj=>?_,by simp;ext⟩;have hj':=CB.mp hj;have k1:j<xs.length:=by ext
    have k2:j<ys.length:=by ext
    obtain⟨v1,e1,q1⟩:=a1.get (Ag k1);obtain⟨v2,e2,q2⟩:=a2.get (Ag k2);rw[e1]at e2;cases e2;exact ih q1 q2 (he j _ _ (Ag k1) (Ag k2))
   split at h
   .obtain⟨p,vs,rfl,hs,a1⟩:=hr.rdT ax;obtain⟨p',ws,e,hs',a2⟩:=hr.rdT ay;cases e;rw[I.tuple_inj hs' hs]at a2;exact lists a1 a2 h
   .split at h
    .next e1 e2=>
     obtain⟨p,vs,rfl,hs,a1⟩:=hr.rdL e1 ax;obtain⟨p',ws,e,hs',a2⟩:=hr.rdL e2 ay;cases e;rw[I.list_inj hs' hs]at a2;exact lists a1 a2 h
    .cases h
theorem ZN (I:A6 X Af U H s)(hr:HR X.K H M Z):∀n {A:Bq}{v w:V}{x y:D}{u u':Ad}{b:Bool},At Z v x->At Z w y->RelV v u->RelV w u'->A.units+n<Dh->De M n x y=some b->Eu A s u u' b:=by
 have flat:∀{A:Bq} {v w:V} {x y:D} {u u':Ad},At Z v x->At Z w y->RelV v u->RelV w u'->DQ x=true->DQ y=true->Eu A s u u' (KJ x y):=λ{A v w x y u u'} ax ay rx ry f1 f2=>by
  obtain⟨k1,k2,k3⟩:=nP ax ay f1 f2;rw[<- k3];exact oG rx ry k1 k2
 intro n;induction n with
 |zero=>
  intro A v w x y u u' b ax ay rx ry hu h;unfold De at h;split at h
  .next f=>
   rw[BM]at f;cases h;exact flat ax ay rx ry f.1 f.2
  .cases h
 |succ n ih=>
  intro A v w x y u u' b ax ay rx ry hu h;have h0:=h;unfold De at h;split at h
  .next f=>
   rw[BM]at f;cases h;exact flat ax ay rx ry f.1 f.2
  .have hu1:A.in1.units+n<Dh:=by show A.units+1+n<Dh;ext
   have hu0:A.units<Dh:=by ext
   have items:∀{vs ws:List V} {xs ys:List D} {Bn its2:List Ad} {e:Nat->Bool},BJ vs Bn->BJ ws its2->Dw Z vs xs->Dw Z ws ys->(∀(j:Nat) x y,xs[j]? = some x->ys[j]? = some y->De M n x y=some (e j)) ->
     ∀j (h1:j<Bn.toArray.size) (h2:j<its2.toArray.size),Eu A.in1 s Bn.toArray[j] its2.toArray[j] (e j):=λ{vs ws xs ys Bn its2 e} r1 r2 a1 a2 he j h1 h2=>by
    obtain⟨v1,d1,_,e1,q1,z1⟩:=UG r1 a1 j h1;obtain⟨v2,d2,_,e2,q2,z2⟩:=UG r2 a2 j h2;exact ih q1 q2 z1 z2 hu1 (he j d1 d2 e1 e2)
   split at h
   .obtain⟨p,vs,rfl,hs,a1⟩:=hr.rdT ax;obtain⟨p',ws,rfl,hs',a2⟩:=hr.rdT ay;cases(show u=AC p from rx);cases(show u'=AC p' from ry);obtain⟨Bn,r1,t1,_⟩:=I.tuple hs;obtain⟨its2,r2,t2,_⟩:=I.tuple hs';obtain⟨e,he,hb⟩:=Tz h;by_cases hp:p=p'
    .subst hp;exact rB (rZ I hr _ ax ay h0)
    .have l1:=a1.length;have l2:=a2.length;have m1:=r1.length;have m2:=r2.length;have z:=HP hp (SeqAt.RcAt.tuples t1 t2 hu0 (items r1 r2 a1 a2 he));rw[show Bn.toArray.size=(_:List D).length by simp;rw[<- m1,l1],show its2.toArray.size=(_:List D).length by simp;rw[<- m2,l2],hb]at z;exact z
   .split at h
    .next xs ys e1 e2=>
     obtain⟨p,vs,rfl,hs,a1⟩:=hr.rdL e1 ax;obtain⟨p',ws,rfl,hs',a2⟩:=hr.rdL e2 ay;cases(show u=AC p from rx);cases(show u'=AC p' from ry);obtain⟨Bn,r1,t1,_⟩:=I.list hs;obtain⟨its2,r2,t2,_⟩:=I.list hs';obtain⟨e,he,hb⟩:=Tz h;by_cases hp:p=p'
     .subst hp;exact rB (rZ I hr _ ax ay h0)
     .have l1:=a1.length;have l2:=a2.length;have m1:=r1.length;have m2:=r2.length;have s1:Bn.toArray.size=xs.length:=by simp;ext
      have s2:its2.toArray.size=ys.length:=by simp;ext
      by_cases hl:xs.length=ys.length
      .have z:=HP hp (SeqAt.RcAt.lists t1.isList t2.isList (by ext) hu0 (items r1 r2 a1 a2 he));rw[s1]at z;rw[<- hb,hl,La];rw[hl]at z;simpa using z
      .have z:=HP hp (SeqAt.RcAt.lists_lengths t1.isList t2.isList (by rw[s1,s2];simpa using hl) hu0);rw[<- hb,show(xs.length == ys.length)=false by simpa using hl,DO];exact z
    .cases h
def MR (neg:Bool):K2:=λx y M Q=>match x,y with
 |.tup xs,.tup ys=>Cp (EK (De M 40) xs ys) λb=>Q (.bl (if neg then !b else b)) M
 |x,y=>Cp (Bh M x) λxs=>Cp (Bh M y) λys=>Cp (EK (De M 40) xs ys) λb=>Q (.bl (if neg then !b else b)) M
theorem aX {A:Bq}(I:A6 X Af U H s)(hr:HR X.K H M Z)(hu:A.units+41<Dh){e:Nat->Bool}(r1:BJ vs Bn)(r2:BJ ws its2)(a1:Dw Z vs xs)(a2:Dw Z ws ys)
  (he:∀(j:Nat) x y,xs[j]? = some x->ys[j]? = some y->De M 40 x y=some (e j)):∀j (h1:j<Bn.toArray.size) (h2:j<its2.toArray.size),Eu A.in1 s Bn.toArray[j] its2.toArray[j] (e j):=λj h1 h2=>by
 obtain⟨v1,d1,_,e1,q1,z1⟩:=UG r1 a1 j h1;obtain⟨v2,d2,_,e2,q2,z2⟩:=UG r2 a2 j h2;exact ZN I hr 40 q1 q2 z1 z2 (by show A.units+1+40<Dh;ext) (he j d1 d2 e1 e2)
theorem tX (h:MR neg x y M Q):∃xs ys b,EK (De M 40) xs ys=some b/\Q (.bl (if neg then !b else b)) M/\((x=.tup xs/\y=.tup ys)\/(Bh M x=some xs/\Bh M y=some ys)):=by
 unfold MR at h;split at h
 .obtain⟨b,e,q⟩:=Cn h;exact⟨_,_,b,e,q,.inl ⟨rfl,rfl⟩⟩
 .obtain⟨xs,e1,h1⟩:=Cn h;obtain⟨ys,e2,h2⟩:=Cn h1;obtain⟨b,e,q⟩:=Cn h2;exact⟨_,_,b,e,q,.inr ⟨e1,e2⟩⟩
theorem hW (hu:X.A.units+41<Dh):Cf X (A9 .Eq) (MR false):=by
 intro Af s U H x y v u Q I rx ry h;symm;obtain⟨Z,dx,dy,M,Q2,hr,ax,ay,h,k⟩:=h;cutsat;obtain⟨xs,ys,b,hc,q,h|h⟩:=tX h
 .obtain⟨rfl,rfl⟩:=h;obtain⟨p,vs,rfl,hs,a1⟩:=hr.rdT ax;obtain⟨p',ws,rfl,hs',a2⟩:=hr.rdT ay;cases(show v=AC p from rx);cases(show u=AC p' from ry);obtain⟨Bn,r1,t1,_⟩:=I.tuple hs;obtain⟨its2,r2,t2,_⟩:=I.tuple hs';obtain⟨e,he,hb⟩:=Tz hc;have l1:=a1.length;have l2:=a2.length;have m1:=r1.length;have m2:=r2.length;refine SeqAt.eq_tupleAt t1 t2 (by ext) (aX I hr hu r1 r2 a1 a2 he) ⟨.bl b,H,I,?_,k.b hr q⟩;rw[show Bn.toArray.size=xs.length by simp;ext,show its2.toArray.size=ys.length by simp;ext,hb];rfl
 .obtain⟨e1,e2⟩:=h;obtain⟨p,vs,rfl,hs,a1⟩:=hr.rdL e1 ax;obtain⟨p',ws,rfl,hs',a2⟩:=hr.rdL e2 ay;cases(show v=AC p from rx);cases(show u=AC p' from ry);obtain⟨Bn,r1,t1,_⟩:=I.list hs;obtain⟨its2,r2,t2,_⟩:=I.list hs';obtain⟨e,he,hb⟩:=Tz hc;have l1:=a1.length;have l2:=a2.length;have m1:=r1.length;have m2:=r2.length;have s1:Bn.toArray.size=xs.length:=by simp;ext
  have s2:its2.toArray.size=ys.length:=by simp;ext
  by_cases hl:xs.length=ys.length
  .refine SeqAt.eq_listAt t1.isList t2.isList (by ext) (by ext) (aX I hr hu r1 r2 a1 a2 he) ⟨.bl b,H,I,?_,k.b hr q⟩;rw[s1,<- hb,hl,La];simp[L2.RelV]
  .refine SeqAt.eq_list_lengthsAt t1.isList t2.isList (by rw[s1,s2];simpa using hl) (by ext) ⟨.bl b,H,I,?_,k.b hr q⟩;rw[<- hb,show(xs.length == ys.length)=false by simpa using hl,DO];rfl
theorem VR (hu:X.A.units+41<Dh):Cf X (A9 .NotEq) (MR true):=by
 intro Af s U H x y v u Q I rx ry h;symm;obtain⟨Z,dx,dy,M,Q2,hr,ax,ay,h,k⟩:=h;cutsat;obtain⟨xs,ys,b,hc,q,h|h⟩:=tX h
 .obtain⟨rfl,rfl⟩:=h;obtain⟨p,vs,rfl,hs,a1⟩:=hr.rdT ax;obtain⟨p',ws,rfl,hs',a2⟩:=hr.rdT ay;cases(show v=AC p from rx);cases(show u=AC p' from ry);obtain⟨Bn,r1,t1,_⟩:=I.tuple hs;obtain⟨its2,r2,t2,_⟩:=I.tuple hs';obtain⟨e,he,hb⟩:=Tz hc;have l1:=a1.length;have l2:=a2.length;have m1:=r1.length;have m2:=r2.length;refine YU t1 t2 (by ext) (aX I hr hu r1 r2 a1 a2 he) _ _ _ _ ⟨.bl (!b),H,I,?_,k.b hr q⟩;rw[show Bn.toArray.size=xs.length by simp;ext,show its2.toArray.size=ys.length by simp;ext,hb];rfl
 .obtain⟨e1,e2⟩:=h;obtain⟨p,vs,rfl,hs,a1⟩:=hr.rdL e1 ax;obtain⟨p',ws,rfl,hs',a2⟩:=hr.rdL e2 ay;cases(show v=AC p from rx);cases(show u=AC p' from ry);obtain⟨Bn,r1,t1,_⟩:=I.list hs;obtain⟨its2,r2,t2,_⟩:=I.list hs';obtain⟨e,he,hb⟩:=Tz hc;have l1:=a1.length;have l2:=a2.length;have m1:=r1.length;have m2:=r2.length;have s1:Bn.toArray.size=xs.length:=by simp;ext
  have s2:its2.toArray.size=ys.length:=by simp;ext
  by_cases hl:xs.length=ys.length
  .refine YW t1.isList t2.isList (by ext) (by ext) (aX I hr hu r1 r2 a1 a2 he) _ _ _ _ ⟨.bl (!b),H,I,?_,k.b hr q⟩;rw[s1,<- hb,hl,La];simp[L2.RelV]
  .refine YV t1.isList t2.isList (by rw[s1,s2];simpa using hl) (by ext) _ _ _ _ ⟨.bl (!b),H,I,?_,k.b hr q⟩;rw[<- hb,show(xs.length == ys.length)=false by simpa using hl,DO];rfl
def mN (neg:Bool):K2:=λx y M Q=>Cp (HH M y) λys=>ys.all DQ=true/\DQ x=true/\Q (.bl (if neg then !(ys.any λz=>KJ z x)else ys.any λz=>KJ z x)) M
theorem vj (a:At Z v d)(f:DQ d=true):Hi v=true:=by
 cases d<;>first
  |exact absurd f Am
  |(subst a;rfl)
theorem sF (ax:At Z x dx)(fx:DQ dx=true):∀{vs:List V}{ds:List D},Dw Z vs ds->ds.all DQ=true->vs.all Hi=true/\ZA x vs=ds.any λz=>KJ z dx
 |_,_,.nil,_=>⟨rfl,rfl⟩
 |v::vs,d::ds,.cons a t,f=>by
  rw[F5,BM]at f;obtain⟨h1,h2⟩:=sF ax fx t f.2;obtain⟨k1,k2,k3⟩:=nP a ax f.1 fx;refine⟨by rw[F5,k1,h1];rfl,?_⟩;show(QI v x || ZA x vs)=(KJ d dx || _);rw[k3,h2]
theorem O7:Cf X (A9 .In) (mN false):=Gb.mono Zok (by
 intro x y H Q hI';symm;obtain ⟨Z,dx,dy,M,Q2,hr,ax,ay,h,k⟩:=hI';cutsat;obtain ⟨ys,e,f,fx,q⟩:=Cn h;obtain ⟨p,vs,rfl,hs,a⟩:=hr.rdS e ay;obtain ⟨h1,h2⟩:=sF ax fx a f;exact ⟨p,vs,rfl,hs,vj ax fx,h1,by rw [h2];exact k.b hr q⟩)
end
def Ro (x:D)(k:B7->Prop):Prop:=match x with
 |.int i=>k (.inl i)
 |.str z=>k (.inr z)
 |_=>False
noncomputable def kD:B7->D
 |.inl i=>.int i
 |.inr z=>.str z
theorem QC (h:Ro x k):∃i,x=kD i/\k i:=by
 cases x with
 |int i=>exact⟨.inl i,rfl,h⟩
 |str i=>exact⟨.inr i,rfl,h⟩
 |_=>exact h.elim
theorem VQ (a:At Z v (kD k)):v=kV k:=by cases k<;>exact a
noncomputable def DU (M:Mp):D->Option (List (B7×D))
 |.dic AR=>some AR
 |.ref p=>match M p with
  |some (.dic AR)=>some AR
  |_=>none
 |_=>none
noncomputable def Du (AR:List (B7×D))(k:B7):Option D:=(AR.find? λkv=>decide (kv.1=k)).map (·.2)
noncomputable def Ht (AR:List (B7×D))(k:B7)(v:D):List (B7×D):=if AR.any (λkv=>decide (kv.1=k))then AR.map λkv=>if kv.1=k then(kv.1,v)else kv else AR++[(k,v)]
section
variable {K:Ac}
theorem HR.rdD (h:HR K H M Z)(e:DU M d=some ds)(a:At Z v d):∃p vs,v=.ref p/\Rd H p (.dK vs)/\Cw Z vs ds:=by
 cases d with
 |dic xs=>
  cases e;obtain⟨p,rfl,z⟩:=a;rcases h.z p _ z with⟨vs,r,a⟩|k
  .exact⟨p,vs,rfl,r,a⟩
  .exact k.elim
 |ref p=>
  cases(show v=.ref p from a);unfold DU at e;simp only at e;split at e
  .next q=>
   cases e;obtain⟨vs,r,a⟩:=h.rdMD q;exact⟨p,vs,rfl,.inl r,a⟩
  .cases e
 |_=>cases e
theorem Cw.length (h:Cw Z vs ds):vs.length=ds.length:=D7 h
theorem Cw.val :∀{vs:List (B7×V)}{ds:List (B7×D)},Cw Z vs ds->(Du ds k=none/\FU vs k=none)\/∃d v,Du ds k=some d/\FU vs k=some v/\At Z v d
 |_,_,.nil=>.inl ⟨rfl,rfl⟩
 |(k1,v)::vs,(k2,d)::ds,.cons r t=>by
  obtain⟨e,a⟩:=r;have e':=e;subst e';by_cases hk:k1=k
  .exact .inr ⟨d,v,by simp[Du,Ct,hk],by simp[FU,Ct,hk],a⟩
  .have h1:Du ((k1,d)::ds) k=Du ds k:=by simp[Du,Ct,hk]
   have h2:FU ((k1,v)::vs) k=FU vs k:=by simp[FU,Ct,hk]
   rw[h1,h2];exact Cw.val t
theorem Cw.isSome (h:Cw Z vs ds):(FU vs k).isSome=(Du ds k).isSome:=by
 rcases h.val with⟨e1,e2⟩|⟨d,v,e1,e2,_⟩<;>rw[e1,e2]<;>rfl
theorem Cw.any :∀{vs:List (B7×V)}{ds:List (B7×D)},Cw Z vs ds->(vs.any λkv=>decide (kv.1=k))=ds.any λkv=>decide (kv.1=k)
 |_,_,.nil=>rfl
 |(k1,v)::vs,(k2,d)::ds,.cons r t=>by
  have e':=r.1;rw[Fy,Fy,Cw.any t,e']
theorem Cw.append:∀{xs ys:List (B7×V)}{us ws:List (B7×D)},Cw Z xs us->Cw Z ys ws->Cw Z (xs++ys) (us++ws)
 |_,_,_,_,.nil,s=>s
 |_,_,_,_,.cons r t,s=>.cons r (Cw.append t s)
theorem Cw.repl (a:At Z v d):∀{vs:List (B7×V)}{ds:List (B7×D)},Cw Z vs ds->Cw Z (vs.map λkv=>if kv.1=k then(kv.1,v)else kv) (ds.map λkv=>if kv.1=k then(kv.1,d)else kv)
 |_,_,.nil=>.nil
 |(k1,v1)::vs,(k2,d1)::ds,.cons r t=>by
  have e':=r.1;subst e';rw[AQ,AQ];refine .cons ?_ (Cw.repl a t);by_cases h:k1=k
  .rw[if_pos h,if_pos h];exact⟨rfl,a⟩
  .rw[if_neg h,if_neg h];exact r
theorem Cw.put (a:At Z v d)(h:Cw Z vs ds):Cw Z (putK vs k v) (Ht ds k d):=by
 unfold putK Ht;rw[h.any];split
 .exact h.repl a
 .exact h.append (.cons ⟨rfl,a⟩ .nil)
end
section
def S1:D3:=λ_ M Q=>∀p,M p=none->Q (.ref p) (put M p (.dic []))
theorem Jl:B5 X (.Dict [] [] pos) S1:=PE.mono Δ λU H Q ⟨Z,τ,M,Q2,st,hr,h,k⟩ p hp=>k.d hr hp .nil h
def Kz (o:Option MO)(k:List (B7×D)->Prop):Prop:=match o with
 |some (.dic AR)=>k AR
 |_=>False
theorem iA (h:Kz o k):∃AR,o=some (.dic AR)/\k AR:=by
 unfold Kz at h;split at h
 .exact⟨_,rfl,h⟩
 .exact h.elim
def S0 (td ty tv:D3):GU:=λE τ M=>tv τ M λv M1=>td τ M1 λx M2=>ty τ M2 λy M3=>JZ x λp=>Ro y λk=>Kz (M3 p) λAR=>AR.length<An/\E.nx τ (put M3 p (.dic (Ht AR k v)))
theorem V2 (hu:X.A.units+1<Dh)(ho:B5 X o td)(hi:B5 X i ty)(hv:B5 X value tv)(hs:D4 value (some (.Subscript o i pos')) pos.line X.env=pure false) :
  GV X (.Assign [.Subscript o i pos'] value pos) (S0 td ty tv):=PS.mono (wu hu ho hi hv hs) (by
 intro D U H hI';symm;obtain ⟨Z,τ,M,D2,st,hr,h,er⟩:=hI';cutsat;refine lE.bind st hr h λZ1 v dv H1 M1 l1 h1 a1 q1=>lE.bind (st.mono l1) h1 q1 λZ2 x dx H2 M2 l2 h2 a2 q2=>lE.bind (st.mono (l1.trans l2)) h2 q2 λZ3 y dy H3 M3 l3 h3 a3 q3=>?_;obtain ⟨p,rfl,q4⟩:=Ik q3;obtain ⟨k,rfl,q5⟩:=QC q4;cases (show x=V.ref p from a2);cases VQ a3;obtain ⟨AR,e,hl,q⟩:=iA q5;obtain ⟨ks,r,a4⟩:=h3.rdMD e;refine ⟨p,_,rfl,Q4.k r (by rw [a4.length];exact hl),?_⟩;exact lS.nx (er.le (l1.trans (l2.trans l3))) (st.mono (l1.trans (l2.trans l3))) (h3.chgD e (a4.put (a1.mono (l2.trans l3)))) q)
def S2 (td ty:D3):D3:=λτ M Q=>td τ M λx M1=>ty τ M1 λy M2=>Cp (DU M2 x) λAR=>Ro y λk=>Cp (Du AR k) λv=>Q v M2
theorem Fl (hu:X.A.units+1<Dh)(ho:B5 X o td)(hi:B5 X i ty)(hs:U0 i):B5 X (.Subscript o i pos) (S2 td ty):=PE.mono (u6 hu ho hi hs) (by
 sleep 3;refine lE.bind st hr h λZ1 x dx H1 M1 l1 h1 a1 q1=>lE.bind (st.mono l1) h1 q1 λZ2 y dy H2 M2 l2 h2 a2 q2=>?_;obtain⟨AR,e,q3⟩:=Cn q2;obtain⟨k',rfl,q4⟩:=QC q3;obtain⟨d,e2,q⟩:=Cn q4;obtain⟨p,ks,rfl,r,a3⟩:=h2.rdD e (a1.mono l2);cases VQ a2;rcases a3.val with⟨z,_⟩|⟨d',v,z,zv,av⟩
 .rw[e2]at z;cases z
 .rw [e2] at z;cases z;exact ⟨p,v,rfl,.inl ⟨ks,k',r,rfl,zv.symm⟩,(k.le (l1.trans l2)).v h2 av q⟩)
def Ue (neg:Bool):K2:=λx y M Q=>Cp (DU M y) λAR=>Ro x λk=>Q (.bl (if neg then !(Du AR k).isSome else(Du AR k).isSome)) M
theorem j7 (hu:X.A.units+1<Dh):Cf X (A9 .In) (Ue false):=by
 intro Af s U H x y v u Q I rx ry h;symm;obtain⟨Z,dx,dy,M,Q2,hr,ax,ay,h,k⟩:=h;cutsat;obtain⟨AR,e,h1⟩:=Cn h;obtain⟨k',rfl,q⟩:=QC h1;obtain⟨p,ks,rfl,r,a3⟩:=hr.rdD e ay;cases VQ ax;cases(show u=AC p from ry);refine gJ hu I (.inl ⟨ks,k',r,rfl,rfl⟩) rx λs' I'=>⟨.bl _,H,I',rfl,?_⟩;rw[a3.isSome];exact k.b hr q
theorem ς (hu:X.A.units+1<Dh):Cf X (A9 .NotIn) (Ue true):=by
 intro Af s U H x y v u Q I rx ry h;symm;obtain⟨Z,dx,dy,M,Q2,hr,ax,ay,h,k⟩:=h;cutsat;obtain⟨AR,e,h1⟩:=Cn h;obtain⟨k',rfl,q⟩:=QC h1;obtain⟨p,ks,rfl,r,a3⟩:=hr.rdD e ay;cases VQ ax;cases(show u=AC p from ry);refine vg hu I (.inl ⟨ks,k',r,rfl,rfl⟩) rx λs' I'=>⟨.bl _,H,I',rfl,?_⟩;rw[a3.isSome];exact k.b hr q
theorem ju (h:(BV P w).is k v=true):L2.RelV (kV k) v:=by
 rw[ZmG]at h;rcases Rw h with⟨i,t,rfl,rfl⟩|⟨x,t,rfl,rfl⟩
 .exact⟨t,rfl⟩
 .exact⟨t,rfl⟩
theorem uD:Cf X (By .Add) (λx y M Q=>Gh x λi=>Gh y λj=>i.length+j.length<=An/\Q (.str (i++j)) M):=Gb.mono Zmy (by
 intro x y H Q hI';symm;obtain ⟨Z,dx,dy,M,Q2,hr,ax,ay,h,k⟩:=hI';cutsat;obtain ⟨i,rfl,h1⟩:=Ea h;obtain ⟨j,rfl,hz,q⟩:=Ea h1;exact ⟨i,j,ax,ay,hz,k.s hr q⟩)
theorem gX (a:Dw Z vs [d,e,f]):∃v w u,vs=[v,w,u]/\At Z v d/\At Z w e/\At Z u f:=by
 cases a with
 |cons a1 a2=>obtain⟨w,u,rfl,a3,a4⟩:=Pd a2;exact⟨_,w,u,rfl,a1,a3,a4⟩
end
section
variable (P:AX)(w:Bj)
end
section
open MeetsSeq MeetsSeq2 MeetsSeq3 SeqRoads2
end
theorem Wj :∀{AR:List (B7×D)},(AR.map (·.1)).Nodup->(k,d)∈AR->Du AR k=some d
 |(k1,d1)::r,hn,hm=>by
  obtain⟨n1,n2⟩:=FN.mp hn;rcases A5.mp hm with h|h
  .cases h;simp[Du,Ct]
  .have ne:¬k1=k:=λe=>n1 (by rw[e];exact Ap.mpr ⟨(k,d),h,rfl⟩);have h3:Du ((k1,d1)::r) k=Du r k:=by simp[Du,Ct,ne]
   rw[h3];exact Wj n2 h
theorem Cw.keysEq :∀{vs:List (B7×V)}{ds:List (B7×D)},Cw Z vs ds->vs.map (·.1)=ds.map (·.1)
 |_,_,.nil=>rfl
 |(k1,v1)::vs,(k2,d1)::ds,.cons r t=>by
  have e':=r.1;rw[AQ,AQ,Cw.keysEq t,e']
section
end
section
variable {X:Cx}
end
end L3
namespace L2
open PySem PySem.Spec PyProof.Rows L3
theorem xF {Q:St->Hp->Prop}{H:Hp}{Db:St}:∀us (done:List (Option V)) (vs:List (Option V)),vs.length=us.length->Q (done++us.map some++Db) H->Gs (OB done.length us.length) us (done++vs++Db) H Q
 |[],done,vs,hl,q=>by
  have e:=AG hl;subst e;exact⟨rfl,q⟩
 |u::us,done,[],hl,q=>by cases hl
 |u::us,done,v::vs,hl,q=>by
  rw[AO,List.range'_succ];refine⟨u,us,rfl,?_⟩
  have e1:(done++v::vs++Db).set done.length (some u)=(done++[some u])++vs++Db:=by
   rw[Bs,List.set_append_right _ _ (AJ _),Jv];simp
  show Gs (OB (done.length+1) us.length) us ((done++v::vs++Db).set done.length (some u)) H Q;rw[e1];have z:=xF us (done++[some u]) vs (GQ hl) (by simpa using q);rw[As,EY]at z;exact z
theorem Zln {n:Nat}{Q:St->Hp->Prop}(hv:vs.length=n)(hu:us.length=n)(q:Q (Fo U caps (us.map some)) H) :
  Gs (Bu n) us (Fo U caps vs) H Q:=by
 have z:=xF us [] vs (hv.trans hu.symm) (by simpa[Fo]using q);rw[List.range_eq_range',<- hu];exact z
def N3 (wi:TI)(k:Nat)(caps:List (Str×Nat))(tt:TT)(te:TE)(K:Ac):TE:=λU H Q=>wi U H λJ H1=>∃(n:Nat) (W:Nat->List V->Hp->Prop),W 0 [] H1/\∀i ys H,W i ys H ->
 (J.stop i H/\ys.length<=An/\∀p,H p=none->Q (.ref p) (CF H p (.lst ys))) \/
 (J.go i H/\i<n/\ys.length<An/\∀v H',J.yld i H v H'->∃a us,v=.ref a/\LC K H' a us/\us.length=k/\tt (Fo U caps (us.map some)) H' λb H2=>if b=true then te (Fo U caps (us.map some)) H2 λy H3=>W (i+1) (ys++[y]) H3 else W (i+1) ys H2)
section
theorem Zn3 {Q:VK}{RR:Ad->Ao->Qg->Aj->Prop}(B:KN X scope x ns caps)(hc:X.calm=true)
  (he:∀cl C fp pn s H,PE (GS X scope cl C (x::(ns++caps.map (·.1))) fp pn s H) elt te) (hif:∀cl C fp pn s H,HL (GS X scope cl C (x::(ns++caps.map (·.1))) fp pn s H) ifs tt)
  (hg:∀cl C fp pn s H,TF (GS X scope cl C (x::(ns++caps.map (·.1))) fp pn s H) tes (Gs (Bu (ns.length+1)))) (hgn:∀cl C fp pn s H,(CW tes (GS X scope cl C (x::(ns++caps.map (·.1))) fp pn s H).env).length=ns.length+1) (hgf:∀cl C fp pn s H,Mz (λy=>y.1) (CW tes (GS X scope cl C (x::(ns++caps.map (·.1))) fp pn s H).env)=none)
  (hRR:∀D C s' H' ys m,A6 X Af U (CF H' D (.lst ys)) s'->Jq X Af (CF H' D (.lst ys)) C->s'.heap.Ns C m->Q (.ref D) (CF H' D (.lst ys))->RR (.ref D) C (.ok .next) s')
  (h:YH X Af U (.Tuple tes tk px) (λJ H1=>∃ (n:Nat) (W:Nat->List V->Hp->Prop),W 0 [] H1/\∀ i ys H,W i ys H ->
   (J.stop i H/\ys.length<=An/\∀p,H p=none->Q (.ref p) (CF H p (.lst ys))) \/
   (J.go i H/\i<n/\ys.length<An/\∀ v H',J.yld i H v H'->∃ a us,v=.ref a/\LC X.K H' a us/\us.length=ns.length+1/\tt (Fo U caps (us.map some)) H' λb H2=>if b=true then te (Fo U caps (us.map some)) H2 λy H3=>W (i+1) (ys++[y]) H3 else W (i+1) ys H2)) it s₂) :
  Av (AA X.prog X.w) X.A (Qc []) (λacc s₃=>Av (AA X.prog X.w) X.A (NC scope X.env.globals (EC X.env scope.names []) [] X.env.qual none .none (some X.env)) (λcenv s₄ =>
   D0 (AA X.prog X.w) X.A (.compStart (.ListComp elt [⟨.Tuple tes tk px,iter,ifs,0⟩] scope pos) 0 it acc { cenv with scope:=relabel scope X.env }) (RR acc cenv.locals) s₄) E s₃) E s₂:=by
 refine vS (g:=QH X.K (ns.length+1) (Gs (Bu (ns.length+1)))) B hc he hif (λcl C fp pn s H=>pE (show(GS X scope cl C (x::(ns++caps.map (·.1))) fp pn s H).calm=true from hc) (hg cl C fp pn s H) (hgn cl C fp pn s H) (hgf cl C fp pn s H)) hRR ?_;symm;obtain⟨itA,fp,tn,J,H2,e,I2,T,st2,f2,n,W,w0,turn⟩:=h;cutsat;refine⟨itA,fp,tn,J,H2,e,I2,T,st2,f2,n,W,w0,λi ys H w=>(turn i ys H w).imp id λ⟨z1,z2,z3,st⟩=>⟨z1,z2,z3,λv H' y=>?_⟩⟩;obtain⟨a,us,ev,hs,hus,q⟩:=st v H' y;exact⟨us,hus,λo R ho r=>⟨a,us,ev,hs,hus,Zln ho hus r⟩,q⟩
theorem Β (B:KN X scope x ns caps)(hc:X.calm=true)(hi:PI X (.Tuple tes tk px) iter wi)
  (he:∀cl C fp pn s H,PE (GS X scope cl C (x::(ns++caps.map (·.1))) fp pn s H) elt te) (hif:∀cl C fp pn s H,HL (GS X scope cl C (x::(ns++caps.map (·.1))) fp pn s H) ifs tt)
  (hg:∀cl C fp pn s H,TF (GS X scope cl C (x::(ns++caps.map (·.1))) fp pn s H) tes (Gs (Bu (ns.length+1)))) (hgn:∀cl C fp pn s H,(CW tes (GS X scope cl C (x::(ns++caps.map (·.1))) fp pn s H).env).length=ns.length+1) (hgf:∀cl C fp pn s H,Mz (λy=>y.1) (CW tes (GS X scope cl C (x::(ns++caps.map (·.1))) fp pn s H).env)=none)
  (hs:∀x,BB iter X.env x=pure x:=by intro _;rfl):PE X (.ListComp elt [⟨.Tuple tes tk px,iter,ifs,0⟩] scope pos) (N3 wi (ns.length+1) caps tt te X.K):=by
 intro Af s U H Q I h;rw[eval_ListComp];have hcl:∀y∈scope.names,y.2=.free->∃c,X.env.cells.lookup y.1=some c:=λy hy hf=>I.ok.has y.1 (B.b.hfree y hy hf);refine HA rfl hs (kX hcl) B.b.kind B.b.hloc (Dv (hi Af s U H _ I h) λv s1 h1=>Dv h1 λitv s2 h2=>?_);refine Zn3 B hc he hif hg hgn hgf (λD C s' H' ys m I' f' hn q=>?_) h2;refine⟨m,hn,λh' sb=>⟨.ref D,CF H' D (.lst ys),?_,rfl,q⟩⟩;obtain⟨g0,g1,g2,g3,g4,g5⟩:=f';exact I'.turned (λb o hb e=>(sb.2 b hb).trans e) g0 g1 g3 g4 g5
end
theorem A6.turnedN {X:Cx}{Af:List (Ao×Obj)}{U:St}{H:Hp}{s:Aj}{h':BU}{t':Nat}{fp:List Ao}(I:A6 X Af U H s)(hf:∀b∈fp,Jq X Af H b)(k:∀b o,b∉fp->s.heap.get? b=some o->h'.get? b=some o):A6 X Af U H {s with heap:=h',toks:=t' }:=by
 have nit:∀b u,H b=some u->b∉fp:=λb u e z=>by rw[(hf b z).1]at e;cases e
 refine I.step (λb hb=>?_) (λb o _ _ hc e _=>k b o hc e) (λb o _ _ hc e _=>⟨o.slots,k b o hc e⟩) (λ_ _ _ _ n=>n)
  (λb o hc e=>⟨o,k b o hc e⟩) (λ_ _ e=>e) (λ_ _ _ e=>e) (λb ps e=>⟨#[],by rw[e];simp⟩) (λm hm=>?_) (λb u e=>?_) I.bare
 .obtain⟨f0,f1,f2,f3,f4,f5⟩:=hf b hb;exact⟨f3,f1,f4,f5⟩
 .obtain⟨o,es,ep,ho,r⟩:=hm;exact⟨o,es,ep,k _ o (λz=>(hf _ z).2.1 rfl) ho,r⟩
 .refine(I.hok b u e).stay (λc v hc q=>k c v ?_ q) (λ_ q=>q) λ_ _ q=>q;rcases hc with z|z
  .rw[z];exact nit b u e
  .exact nit c _ z
noncomputable def gt (K:Ac)(a b:Ao):It:=
  ⟨λi H=>∃ xs ys x y,FO K H a xs/\FO K H b ys/\xs[i]? = some x/\ys[i]? = some y,
   λi H v H'=>∃p x y,v=.ref p/\H p=none/\H'=CF H p (.tup [x,y])/\(∀xs,FO K H a xs->xs[i]? = some x)/\∀ys,FO K H b ys->ys[i]? = some y,
   λi H=>∃ xs ys,FO K H a xs/\FO K H b ys/\(xs.length<=i\/ys.length<=i)⟩
structure QP (z TI TO i1 i2 a b:Ao)(i:Nat)(h:BU):Prop where
 n1:TI≠z
 n2:TO≠z
 n3:i1≠z
 n4:i2≠z
 n5:TI≠TO
 n6:TI≠i1
 n7:TI≠i2
 n8:TO≠i1
 n9:TO≠i2
 n10:i1≠i2
 hz:IsZip h z TI TO .none
 ht:IsPair h TI (.ref i1) (.ref i2)
 ho:∃u v,IsPair h TO u v
 h1:h.IsListIter i1 a i
 h2:h.IsListIter i2 b i
theorem QP.apart {z TI TO i1 i2 a b:Ao}(t:QP z TI TO i1 i2 a b i h)(ha:h.IsList a us)(hb:h.IsList b vs):ZipApart z TI TO i1 i2 a b:=by
 obtain⟨u,v,ho⟩:=t.ho;obtain⟨o1,e1,c1,_⟩:=t.h1;obtain⟨o2,e2,c2,_⟩:=t.h2
 have key:∀{l:Ao} {ws:Array Ad},h.IsList l ws->l≠z/\l≠TO/\l≠i1/\l≠i2:=λ{l ws} ⟨o,e,c,_⟩=>by
  refine⟨λq=>?_,λq=>?_,λq=>?_,λq=>?_⟩
  .rw[q,t.hz]at e;cases e;exact absurd c (by simp)
  .rw[q,ho]at e;cases e;exact absurd c (by simp)
  .rw[q,e1]at e;cases e;rw[c1]at c;exact absurd c (by simp)
  .rw[q,e2]at e;cases e;rw[c2]at c;exact absurd c (by simp)
 obtain⟨a1,a2,a3,a4⟩:=key ha;obtain⟨b1,b2,b3,b4⟩:=key hb;exact⟨t.n1,t.n2,t.n3,t.n4,t.n5,t.n6,t.n7,t.n8,t.n9,t.n10,a1,a2,a3,a4,b1,b2,b3,b4⟩
theorem δ {K:Ac}(z TI TO i1 i2 a b:Ao):Mg P w K F (.Tuple es k pos) (gt K a b) [z,TI,TO,i1,i2] z (QP z TI TO i1 i2 a b) where
 mem:=by simp
 obj:=λi h st c hc=>by
  obtain⟨u,v,ho⟩:=st.ho;obtain⟨o1,e1,_,d1⟩:=st.h1;obtain⟨o2,e2,_,d2⟩:=st.h2;simp only[BD,AS,or_false]at hc;rcases hc with rfl|rfl|rfl|rfl|rfl
  .exact⟨_,st.hz,λv q=>by cases q⟩
  .exact⟨_,st.ht,λv q=>by cases q⟩
  .exact⟨_,ho,λv q=>by cases q⟩
  .exact⟨_,e1,λv q=>by rw[d1]at q;cases q⟩
  .exact⟨_,e2,λv q=>by rw[d2]at q;cases q⟩
 keep:=λi h h' st k=>by
  obtain⟨u,v,ho⟩:=st.ho;exact{st with hz:=k z (by simp) _ st.hz,ht:=k TI (by simp) _ st.ht,ho:=⟨u,v,k TO (by simp) _ ho⟩,h1:=st.h1.at λo e=>k i1 (by simp) o e,h2:=st.h2.at λo e=>k i2 (by simp) o e}
 item:=by
  intro X hP hw hK hF hc i Af s U H E I hf st hg;subst hP hw hK;symm;obtain⟨xs,ys,x,y,hx,hy,ex,ey⟩:=hg;cutsat;obtain⟨Bn,rv,p,hzz⟩:=I.list hx;obtain⟨jts,rw',p',_⟩:=I.list hy;obtain⟨u,hu,ru⟩:=rv.get ex;obtain⟨v,hv,rv'⟩:=rw'.get ey;obtain⟨c,d,ho⟩:=st.ho;have ap:=st.apart p.isList p'.isList;refine wpAny_pyNext_zip_item ap st.hz st.ht ho st.h1 st.h2 p.isList p'.isList (by simpa using hu) (by simpa using hv) λh' z1 t1 l1 l2 tp hs old=>?_;refine⟨_,rfl,wpAny_letOwnedTupleGo_zip z1 λh2 z2 sb=>?_⟩
  have ne:∀q∈[z,TI,TO,i1,i2],q≠s.heap.objs.size:=λq hq e=>by
   have hob:∃o,s.heap.get? q=some o:=by
    obtain⟨o1,e1,_,d1⟩:=st.h1;obtain⟨o2,e2,_,d2⟩:=st.h2;simp only[BD,AS,or_false]at hq;rcases hq with rfl|rfl|rfl|rfl|rfl
    .exact⟨_,st.hz⟩
    .exact⟨_,st.ht⟩
    .exact⟨_,ho⟩
    .exact⟨_,e1⟩
    .exact⟨_,e2⟩
   obtain⟨o,e'⟩:=hob;rw[e]at e';exact absurd (Ar e') (EX _)
  have I1:A6 X Af U H {s with heap:=h2}:=I.turnedN hf λq o hq e=>by
   simp only[BD,AS,or_false,not_or]at hq;exact(sb.2 q hq.1).trans (old q o hq.1 hq.2.2.1 hq.2.2.2.1 hq.2.2.2.2 e)
  have freshT:=I.fresh;have tp2:=(sb.2 _ (λe=>ne z (by simp) e.symm)).trans tp;have I2:A6 X Af U (CF H s.heap.objs.size (.tup [x,y])) {s with heap:=h2}:=I1.track (I.fpOk (AJ _) freshT) ⟨Fu (BS (by simp)),[u,v],.cons ru (.cons rv' .nil),_,tp2,rfl,_,rfl,rfl⟩;have kp:∀q o,q≠z->h'.get? q=some o->h2.get? q=some o:=λq o hq e=>(sb.2 q hq).trans e;refine⟨.ref s.heap.objs.size,_,I2,rfl,⟨_,x,y,rfl,freshT,rfl,λzs hz=>by rw[I.list_inj hz hx];exact ex,λzs hz=>by rw[I.list_inj hz hy];exact ey⟩,?_,λq hq=>?_⟩
  .have hTI:=old TI _ st.n1 st.n5 st.n6 st.n7 st.ht;exact{st with hz:=z2,ht:=kp TI _ st.n1 hTI,ho:=⟨u,v,kp TO _ st.n2 t1⟩,h1:=l1.at λo e=>kp i1 o st.n3 e,h2:=l2.at λo e=>kp i2 o st.n4 e}
  .rw[HW (ne q hq)];exact(hf q hq).1
 done:=by
  intro X hP hw hK hF hc i Af s U H E I hf st hg;subst hP hw hK;obtain⟨xs,ys,hx,hy,hl⟩:=hg;obtain⟨Bn,rv,p,_⟩:=I.list hx;obtain⟨jts,rw',p',_⟩:=I.list hy;obtain⟨c,d,ho⟩:=st.ho;have e1:=rv.length;have e2:=rw'.length;refine wpAny_pyNext_zip_end (I.ok.hd hc) (st.apart p.isList p'.isList) st.hz st.ht ho st.h1 st.h2 p.isList p'.isList ?_ λh' old=>⟨rfl,I.turnedN hf λq o hq e=>?_⟩
  .rcases hl with hl|hl
   .exact .inl (by simp;ext)
   .exact .inr (by simp;ext)
  .simp only[BD,AS,or_false,not_or]at hq;exact old q o hq.1 hq.2.2.1 hq.2.2.2.1 hq.2.2.2.2 e
 self:=λ_ _ _ _ _ st h=>Wn st.hz h
def gH (K:Ac)(ta:TA):TI:=λU H R=>ta U H λvs H1=>∃a b xs ys,vs=[.ref a,.ref b]/\FO K H1 a xs/\FO K H1 b ys/\R (gt K a b) H1
theorem mw {X:Cx}{es:List Bv}{k:Nat}{tp:Pos}{a b:Bv}{ta:TA}{p pos:Pos}(hg:Gl X "zip")(hm:X.mg "zip" = none)(ha:PA X [a,b] ta)(hs:Au [a,b] X.env=[(false,eval a X.env),(false,eval b X.env)]:=by rfl)(hs2:Au [b] X.env=[(false,eval b X.env)]:=by rfl) :
  PI X (.Tuple es k tp) (.Call (.Name "zip" p) [a,b] [] pos) (gH X.K ta):=by
 intro Af s U H R I h;refine Call_ (PZ I hg hm boot_zip (BF (Dv (ha pos Af s U H _ I h) λus s1 e=>e.el λvs H1 I1 r1 q1=>?_) (by rw[hs,hs2]) (by rw[hs2];rfl)));refine Aq λG' kk'=>?_;obtain⟨a,b,xs,ys,e,hx,hy,q⟩:=q1;refine kk' ?_;clear kk';subst e;cases r1 with
 |cons r rr=>
  cases rr with
  |cons r' rr=>
   cases rr;cases(show _=AC a from r);cases(show _=AC b from r');obtain⟨Bn,rv,pl,_⟩:=I1.list hx;obtain⟨jts,rv',pl',_⟩:=I1.list hy;refine call_zip_2 pl.isList pl'.isList λh' z t o l1 l2 hz old=>?_;have I2:A6 X Af U H1 {s1 with heap:=h' }:=I1.kept λb o e=>old b o e;have hN:∀i j,i≠j->(s1.heap.objs.size+i:Nat)≠s1.heap.objs.size+j:=λi j h=>by ext
   refine Wn z ?_;refine⟨_,[s1.heap.objs.size+4,s1.heap.objs.size+2,s1.heap.objs.size+3,s1.heap.objs.size,s1.heap.objs.size+1],_,_,H1,rfl,I2,δ _ _ _ _ _ a b,⟨hN 2 4 (by decide),hN 3 4 (by decide),hN 0 4 (by decide),hN 1 4 (by decide),hN 2 3 (by decide),hN 2 0 (by decide),hN 2 1 (by decide),hN 3 0 (by decide),hN 3 1 (by decide),hN 0 1 (by decide),z,t,⟨_,_,o⟩,l1,l2⟩,λc hc=>?_,q⟩
   have hge:s1.heap.objs.size<=c:=by
    simp only[BD,AS,or_false]at hc;rcases hc with rfl|rfl|rfl|rfl|rfl
    .exact GD _ _
    .exact GD _ _
    .exact GD _ _
    .exact AJ _
    .exact GD _ _
   exact I1.fpOk hge (I1.hok.fresh hge)
noncomputable abbrev Cx.fr (X:Cx)(f:Ao×Obj×HO):Cx:={X with fz:=f::X.fz}
theorem A6.unfr (I:A6 (X.fr f) Af U H s):A6 X Af U H s:=
 ⟨{I.ok with},I.os,I.bare,I.base,I.loc,I.cell,I.free,I.freeC,I.pin,I.hok,I.len,λg hg=>I.fzd g (AE _ hg)⟩
theorem A6.freeze (I:A6 X Af U H s)(rd:Rd H a (.dK ks)) :
  ∃ob,A6 (X.fr (a,ob,.dK ks)) Af U (CF H a (.frz ob (.dK ks))) s:=by
 have fin:∀{H':Hp} {ob:Obj},A6 X Af U H' s->H' a=some (.frz ob (.dK ks))->A6 (X.fr (a,ob,.dK ks)) Af U H' s:=λ{H' ob} J e=>
  ⟨{ J.ok with },J.os,J.bare,J.base,J.loc,J.cell,J.free,J.freeC,J.pin,J.hok,J.len,λg hg=>by
   rcases A5.mp hg with rfl|hg
   .exact e
   .exact J.fzd g hg⟩
 rcases rd with e|⟨ob,e⟩
 .obtain⟨z,hd,vs,rel,dd⟩:=Rv I.hok (.inl e);obtain⟨ep,ob,es,eo,_⟩:=dd.dictAt;refine⟨ob,fin ?_ MH⟩;have ne:∀b u,H b=some u->u≠.dK ks->b≠a:=λb u q n z=>by rw[z,e]at q;exact n (Bb q).symm
  have hu:∀b u,H b=some u->u≠.dK ks->CF H a (.frz ob (.dK ks)) b=some u:=λb u q n=>by rw[HW (ne b u q n)];exact q
  refine I.step (ch:=[]) (λ_ z=>nomatch z) (λb o _ _ _ q _=>q) (λb o _ _ _ q _=>⟨o.slots,q⟩)
   (λb o _ q n=>by rw[HW (λz=>by rw[z,e]at n;cases n)];exact n) (λb o _ q=>⟨o,q⟩) (λb xs q=>hu b _ q (by simp)) (λb o u q=>hu b _ q (by simp)) (λb ps q=>⟨#[],by rw[hu b _ q (by simp)];simp⟩) (λm hm=>hm) (λb u q=>?_) I.bare
  by_cases hb:b=a
  .subst hb;rw[MH]at q;cases q;exact⟨eo,(I.hok b _ e).stay (λ_ _ _ q=>q) (λc q=>hu c _ q (by simp)) λc xs q=>hu c _ q (by simp)⟩
  .rw[HW hb]at q;exact(I.hok b u q).stay (λ_ _ _ q=>q) (λc q=>hu c _ q (by simp)) λc xs q=>hu c _ q (by simp)
 .refine⟨ob,fin ?_ MH⟩
  have z:CF H a (.frz ob (.dK ks))=H:=funext λb=>by
   by_cases hb:b=a
   .subst hb;rw[MH,e]
   .rw[HW hb]
  rw[z];exact I
noncomputable def YL (ks:List (B7×V)):It:=⟨λi _=>i<ks.length,λi H x H'=>H'=H/\∃p,ks[i]? = some p/\x=kV p.1,λi _=>ks.length<=i⟩
theorem lr {ks:List (B7×V)}{vs:List (B7×Ad)}(rel:KV ks vs){i:Nat}(h:i<ks.length):∃k v v',ks[i]? = some (k,v)/\vs[i]? = some (k,v'):=by
 have hk:=rel.keys;have hl:=rel.length;have h1:(ks.map (·.1))[i]? = (vs.map (·.1))[i]?:=by rw[hk]
 rw[AH,AH,Ag h,Ag (by omega:i<vs.length)]at h1;have h2:ks[i].1=vs[i].1:=by simpa using h1
 exact⟨ks[i].1,ks[i].2,vs[i].2,Ag h,by rw[h2];exact Ag (by ext)⟩
theorem Zni {K:Ac}(a it)(hF:(a,ob,HO.dK ks)∈F)(rel:KV ks vs)(da:Heap.DictAt (BV P w) h0 a vs ep)(h0a:h0.get? a=some ob) :
  Mg P w K F tg (YL ks) [it] it (λi h=>h.IsKeyIter it a i vs.length ep) where
 mem:=by simp
 obj:=λi h st b hb=>by
  have e:b=it:=by simpa using hb
  subst e;obtain⟨o,e,c,d⟩:=st;exact⟨o,e,λv z=>by rw[d]at z;cases z⟩
 keep:=λi h h' st k=>st.at λo e=>k it (by simp) o e
 item:=by
  intro X hP hw hK hF' hc i Af s U H E I hf st hg;subst hP hw hK hF';obtain⟨k,v,v',e1,e2⟩:=lr rel (show i<ks.length from hg);have ea:=I.fzd _ hF;have go:=(show CZ X.prog X.w H s.heap a (.frz ob (.dK ks))from I.hok a _ ea).1;have da':=da.at' λo e=>by rw[h0a]at e;cases e;exact go
  obtain⟨f0,f1,f2,f3,f4,f5⟩:=hf it (by simp);refine wpAny_pyNext_dict_item st da' e2 λkey h' isk st' sb=>?_;have I1:A6 X Af U H {s with heap:=h' }:=I.turned (λb o hb e=>(sb.2 b hb).trans e) f0 f1 f3 f4 f5;obtain⟨o,e,c,d⟩:=id st';exact⟨key,rfl,VP e c d (by decide) ⟨kV k,H,I1,ju isk,⟨rfl,_,e1,rfl⟩,st',λb hb=>(hf b hb).1⟩⟩
 done:=by
  intro X hP hw hK hF' hc i Af s U H E I hf st hg;subst hP hw hK hF';have ea:=I.fzd _ hF;have go:=(show CZ X.prog X.w H s.heap a (.frz ob (.dK ks))from I.hok a _ ea).1;have da':=da.at' λo e=>by rw[h0a]at e;cases e;exact go
  obtain⟨f0,f1,f2,f3,f4,f5⟩:=hf it (by simp);have hl:=rel.length;have hg':ks.length<=i:=hg;exact wpAny_pyNext_dict_end (I.ok.hd hc) st da' (EJ.mpr (by ext)) λh' eb=>⟨rfl,I.turned (λb o hb e=>eb b o hb e) f0 f1 f3 f4 f5⟩
 self:=λ_ _ _ _ _ st h=>wpAny_pyIter_keyiter st h
theorem qd {X:Cx}(hl:PE X l tl)(hF:(a,ob,HO.dK ks)∈X.fz):PI X tg l (λU H R=>tl U H λv H1=>v=.ref a/\R (YL ks) H1):=by
 intro Af s U H R I h;refine Dv (hl Af s U H _ I h) λu s1 e=>e.el λv H1 I1 r ⟨e,q⟩=>?_;subst e;cases(show u=AC a from r);have ea:=I1.fzd _ hF;obtain⟨z,hd,vs,rel,dd⟩:=Rv I1.hok (.inr ⟨ob,ea⟩);obtain⟨ep,da⟩:=dd.dictAt;have go:=(show CZ X.prog X.w H1 s1.heap a (.frz ob (.dK ks))from I1.hok a _ ea).1;refine wpAny_pyIter_dict hd da ?_;have I2:A6 X Af U H1 {s1 with heap:=s1.heap.push {cls:=.type "dict_keyiterator",data:=.fields #[.ref a,.int 0 0,.int (vs.length:Int) 0,.int (ep:Int) 0]} }:=I1.kept λb o e=>Ah _ e;refine⟨s1.heap.objs.size,[s1.heap.objs.size],_,_,H1,rfl,I2,Zni a _ hF rel da go,⟨_,AB _ rfl,rfl,rfl⟩,λb hb=>?_,q⟩;have e:b=s1.heap.objs.size:=by simpa using hb
 subst e;exact I1.fpOk (AJ _) (I1.hok.fresh (AJ _))
end L2
namespace L3
open PySem PySem.Spec PyProof.Rows L2
unseal B5 HX Ju Gi Ko GV C3 Cf FW BY FL Ga K4 Hw ES
section
noncomputable def Lm (xs ys:List D):List D:=(xs.zip ys).map λp=>.tup [p.1,p.2]
theorem θ {xs ys:List D}{i:Nat}{d:D}(h:(Lm xs ys)[i]? = some d):∃x y,xs[i]? = some x/\ys[i]? = some y/\d=.tup [x,y]:=by
 unfold Lm at h;rw[AH]at h;cases e:(xs.zip ys)[i]? with
 |none=>rw[e]at h;cases h
 |some p=>rw[e]at h;rw[List.getElem?_zip_eq_some]at e;exact⟨p.1,p.2,e.1,e.2,(Bb h).symm⟩
theorem ι (xs ys:List D):(Lm xs ys).length=min xs.length ys.length:=by unfold Lm;rw[Ab,RK]
def WV (t:Kn):Nu:=λτ M R=>t τ M λds M1=>FI ds λx y=>Cp (Bh M1 x) λxs=>Cp (Bh M1 y) λys=>R (Lm xs ys) (λM=>Bh M x=some xs/\Bh M y=some ys) M1
theorem nr {es:List Bv}{n:Nat}{tp:Pos}{a b:Bv}{ta:Kn}{p pos:Pos}(hm:X.mg "zip" = none)(ha:Gi X [a,b] ta)(hg:Gl X "zip":=by rfl)(hs:Au [a,b] X.env=[(false,eval a X.env),(false,eval b X.env)]:=by rfl)(hs2:Au [b] X.env=[(false,eval b X.env)]:=by rfl) :
  Hw X (.Tuple es n tp) (.Call (.Name "zip" p) [a,b] [] pos) (WV ta):=PI.mono (mw hg hm ha hs hs2) (by
 intro U H R hI';symm;obtain ⟨Z,τ,M,R2,st,hr,h,k⟩:=hI';cutsat;refine ⟨Z,τ,M,_,st,hr,h,λZ1 vs ds H1 M1 l1 h1 a1 q1=>?_⟩;obtain ⟨x,y,rfl,q0⟩:=Lo q1;obtain ⟨xs,e,q0⟩:=Cn q0;obtain ⟨ys,e',q⟩:=Cn q0;obtain ⟨v,w,rfl,a2,a3⟩:=Pd a1;obtain ⟨p,ws,rfl,hs,b2⟩:=h1.rdL e a2;obtain ⟨p',ws',rfl,hs',b3⟩:=h1.rdL e' a3;refine ⟨p,p',ws,ws',rfl,hs,hs',k Z1 _ (Lm xs ys) _ H1 M1 l1 h1 (λi H M Z' l hr s=>?_) q⟩;obtain ⟨q,us,e2,hu,c2⟩:=hr.rdL s.1 (a2.mono l);cases e2;obtain ⟨q',us',e3,hu',c3⟩:=hr.rdL s.2 (a3.mono l);cases e3;have lu:=c2.length;have lu':=c3.length;refine ⟨λd hd=>?_,λhi=>⟨us,us',hu,hu',by rw [ι] at hi;ext⟩⟩;obtain ⟨d1,d2,g1,g2,rfl⟩:=θ hd;obtain ⟨v1,hv1,av1⟩:=c2.get g1;obtain ⟨v2,hv2,av2⟩:=c3.get g2;refine ⟨⟨us,us',v1,v2,hu,hu',hv1,hv2⟩,λz H' yl=>?_⟩;refine Aq λG' kk'=>?_;obtain ⟨r,x',y',e1',hn,e2',f1,f2⟩:=yl;refine kk' ?_;clear kk';subst e1' e2';have z1:=f1 us hu;rw [hv1] at z1;cases z1;have z2:=f2 us' hu';rw [hv2] at z2;cases z2;exact ⟨_,Le.ext,hr.newT hn (.cons av1 (.cons av2 .nil)),⟨r,rfl,.inr ⟨rfl,rfl⟩⟩⟩)
noncomputable def capT (τ:GA)(caps:List (Str×Nat))(ds:List D):GA:=ds.map some++caps.map λc=>(τ[c.2]?).join
theorem Gz.capT (h:Gz Z U τ)(caps:List (Str×Nat)):∀{us:List V}{ds:List D},Dw Z us ds->Gz Z (Fo U caps (us.map some)) (capT τ caps ds)
 |[],[],.nil=>by
  unfold Fo L3.capT;rw[Dx,Dx,FP,FP];induction caps with
  |nil=>exact .nil
  |cons c r ih=>exact .cons (h.join c.2) ih
 |_::_,_::_,.cons a r=>.cons a (Gz.capT h caps r)
def LD (n:Nat)(xs:List D)(S:Mp->Prop)(caps:List (Str×Nat))(tt:K0)(te:D3)(τ:GA)(M:Mp)(Q:List D->Mp->Prop):Prop:=xs.length<=An/\∃W:Nat->List D->Mp->Prop,W 0 [] M/\(∀i ys M,W i ys M->S M/\ys.length<=i) /\
 (∀i x ys M,xs[i]? = some x->W i ys M->∃us,x=.tup us/\us.length=n/\tt (capT τ caps us) M λb M2=>if b=true then te (capT τ caps us) M2 λy M3=>W (i+1) (ys++[y]) M3 else W (i+1) ys M2)/\∀ys M,W xs.length ys M->Q ys M
theorem Zn2 {K:Ac}(st:Gz Z U τ)(hr:HR K H M Z)(h:wi τ M λxs S M1=>LD n xs S caps tt te τ M1 QL)
  (ht:∀U H Q,lT K tt U H Q->tt1 U H Q)
  (k:∀Z1 H1 M1 vs ds,Le Z Z1->HR K H1 M1 Z1->Dw Z1 vs ds->QL ds M1->∀p,H1 p=none->Q (.ref p) (CF H1 p (.lst vs))):N3 (lI K wi) n caps tt1 (lE K te) K U H Q:=by
 refine⟨Z,τ,M,_,st,hr,h,λZ1 J xs S H1 M1 l1 h1 jk ⟨hz,W,w0,stay,turn,done⟩=>?_⟩;refine⟨xs.length,λi vs H=>i<=xs.length/\∃Z2 M2 ds,Le Z1 Z2/\HR K H M2 Z2/\Dw Z2 vs ds/\W i ds M2,⟨Ek _,Z1,M1,[],Le.refl _,h1,.nil,w0⟩,?_⟩;intro i vs H2 hI';symm;obtain⟨hi,Z2,M2,ds,l2,h2,a2,w2⟩:=hI';cutsat;obtain⟨s2,hl⟩:=stay i ds M2 w2;obtain⟨go,stop⟩:=jk i H2 M2 Z2 l2 h2 s2;have la:=a2.length;by_cases hlt:i<xs.length
 .obtain⟨g1,g2⟩:=go _ (Ag hlt);refine .inr ⟨g1,hlt,by ext,λx H' y=>?_⟩;obtain⟨Z5,l5,h5,a⟩:=g2 x H' y;obtain⟨ds5,ex,hl5,tk⟩:=turn i _ ds M2 (Ag hlt) w2;rw[ex]at a;obtain⟨p5,us,rfl,hs5,a5⟩:=h5.rdT a;have l2:=l2.trans l5;have a2:=a2.mono l5;refine⟨p5,us,rfl,hs5,a5.length.trans hl5,?_⟩;refine ht _ _ _ (lT.bind ((st.mono (l1.trans l2)).capT caps a5) h5 tk λZ3 b H3 M3 l3 h3 q3=>?_);cases b with
  |false=>rw[if_neg Am]at q3 ⊢;exact⟨hlt,Z3,M3,ds,l2.trans l3,h3,a2.mono l3,q3⟩
  |true=>rw[if_pos rfl]at q3 ⊢;refine lE.bind (((st.mono (l1.trans l2)).capT caps a5).mono l3) h3 q3 λZ4 z dz H4 M4 l4 h4 a4 q4=>?_;exact⟨hlt,Z4,M4,ds++[dz],l2.trans (l3.trans l4),h4,(a2.mono (l3.trans l4)).append (.cons a4 .nil),q4⟩
 .have e:i=xs.length:=by ext
  subst e;exact .inl ⟨stop (AJ _),by ext,k Z2 H2 M2 vs ds (l1.trans l2) h2 a2 (done ds M2 w2)⟩
noncomputable def XZ:D->Option (List (B7×D))
 |.dic AR=>some AR
 |_=>none
theorem HR.frzH {K:Ac}(h:HR K H M Z)(z:Z p (.dic AR))(rd:Rd H p (.dK ks)):HR K (CF H p (.frz ob (.dK ks))) M Z:=by
 have hM:M p=none:=by
  cases e:M p with
  |none=>rfl
  |some o=>exact((h.m p o e).1 _ z).elim
 have key:∀{d:D},HB H Z p d->HB (CF H p (.frz ob (.dK ks))) Z p d:=λ{d} hb=>by
  cases d with
  |dic ds=>
   obtain⟨vs,r,a⟩:=hb
   have e:HO.dK vs=HO.dK ks:=by
    rcases r with r|⟨o,r⟩<;>rcases rd with r' | ⟨o',r'⟩<;>rw[r]at r'<;>cases r'<;>rfl
   cases e;exact⟨_,.inr ⟨ob,MH⟩,a⟩
  |tup ds=>obtain⟨vs,r,a⟩:=hb;rcases rd with r' | ⟨o',r'⟩<;>rw[r]at r'<;>cases r'
  |dct ds=>obtain⟨vs,r,a⟩:=hb;rcases r with r|⟨o,r⟩<;>rcases rd with r' | ⟨o',r'⟩<;>rw[r]at r'<;>cases r'
  |lst ds=>obtain⟨vs,r,a⟩:=hb;rcases r with r|⟨o,r⟩<;>rcases rd with r' | ⟨o',r'⟩<;>rw[r]at r'<;>cases r'
  |_=>exact hb.elim
 refine⟨λb d q=>?_,λb w q=>?_⟩
 .by_cases hb:b=p
  .subst hb;rcases h.z b d q with k|k
   .exact .inl (key k)
   .exact .inr k
  .rcases h.z b d q with k|k
   .exact .inl (k.at (HW hb))
   .exact .inr k
 .have hb:b≠p:=λe=>by rw[e,hM]at q;cases q
  obtain⟨k1,k2⟩:=h.m b w q;exact⟨k1,k2.at (HW hb)⟩
def T7 (t:D3):Nu:=λτ M R=>t τ M λx M1=>Cp (XZ x) λAR=>R (AR.map λp=>kD p.1) (λ_=>True) M1
theorem vv {Z:Zt}{ks:List (B7×V)}{AR:List (B7×D)}(a:Cw Z ks AR){i:Nat}{p:B7×V}(h:ks[i]? = some p):∃d,AR[i]? = some (p.1,d):=by
 induction a generalizing i with
 |nil=>simp at h
 | @cons u d _ _ h1 _ ih=>
  cases i with
  |zero=>
   have e:u=p:=by simpa using h
   subst e;obtain⟨e1,_⟩:=h1;exact⟨d.2,by rw[e1];rfl⟩
  |succ i=>exact ih (by simpa using h)
theorem je (k):At Z (kV k) (kD k):=by cases k<;>rfl
theorem zw {K:Ac}{Z:Zt}{ks:List (B7×V)}{AR:List (B7×D)}(a:Cw Z ks AR):YK K (YL ks) (AR.map λp=>kD p.1) (λ_=>True) Z:=λi H M Z' l hr s=>by
 have hl:=a.length;refine⟨λd hd=>?_,λhi=>by rw[Ab]at hi;show ks.length<=i;ext⟩;rw[AH]at hd
 have hi:i<AR.length:=by
  cases e:AR[i]? with
  |none=>rw[e]at hd;cases hd
  |some p=>exact(Ai.mp e).1
 refine⟨show i<ks.length by ext,λx H' y=>?_⟩;obtain⟨rfl,p,e1,rfl⟩:=y;obtain⟨d',e2⟩:=vv a e1;rw[e2]at hd;cases hd;exact⟨Z',Le.refl _,hr,je _⟩
noncomputable def Og (k:Str):List Str->Option Nat
 |[]=>none
 |a::r=>if a=k then some 0 else(Og k r).map (·+1)
theorem sG :∀{xs:List Str}{j:Nat},Og k xs=some j->xs[j]? = some k/\∀m a,m<j->xs[m]? = some a->a≠k
 |[],j,h=>by cases h
 |a::r,j,h=>by
  unfold Og at h;by_cases e:a=k
  .rw[if_pos e]at h;cases h;exact⟨by rw[e];rfl,λm a hm=>by ext⟩
  .rw[if_neg e]at h;cases q:Og k r with
   |none=>rw[q]at h;cases h
   |some i=>
    rw[q]at h;cases h;obtain⟨h1,h2⟩:=sG q;refine⟨by simpa using h1,λm b hm hb=>?_⟩;cases m with
    |zero=>
     have:a=b:=by simpa using hb
     rw[<- this];exact e
    |succ m=>exact h2 m b (by have hm':m+1<i+1:=hm;ext) (by simpa using hb)
noncomputable def EB:List D->Option (List Str)
 |[]=>some []
 |.str a::r=>(EB r).map (a::·)
 |_::_=>none
theorem Wf:∀{ds:List D}{ss:List Str},EB ds=some ss->ds=ss.map D.str
 |[],ss,h=>by cases h;rfl
 |.str a::r,ss,h=>by
  unfold EB at h;cases e:EB r with
  |none=>rw[e]at h;cases h
  |some t=>rw[e]at h;cases h;rw[AQ,<- Wf e]
 |.non::r,_,h | .int _::r,_,h | .bl _::r,_,h | .tup _::r,_,h | .lst _::r,_,h | .dic _::r,_,h | .dct _::r,_,h | .ref _::r,_,h | .ty _::r,_,h=>by cases h
theorem ZZ (hu:X.A.units+45<Dh):ES X "list.index" (λx xs M Q=>Gx xs λy=>Gh y λk=>Cp (Bh M x) λds=>Cp (EB ds) λss=>Cp (Og k ss) λi=>Q (.int (i:Int)) M):=by
 intro Af s U H x xs v us Q I rx r h;symm;obtain⟨Z,d,ds,M,Q2,hr,a,as,h,kk⟩:=h;cutsat;obtain⟨y,rfl,h1⟩:=GN h;obtain⟨k,rfl,h2⟩:=Ea h1;obtain⟨zs,e,h3⟩:=Cn h2;obtain⟨ss,e2,h4⟩:=Cn h3;obtain⟨i,e3,q⟩:=Cn h4;obtain⟨p,ws,rfl,hs,a2⟩:=hr.rdL e a;cases(show v=AC p from rx);obtain⟨w,rfl,aw⟩:=IN as;cases(show w=V.str k from aw);obtain⟨u,rfl,ru⟩:=Hg r;obtain⟨t,rfl⟩:=ru;obtain⟨Bn,rv,⟨o,n,ho0,hc1,hc2,hc3⟩,hz⟩:=I.list hs
 have ho:s.heap.get? p=some {cls:=.type "list",dict:=o.dict,data:=.seq Bn.toArray n,slots:=o.slots}:=by
  rw[ho0];cases o
  simp_all
 have hzs:=Wf e2;obtain⟨g1,g2⟩:=sG e3;have l1:=rv.length;have l2:=a2.length;have hi:=(Ai.mp g1).1;have hzl:zs.length=ss.length:=by rw[hzs,Ab]
 have at_:∀m (hm:m<Bn.toArray.size),∃a t,Bn.toArray[m]=Dk a t/\ss[m]? = some a:=λm hm=>by
  obtain⟨v',d',_,e1,q1,z1⟩:=UG rv a2 m hm;rw[hzs,AH]at e1;cases e4:ss[m]? with
  |none=>rw[e4]at e1;cases e1
  |some b=>rw[e4]at e1;cases e1;cases(show v'=V.str b from q1);obtain⟨t',ht⟩:=z1;exact⟨b,t',ht,rfl⟩
 let ef:Ad->Bool:=λv=>match v with | .str a _=>decide (a=k) | _=>false
 have hsz:Bn.toArray.size=ss.length:=by simp;ext
 refine Iz F.slot_list_index ⟨_,ho,rfl⟩ F.entry_list_index (F.args_list_index_2 _ _) (SeqAt.list_indexAt p Bn.toArray n _ _ (.str k t) ef i (by ext) ?_ ?_ ?_) ⟨ho,?_,?_⟩
 .have:An<2^62:=by decide
  ext
 .obtain⟨b,t',h5,h6⟩:=at_ i (by ext);rw[h5];rw[g1]at h6;cases h6;simp[ef]
 .intro m hm hlt;obtain⟨b,t',h5,h6⟩:=at_ m hm;rw[h5];simp[ef,g2 m b hlt h6]
 .intro y hy;obtain⟨m,hm,rfl⟩:=Array.mem_iff_getElem.mp hy;obtain⟨b,t',h5,h6⟩:=at_ m hm;rw[h5];exact ZN I hr 1 (x:=.str b) (y:=.str k) rfl rfl ⟨t',rfl⟩ ⟨t,rfl⟩ (by show X.A.units+1+1<Dh;ext) rfl
 .exact⟨.int i,H,I.tok _,⟨_,rfl⟩,kk.i hr q⟩
theorem Znb (as bs:List Int):Lm (as.map D.int) (bs.map D.int)=(as.zip bs).map λp=>.tup [.int p.1,.int p.2]:=by
 unfold Lm;rw[List.zip_map,BA];rfl
theorem sR (f):∀as bs:List Int,((as.zip bs).map λp=>D.int (f p.1 p.2))=(as.zipWith f bs).map D.int
 |[],_=>rfl
 |_::_,[]=>rfl
 |a::as,b::bs=>by
  show D.int (f a b)::(as.zip bs).map _=D.int (f a b)::(as.zipWith f bs).map D.int;rw[sR f as bs]
theorem LD.ints {as bs:List Int}(f:Int->Int->Int)(hz:as.length<=An)(hS:S M)(h:∀a b,(a,b)∈as.zip bs->∀R:DV,R (.int (f a b)) M->te (capT τ caps [.int a,.int b]) M R)(q:Q ((as.zipWith f bs).map D.int) M):LD 2 (Lm (as.map D.int) (bs.map D.int)) S caps GJ te τ M Q:=by
 rw[Znb];refine⟨by rw[Ab,RK];ext,λi ys M'=>M'=M/\ys=((as.zip bs).take i).map λp=>D.int (f p.1 p.2),⟨rfl,rfl⟩,?_,?_,?_⟩
 .rintro i ys M' ⟨rfl,rfl⟩;exact⟨hS,by rw[Ab,AZ];ext⟩
 .rintro i x ys M' hx ⟨rfl,rfl⟩;rw[AH]at hx;cases e:(as.zip bs)[i]? with
  |none=>rw[e]at hx;cases hx
  |some p=>rw[e]at hx;refine⟨_,(Bb hx).symm,rfl,?_⟩;unfold GJ;dsimp only;rw[if_pos rfl];exact h p.1 p.2 (Aw e) _ ⟨rfl,by rw[Ba,e,AI];rfl⟩
 .rintro ys M' ⟨rfl,rfl⟩;rw[Ab,Be];rw[sR f as bs];exact q
end
end L3
namespace L2
open PySem PySem.Spec PyProof.Rows L3
noncomputable def gx (x:Str):It:=⟨λi _=>i<x.cps.size,λi H v H'=>H'=H/\∃c,x.cps[i]? = some c/\v=.str ⟨#[c]⟩,λi _=>x.cps.size<=i⟩
theorem γ {K:Ac}(it)(x)(t:Tok):Mg P w K F tg (gx x) [it] it (λi h=>h.IsStrIter it "str_ascii_iterator" x t i) where
 mem:=by simp
 obj:=λi h st b hb=>by
  have e:b=it:=by simpa using hb
  subst e;obtain⟨o,e,c,d⟩:=st;exact⟨o,e,λv z=>by rw[d]at z;cases z⟩
 keep:=λi h h' st k=>by
  obtain⟨o,e,c,d⟩:=st;exact⟨o,k it (by simp) o e,c,d⟩
 item:=by
  intro X hP hw hK hF hc i Af s U H E I hf st hg;subst hP hw hK;have hi:=hg;obtain⟨f0,f1,f2,f3,f4,f5⟩:=hf it (by simp);refine wpAny_pyNext_ascii_item st (AW hi) λh' st' sb=>?_;have I1:A6 X Af U H {s with heap:=h',toks:=s.toks+1}:=I.turned (λb o hb e=>(sb.2 b hb).trans e) f0 f1 f3 f4 f5;obtain⟨o,e,c,d⟩:=id st';exact⟨_,rfl,VP e c d (by decide) ⟨.str ⟨#[x.cps[i]]⟩,H,I1,⟨_,rfl⟩,⟨rfl,_,AW hi,rfl⟩,st',λb hb=>(hf b hb).1⟩⟩
 done:=by
  intro X hP hw hK hF hc i Af s U H E I hf st hg;subst hP hw hK;have hg':=hg;obtain⟨f0,f1,f2,f3,f4,f5⟩:=hf it (by simp);exact wpAny_pyNext_ascii_end (I.ok.hd hc) st (DY hg') λh' eb=>⟨rfl,I.turned (λb o hb e=>eb b o hb e) f0 f1 f3 f4 f5⟩
 self:=λ_ _ _ _ _ st h=>wpAny_pyIter_striter_ascii st h
theorem mi {X:Cx}{tg l:Bv}{tl:TE}(hl:PE X l tl):PI X tg l (λU H R=>tl U H λv H1=>∃x,v=.str x/\(x.cps.all λc=>decide (c<128))=true/\R (gx x) H1):=by
 intro Af s U H R I h;refine Dv (hl Af s U H _ I h) λu s1 e=>e.el λv H1 I1 r ⟨x,e,ha,q⟩=>?_;subst e;obtain⟨t,rfl⟩:=r;refine wpAny_pyIter_ascii ha ?_;have I2:A6 X Af U H1 {s1 with heap:=s1.heap.push {cls:=.type "str_ascii_iterator",data:=.fields #[.str x t,.int 0 0]} }:=I1.kept λb o e=>Ah _ e;refine⟨s1.heap.objs.size,[s1.heap.objs.size],_,_,H1,rfl,I2,γ _ x t,⟨_,AB _ rfl,rfl,rfl⟩,λb hb=>?_,q⟩;have e:b=s1.heap.objs.size:=by simpa using hb
 subst e;exact I1.fpOk (AJ _) (I1.hok.fresh (AJ _))
theorem Zoj :Gb X (A9 .LtE) (λx y H Q=>∃i j,x=.str i/\y=.str j/\Q (.bl (!decide (j.cps.toList<i.cps.toList))) H):=by
 intro Af s U H x y v u Q I rx ry h;obtain⟨i,j,rfl,rfl,q⟩:=h;obtain⟨t,rfl⟩:=rx;obtain⟨t',rfl⟩:=ry;exact richCompare_gives (op:=.LtE) (Ny _ _ _) (Ny _ _ _) PySem.F.slot_str_le PySem.F.entry_str_le (PySem.F.args_str_le_2 _ _) (PySem.gives_str_le i j t t') (by simp[Made.takes]) (Is I q rfl)
end L2
namespace L3
open PySem PySem.Spec PyProof.Rows L2
unseal B5 HX Ju Gi Ko GV C3 Cf FW BY FL Ga K4 Hw ES
section
noncomputable def Kw (z:Str):List D:=z.cps.toList.map λc=>.str ⟨#[c]⟩
def WX (t:D3):Nu:=λτ M R=>t τ M λx M1=>Gh x λz=>(z.cps.all λc=>decide (c<128))=true/\R (Kw z) (λ_=>True) M1
theorem np (hl:B5 X l tl):Hw X tg l (WX tl):=PI.mono (mi hl) (by
 intro U H R hI';symm;obtain⟨Z,τ,M,R2,st,hr,h,k⟩:=hI';cutsat;refine lE.bind st hr h λZ1 v d H1 M1 l1 h1 a1 q1=>?_;obtain⟨z,rfl,ha,q⟩:=Ea q1;refine⟨z,a1,ha,k Z1 _ (Kw z) _ H1 M1 l1 h1 (λi H M Z' l hr s=>?_) q⟩;unfold Kw;refine⟨λd hd=>?_,λhi=>by rw[Ab,BH]at hi;exact hi⟩;rw[AH,C6]at hd;cases e:z.cps[i]? with
 |none=>rw[e]at hd;cases hd
 | some c=>rw [e] at hd;cases hd;refine ⟨(F9.mp e).1,λx H' y=>?_⟩;obtain ⟨rfl,c',e',rfl⟩:=y;rw [e] at e';cases e';exact ⟨Z',Le.refl _,hr,rfl⟩)
theorem sV:Cf X (A9 .LtE) (λx y M Q=>Gh x λi=>Gh y λj=>Q (.bl (!decide (j.cps.toList<i.cps.toList))) M):=Gb.mono Zoj (by
 intro x y H Q hI';symm;obtain ⟨Z,dx,dy,M,Q2,hr,ax,ay,h,k⟩:=hI';cutsat;obtain ⟨i,rfl,h1⟩:=Ea h;obtain ⟨j,rfl,q⟩:=Ea h1;exact ⟨i,j,ax,ay,k.b hr q⟩)
noncomputable def IM:List D->Option (List Bool)
 |[]=>some []
 |.bl b::r=>(IM r).map (b::·)
 |_::_=>none
theorem tT:∀{ds:List D}{bs:List Bool},IM ds=some bs->ds=bs.map D.bl
 |[],bs,h=>by cases h;rfl
 |.bl a::r,bs,h=>by
  unfold IM at h;cases e:IM r with
  |none=>rw[e]at h;cases h
  |some t=>rw[e]at h;cases h;rw[AQ,<- tT e]
 |.non::r,_,h | .int _::r,_,h | .str _::r,_,h | .tup _::r,_,h | .lst _::r,_,h | .dic _::r,_,h | .dct _::r,_,h | .ref _::r,_,h | .ty _::r,_,h=>by cases h
theorem vQ:∀bs,IM (bs.map D.bl)=some bs
 |[]=>rfl
 |b::r=>by
  show(IM (r.map D.bl)).map (b::·)=_;rw[vQ r];rfl
theorem ZnH (bs:List Bool):(Bu bs.length).all (λi=>bs.getD i true)=bs.all id:=by
 induction bs with
 |nil=>rfl
 |cons b r ih=>rw[AO,EF,F5,Vl,F5];congr 1
theorem ja (hc:X.calm=true):BY X (.builtin "all") (λxs M Q=>Gx xs λx=>Cp (Bh M x) λds=>Cp (IM ds) λbs=>Q (.bl (bs.all id)) M):=by
 intro Af s U H xs us Q I r h;symm;obtain⟨Z,ds,M,Q2,hr,a,h,k⟩:=h;cutsat;obtain⟨x,rfl,h1⟩:=GN h;obtain⟨zs,e,h2⟩:=Cn h1;obtain⟨bs,e2,q⟩:=Cn h2;obtain⟨v,rfl,av⟩:=IN a;obtain⟨p,ws,rfl,hs,a2⟩:=hr.rdL e av;obtain⟨u,rfl,ru⟩:=Hg r;cases(show u=AC p from ru);obtain⟨Bn,rv,pl,hz⟩:=I.list hs;have hzs:=tT e2;have l1:=rv.length;have l2:=a2.length;have hzl:zs.length=bs.length:=by rw[hzs,Ab]
 have hsz:Bn.toArray.size=bs.length:=by simp;ext
 refine call_all_walkS (Hx pl.isList ?_)
 have hlt:p<s.heap.objs.size:=by
  obtain⟨o,eo,_⟩:=pl.isList;exact Ar eo
 have hne:=A8 hlt;refine⟨s.heap.objs.size,[s.heap.objs.size,p],[s.heap.objs.size],_,Bn.toArray.size,_,_,λi=>bs.getD i true,rfl,(Wu (show X.A.in1.handled=none from I.ok.hd hc) s.heap.objs.size p hne Bn.toArray).toS,⟨⟨_,AB _ rfl,rfl,rfl⟩,?_⟩,?_,?_⟩
 .obtain⟨o,eo,c1,n,c2⟩:=pl.isList;exact⟨o,Ah _ eo,c1,n,c2⟩
 .intro i v s' Q' E' hv hq;have hi:=(F9.mp hv).1;obtain⟨v',d',_,e1,q1,z1⟩:=UG rv a2 i hi;rw[hzs,AH]at e1;cases e4:bs[i]? with
  |none=>rw[e4]at e1;cases e1
  |some b=>
   rw[e4]at e1;cases e1;cases(show v'=V.bl b from q1)
   have hb:v=I9 b:=by
    have h3:=z1;rw[AW hi,h3]at hv;exact(Bb hv).symm
   subst hb
   have hq':Q' b s':=by
    have:bs.getD i true=b:=by rw[Ck,e4];rfl
    have hq2:Q' (bs.getD i true) s':=hq;rw[this]at hq2;exact hq2
   exact EE hq'
 .intro s' mv;rw[hsz,ZnH];obtain⟨m1,m2,m3,m4,m5⟩:=mv;obtain⟨h',g',d',t',o'⟩:=s';have e1:=m2;have e2:=m3;have e3:=m4;subst e1 e2 e3;refine⟨.bl _,H,I.kept λb o eb=>m1 b o (λhb=>?_) (Ah _ eb),rfl,k.b hr q⟩;have:b=s.heap.objs.size:=by simpa using hb
  rw[this]at eb;exact absurd (Ar eb) (EX _)
theorem ET.of {α:Type}{ks:List α}{g f:α->D}{S:Mp->Prop}{caps:List (Str×Nat)}{te:D3}{τ:GA}{M:Mp}{Q:List D->Mp->Prop}(hz:ks.length<=An)(hS:S M)(h:∀k∈ks,∀R:DV,R (f k) M->te (L9 τ caps (some (g k))) M R)(q:Q (ks.map f) M):ET (ks.map g) S caps GJ te τ M Q:=by
 refine⟨by rw[Ab];exact hz,λi ys M'=>M'=M/\ys=(ks.take i).map f,⟨rfl,rfl⟩,?_,?_,?_⟩
 .rintro i ys M' ⟨rfl,rfl⟩;exact⟨hS,by rw[Ab,AZ];ext⟩
 .rintro i x ys M' hx ⟨rfl,rfl⟩;rw[AH]at hx;cases e:ks[i]? with
  |none=>rw[e]at hx;cases hx
  |some k=>rw[e]at hx;cases hx;unfold GJ;dsimp only;rw[if_pos rfl];exact h k (Aw e) _ ⟨rfl,by rw[Ba,e,AI];rfl⟩
 .rintro ys M' ⟨rfl,rfl⟩;rw[Ab,Be];exact q
end
end L3
namespace L2
open PySem PySem.Spec PyProof.Rows L3
end L2
namespace L3
open PySem PySem.Spec PyProof.Rows L2
unseal B5 HX Ju Gi Ko GV C3 Cf FW BY FL Ga K4 Hw ES
end L3
namespace L2
open PySem PySem.Spec PyProof.Rows L3
theorem Zic (t:Ds)(n:Nat):(t.orStandIn n).led=t.led:=by
 unfold SetTable.orStandIn;split<;>rfl
theorem ZmP (t:Ds)(es:Array (Int×Ad))(h:Int)(x:Ad):(layNew t es h x).2.1.led=t.led:=by
 unfold layNew;split
 .next slot wd e=>
  show((t.put slot).1.orStandIn _).led=_;rw[Zic];rfl
 .rfl
theorem ZiY (t)(es)(n):(H9 t es n).2.1.led=t.led:=by
 unfold H9;split
 .next t' order e=>
  have e2:t'.led=t.led:=by
   unfold OS KO at e;cases q:NJ (EM n-1) (es.map (·.1))with
   |none=>rw[q]at e;cases e
   |some o=>rw[q]at e;cases e;rfl
  dsimp only;split
  .exact e2
  .rfl
 .rfl
theorem Zhc (t)(es)(n)(h:t.plain=false):(H9 t es n).2.1.plain=false:=by
 unfold H9;split
 .next t' order e=>
  have e2:t'.plain=t.plain:=by
   unfold OS KO at e;cases q:NJ (EM n-1) (es.map (·.1))with
   |none=>rw[q]at e;cases e
   |some o=>rw[q]at e;cases e;rfl
  dsimp only;split
  .rw[<- h];exact e2
  .rfl
 .rfl
def IQ (w:Bj)(es:List (Int×Ad)):Prop:=∀e∈es,∃x t,e=(Fv w x,Dk x t)
noncomputable def GO (es:List (Int×Ad)):List Str:=es.map λe=>strOf e.2
def CV (w:Bj)(h:BU)(a:Ao)(ks:List Str)(led:Bool):Prop:=
 ∃o es ep t,h.get? a=some o/\o.ExactSet/\o.data=Iq es ep t/\IQ w es.toList/\(GO es.toList).Perm ks/\es.size<Bi/\t.fits es.size=true/\t.led=led/\(es.size≠0->t.plain=false)
theorem IQ.elems (h:IQ w es):ElemsOf (BC prog w) es:=λe he=>by
 obtain⟨x,t,rfl⟩:=h e he;exact⟨⟨x,by simp[BC,Ec],rfl⟩,rfl⟩
theorem jZ (h:IQ w es)(hx:x∉GO es):es.findIdx? (λe=>(BC prog w).is x e.2)=none:=by
 rw[Gv];intro e he;obtain⟨y,t,rfl⟩:=h e he;cases q:(BC prog w).is x (Dk y t)with
 |false=>rfl
 |true=>
  have:y=x:=by simpa[BC,Ec]using q
  subst this;exact absurd (Ap.mpr ⟨_,he,rfl⟩) hx
theorem kG (h:IQ w es)(hx:x∈GO es):∃j,es.findIdx? (λe=>(BC prog w).is x e.2)=some j:=by
 cases q:es.findIdx? (λe=>(BC prog w).is x e.2)with
 |some j=>exact⟨j,rfl⟩
 |none=>rw[Gv]at q;obtain⟨e,he,rfl⟩:=Ap.mp hx;obtain⟨y,t,rfl⟩:=h e he;have:=q _ he;simp[BC,Ec,strOf]at this
theorem stored {s:BU}(ho:s.get? a=some o)(hex:o.ExactSet)(hd:o.data=Iq es ep t) :
  ∃o',(s.update a (Obj.putSet es1 t2)).get? a=some o'/\o'.ExactSet/\o'.data=Iq es1 (ep+1) t2:=by
 have e:=putSet_of es1 t2 hd;refine⟨_,Ej _ ho ?_,?_,?_⟩
 .rw[e];obtain⟨h1,h2,h3⟩:=hex;simp[Obj.isFreed,h1]
 .rw[e];exact hex
 .rw[e]
theorem S6 {g:Bool->Sem Unit}(hg:∀b s₁ Q',Q' () s₁->Av (AA prog w) A (g b) Q' E s₁)
  (ho:s.heap.get? a=some o) (hex:o.ExactSet) (hd:o.data=Iq es ep t)
  (h1:IQ w es1.toList) (hp:(GO es1.toList).Perm ks) (hsz:es1.size<Bi) (hfit:t2.fits es1.size=true) (hled:t2.led=led) (hpl:t2.plain=false)
  (hR:∀h',BL a s.heap h'->CV w h' a ks led->R (some true) {s with heap:=h' }) :
  Av (AA prog w) A (do
   storeSet a es1 t2
   if (!wd && t2.tooFull)=true then do
    g (H9 t2 es1 (DB es1.size)).2.2
    storeSet a (H9 t2 es1 (DB es1.size)).1 (H9 t2 es1 (DB es1.size)).2.1
    pure (some true)
   else pure (some true)) R E s:=by
 have hline:Bi<=An:=by decide
 obtain⟨o1,ho1,hex1,hd1⟩:=stored ho hex hd;refine Aa (DH ho hd ?_ (by ext));split
 .refine Aa (hg _ _ _ ?_);have hperm:=relayAll_perm t2 es1 (DB es1.size);have hfit3:=relayAll_fits t2 es1 (DB es1.size);have hled3:=ZiY t2 es1 (DB es1.size);have hpl3:=Zhc t2 es1 (DB es1.size) hpl
  have hlen:(H9 t2 es1 (DB es1.size)).1.size=es1.size:=by
   have:=hperm.length_eq;simpa using this
  obtain⟨o2,ho2,hex2,hd2⟩:=stored ho1 hex1 hd1;refine Aa (DH ho1 hd1 (Ae (hR _ ((Bf _ _ _).trans (Bf _ _ _)) ⟨o2,_,_,_,ho2,hex2,hd2,λe he=>h1 e (hperm.mem_iff.mp he),?_,by ext,by rw[hlen]at hfit3 ⊢;exact hfit3,by rw[hled3];exact hled,λ_=>hpl3⟩)) (by ext));exact(hperm.map _).trans hp
 .exact Ae (hR _ (Bf _ _ _) ⟨o1,_,_,_,ho1,hex1,hd1,h1,hp,hsz,hfit,hled,λ_=>hpl⟩)
theorem kN (hS:CV w s.heap a ks led)(hn:ks.length+1<Bi)
  (hQ:∀b h',BL a s.heap h'->CV w h' a (if x∈ks then ks else ks++[x]) led->Q b {s with heap:=h' }):Av (AA prog w) A (Ix a (.str x t) (Fv w x)) Q E s:=by
 symm;obtain⟨o,es,ep,tb,ho,hex,hd,hes,hp,hsz,hfit,hled,hpl⟩:=hS;cutsat;unfold Ix;refine BZ ?_;generalize hN:(99999:Nat)=N;rw[show(100000:Nat)=99999+1 from rfl,hN];rw[setAddHashedIn];refine Aa (A7 ho hd hfit ?_);dsimp only;rw[if_pos (byScan_of (knd:=BC prog w) (x:=.str x t) rfl hsz hes.elems)];refine Aa ?_;unfold setAddByScan;refine Aa (GX (Aa (Wm (knd:=BC prog w) (k:=x) (by simp[BC,Ec]) ho hd hfit hes.elems ?_)));by_cases hx:x∈ks
 .obtain⟨j,hj⟩:=kG (prog:=prog) hes (hp.mem_iff.mpr hx);rw[hj];refine Ae (Ae ?_);have z:=hQ false s.heap (CM _ _) (by rw[if_pos hx];exact⟨o,es,ep,tb,ho,hex,hd,hes,hp,hsz,hfit,hled,hpl⟩);exact z
 .rw[jZ (prog:=prog) hes (λh=>hx (hp.mem_iff.mp h))];dsimp only;have lp:=layNew_perm tb es (Fv w x) (.str x t);have lf:=layNew_fits tb es (Fv w x) (.str x t);have ll:=ZmP tb es (Fv w x) (.str x t);generalize layNew tb es (Fv w x) (.str x t)=L at lp lf ll ⊢;obtain⟨es1,t1,wd,gv⟩:=L;dsimp only at lp lf ll ⊢
  have hok1:IQ w es1.toList:=λe he=>by
   rcases Array.mem_push.mp (Ij.mp (lp.mem_iff.mp he))with h|h
   .exact hes e (Ij.mpr h)
   .exact⟨x,t,h⟩
  have hlen:es1.size=es.size+1:=by
   have:=lp.length_eq;simpa using this
  have hkl:(GO es.toList).length=es.size:=by unfold GO;rw[Ab,BH]
  have hkl2:=hp.length_eq
  have hp1:(GO es1.toList).Perm (ks++[x]):=by
   have h2:(GO es1.toList).Perm (GO (es.push (Fv w x,Dk x t)).toList):=lp.map _;refine h2.trans ?_;unfold GO;rw[PK,AI];exact hp.append (Eh _)
  have gw:∀gv s₁ Q',Q' () s₁->Av (AA prog w) A (match gv with | true=>RB "set.scan.the-table-gave-way" |false=>pure ()) Q' E s₁:=λgv s₁ Q' h=>by
   cases gv with
   |true=>exact GX h
   |false=>exact Ae h
  refine Aa (gw gv s _ ?_);split
  .rw[hashByValue_scannable 8 (x:=.str x t) rfl];refine Aa (Ae ?_);refine S6 (led:=led) gw ho hex hd hok1 hp1 (by ext) ?_ ?_ ?_ λh' sb hS=>?_
   .split
    .exact lf
    .exact SetTable.fits_plain_off lf
   .split
    .rw[ll];exact hled
    .show t1.led=led;rw[ll];exact hled
   .rfl
   .exact Ae (hQ true h' sb (by rw[if_neg hx];exact hS))
  .refine Aa (Ae ?_);refine S6 (led:=led) gw ho hex hd hok1 hp1 (by ext) ?_ ?_ ?_ λh' sb hS=>?_
   .rw[if_pos rfl];exact lf
   .rw[if_pos rfl,ll];exact hled
   .rw[if_pos rfl];exact JX.mpr (by assumption)
   .exact Ae (hQ true h' sb (by rw[if_neg hx];exact hS))
theorem Zkt (a)
  (h:Q₁ (.ref s.heap.objs.size) {s with heap:=s.heap.push {cls:=.type "set",dict:=none,data:=.set #[] 0 (.fresh 0 0 (!(w.params.followText "set-order")))} }) :
  D0 (AA prog w) A (.call (.builtin "set.__new__") ⟨[.type "set",a],[]⟩) (wants Q₁ E) s:=by
 refine YR ?_;show Av _ A.in1 (do checkBuiltinCall "set.__new__" ⟨[.type "set",a],[]⟩;NH (.builtin "set.__new__" ⟨[.type "set",a],[]⟩)) _ _ s;refine Aa (Ch (PySem.F.newCall_set_1 a) (Ae ⟨FY F.plain_set_new _,DG F.entry_set_new ?_⟩));rw[CU F.plain_set_new _];unfold Er.«set.__new__» RP;have hsub:=K6;obtain⟨hp,g,d,tk,os⟩:=s;dsimp only;wp_walk;refine Dj (Ae ?_);dsimp only;simp only[newObj];refine Aa (wpAny_alloc (Ae ?_));exact Ae h
noncomputable def fm (xs:List Str):List Str:=xs.foldl (λks x=>if x∈ks then ks else ks++[x]) []
theorem qU (xs)(x:Str):fm (xs++[x])=if x∈fm xs then fm xs else fm xs++[x]:=by
 unfold fm;rw[JU];rfl
theorem Zlo (xs:List Str):∀ks,(xs.foldl (λks x=>if x∈ks then ks else ks++[x]) ks).length<=ks.length+xs.length:=by
 induction xs with
 |nil=>intro ks;exact AJ _
 |cons x xs ih=>
  intro ks;rw[DR,AO];refine A3 (ih _) ?_;split
  .ext
  .rw[As];simp only[EY];ext
theorem UF (xs:List Str):(fm xs).length<=xs.length:=by
 have:=Zlo xs [];simpa[fm]using this
theorem CV.moved (hS:CV w s.heap S ks led)(hm:Moved wr G s s')(hn:S∉wr):CV w s'.heap S ks led:=by
 obtain⟨o,es,ep,t,ho,Db⟩:=hS;exact⟨o,es,ep,t,hm.heap S _ hn ho,Db⟩
section
variable          {St:Nat->Aj->Prop}
theorem Znv (W:WalksS prog w A.in1 I fp wr G n P St)(S:Ao)(hSf:S∉fp)(xs:List Str)(hx:xs.length=n)
  (hval:∀i v (h:i<xs.length),P i v->∃t,v=.str xs[i] t) (hb:n+1<Bi) (led:Bool) :
  ∀k i s,n-i=k->i<=n->St i s ->
   CV w s.heap S (fm (xs.take i)) led ->
   (∀s',Moved (S::wr) G s s'->CV w s'.heap S (fm xs) led->R (.ok (.ret .none)) s') ->
   D0 (AA prog w) A (.builtin "set.update.loop" ⟨[.ref S,.ref I],[]⟩) R s:=by
 have hSw:S∉wr:=λh=>hSf (W.sub _ h);have hsub:∀b∈wr,b∈S::wr:=λb hb=>AE _ hb;intro k;induction k with
 |zero=>
  intro i s hk hi hst hS hR;have hin:i=n:=by ext
  subst hin;refine DG F.entry_set_update_loop ?_;rw[CU F.plain_set_update_loop _];show Av _ A.in1 (Iy (.ref I) >>= _) _ _ s;refine Aa (W.done s _ _ hst λs' hm=>?_);show Av _ A.in1 (ret F6) _ _ s';rw[BR (by ext)]at hS;exact Ae (hR s' (hm.mono hsub) (hS.moved hm hSw))
 |succ k ih=>
  intro i s hk hi hst hS hR;have hlt:i<n:=by ext
  refine DG F.entry_set_update_loop ?_;rw[CU F.plain_set_update_loop _];show Av _ A.in1 (Iy (.ref I) >>= _) _ _ s;refine Aa (W.item i s _ _ hlt hst λv s' hP hst' hm=>?_);obtain⟨t,rfl⟩:=hval i v (by ext) hP;have hS':=hS.moved hm hSw;show Av _ A.in1 (GF [Dk xs[i] t] (setAdd S (.str xs[i] t)) >>= _) _ _ s';refine Aa (BZ ?_);unfold setAdd;refine BZ ?_;refine Aa ((BC prog w).pyHash (strKind_is _ _ _ _) ?_)
  have hroom:(fm (xs.take i)).length+1<Bi:=by
   have:=UF (xs.take i);rw[AZ]at this;ext
  refine kN hS' hroom λb h' hsb hS2=>?_;have e:xs.take (i+1)=xs.take i++[xs[i]]:=by rw[JT (by ext)]
  rw[<- qU,<- e]at hS2;refine Ae ⟨FY F.plain_set_update_loop _,ih (i+1) _ (by ext) hlt (W.frame _ s' _ _ hst' (JO _) λb hb o e=>?_) hS2 λs'' hm'' hS''=>?_⟩
  .rw[hsb.2 b (λh:b=S=>hSf (by rw[<- h];exact hb))];exact e
  .refine hR s'' (Moved.trans W.gtrans ((hm.mono hsub).then_heap (JO _) λb o hb e=>?_) hm'') hS'';rw[hsb.2 b (λh:b=S=>hb (by rw[h];exact AF))];exact e
end
theorem kM (hg:h.get? a=some {cls:=.type "set",dict:=none,data:=.set #[] 0 (.fresh 0 0 led)})(e:led=led'):CV w h a (fm ([]:List Str)) led':=by
 subst e;exact⟨_,#[],0,_,hg,⟨rfl,rfl,rfl⟩,rfl,λe he=>absurd he (by simp),Eh _,by decide,rfl,rfl,λh=>absurd rfl h⟩
theorem Pc (ft:TypeCalled T newId initId)(hct:checkTypeCall T ⟨args,[]⟩=pure ())
  (hnew:D0 (AA prog w) A.in1 (.call (.builtin newId) ⟨.type T::args,[]⟩) (wants Q₁ E) s)
  (hini:∀obj s₁,Q₁ obj s₁->s₁.TypeIs obj T/\D0 (AA prog w) A.in1 (.call (.builtin initId) ⟨obj::args,[]⟩) (wants (λr s₂=>r=.none/\Q obj s₂) E) s₁) :
  Av (AA prog w) A (IA (.type T) args) Q E s:=by
 have f1:=ft.notType;have f2:=ft.canCreate;have f3:=ft.made;have f4:=ft.sub;have f5:=ft.init.lookup;obtain⟨c,tl,f6⟩:=ft.mro;refine TK (YR ?_);show Av _ _ (callAny (.type T) _) _ _ _;refine Ae ⟨Code.quiet_builtin _ (by nofun),DG F.entry_type_call ?_⟩;rw[Around.under_plain (weight_type_call_type T args []) rfl]
 repeat (any_goals (first | assumption | wp_step))
 refine GG hnew λr s₁ hr=>?_
 match r,hr with
 |.error e,hr=>exact hr
 |.ok (.ret obj),hr=>
  obtain⟨hT,hi⟩:=hini _ _ hr;have f7:=ft.init.bind obj
  repeat (any_goals (first | assumption | wp_step))
  refine GG hi λr₂ s₂ hr₂=>?_
  match r₂,hr₂ with
  |.error e,hr₂=>exact hr₂
  |.ok (.ret _),⟨rfl,hq⟩=>repeat (any_goals (first | assumption | wp_step))
set_option maxHeartbeats 3200000 in
theorem Znw {Q:Aj->Prop}(hh:A.handled=none)
  (hS:s.heap.get? S=some {cls:=.type "set",dict:=none,data:=.set #[] 0 (.fresh 0 0 led)}) (hl:s.heap.IsList l items) (hx:xs.length=items.size)
  (hi:∀i v (h:i<xs.length),items[i]? = some v->∃t,v=.str xs[i] t) (hb:items.size+1<Bi)
  (h:∀h' tk,CV w h' S (fm xs) led->(∀b o,b≠S->s.heap.get? b=some o->h'.get? b=some o)->Q {s with heap:=h',toks:=tk}) :
  D0 (AA prog w) A (.call (.builtin "set.__init__") ⟨[.ref S,.ref l],[]⟩) (wants (λr s₂=>r=.none/\Q s₂) E) s:=by
 have hT:s.TypeIs (.ref S) "set":=⟨_,hS,rfl⟩;have hSlt:=Ar hS
 have ne:l≠S:=λe=>by
  subst e;obtain⟨o,ho,hc,-⟩:=hl;rw[hS]at ho;cases ho;exact absurd (show DX "set" = DX "list" from hc) (by decide)
 refine codeAny_call_builtin F.called_set.init.plain F.entry_set_init (check_set_init_1 hT ?_);have hl0:=hl;symm;obtain⟨⟨lc,ld,ldata,lsl⟩,hol,hcl,nl,hdl⟩:=hl;cutsat;dsimp only at hcl hdl;subst hcl;subst hdl;have f1:=PySem.F.sub_list_set;have f2:=PySem.F.sub_list_frozenset;have f3:(DX "list" == DX "dict")=false:=by decide
 unfold Er.«set.__init__» noKeywords HF;generalize hPI:TR=PI;wp_walk;subst hPI;refine Hx hl0 (Aa (bS ?_));have hllt:=Ar hol
 refine Znv ((Wu (by simp[hh]) _ l (A8 hllt) items).toS) S (by simp[A8 hSlt,Bm ne]) xs hx (λi v hlt hv=>hi i v hlt hv) hb led (items.size-0) 0 _ (by ext) (Ek _)
  ⟨⟨_,AB _ rfl,rfl,rfl⟩,hl0.push _⟩ (kM (Ah _ hS) rfl) ?_
 intro s' hm hS';obtain⟨h',g',d',tk',os'⟩:=s';have eg:=hm.gens;have ed:=hm.drawn;have eo:=hm.os;subst eg;subst ed;subst eo;refine Ae (Ae ⟨rfl,h h' tk' hS' λb o hbS e=>hm.heap b o ?_ (Ah _ e)⟩);have:=Ar e;simp only[BD,AS,or_false,not_or];exact⟨hbS,A8 this⟩
theorem jY {prog:AX}{w:Bj}{A:Bq}{E:Ad->Aj->Prop}{s:Aj}{l:Ao}{items:Array Ad}{xs:List Str}{Q:Ad->Aj->Prop}
  (hh:A.handled=none) (hl:s.heap.IsList l items) (hx:xs.length=items.size) (hi:∀i v (h:i<xs.length),items[i]? = some v->∃t,v=.str xs[i] t) (hb:items.size+1<Bi)
  (h:∀h' tk,CV w h' s.heap.objs.size (fm xs) (!(w.params.followText "set-order"))->(∀b o,s.heap.get? b=some o->h'.get? b=some o)->Q (.ref s.heap.objs.size) {s with heap:=h',toks:=tk}) :
  Av (AA prog w) A (IA (.type "set") [.ref l]) Q E s:=by
 refine Pc F.called_set (PySem.F.typeCall_set_1 _) (Zkt (.ref l) (Q₁:=λobj s₁=>obj=.ref s.heap.objs.size/\s₁={s with heap:=s.heap.push {cls:=.type "set",dict:=none,data:=.set #[] 0 (.fresh 0 0 (!(w.params.followText "set-order")))} }) ⟨rfl,rfl⟩) ?_;rintro _ _ ⟨rfl,rfl⟩;refine⟨⟨_,AB _ rfl,rfl⟩,Znw (by simp[hh]) (AB _ rfl) (hl.push _) hx hi hb λh' tk hS' hk=>h h' tk hS' λb o e=>hk b o (A8 (Ar e)) (Ah _ e)⟩
theorem UU:cD "set_iterator" "__next__" "set_iterator.__next__":=
 .of (owner:="set_iterator") (n:="__next__") (by rw[IT,FM];kernel_rfl) (by nofun) (by nofun) (by nofun)
  (by first | exact .inl (by nofun) | exact .inr (by nofun)) (by rw[cA];kernel_rfl)
theorem bu:Lf Vg "set_iterator.__next__" = some Er.«set_iterator.__next__»:=Ws (by kernel_rfl)
theorem aa (a):cC "set_iterator.__next__" ⟨[a],[]⟩:=by
 unfold cC;rw[signature?_of (id:="set_iterator.__next__") (n:=['_','_','t','x','e','n','_','_']) (o:=['r','o','t','a','r','e','t','i','_','t','e','s']) (by kernel_rfl) (show OX.lookup (RF ['r','o','t','a','r','e','t','i','_','t','e','s'].reverse)=some Ks by kernel_rfl)]
 kernel_rfl
theorem Zk5:Lf Vg "set.__iter__" = some Er.«frozenset.__iter__»:=JA (id':="frozenset.__iter__") (by kernel_rfl) rfl (by nofun) (by kernel_rfl)
theorem Ky :∀(l:List α) (i:Nat) (h:i<l.length),(l[i]::l.eraseIdx i).Perm l
 |x::xs,0,_=>Eh _
 |x::xs,i+1,h=>by
  have h':i<xs.length:=by simpa using h
  exact(O3 x xs[i] _).trans ((Ky xs i h').cons x)
theorem ZiI (hn:n≠0)(h:∀i,i<n->∀d,Q i {s with drawn:=d}):Av M A (choose src n) Q E s:=
 λΓ p _=>⟨hn,h _ (Qd _ (Nat.pos_of_ne_zero hn)) _⟩
theorem ZfW :∀n xs (s:Aj) (Q:List α->Aj->Prop),xs.length<=n->(∀ys d,ys.Perm xs->Q ys {s with drawn:=d})->Av M A (drawOrder n xs) Q E s:=by
 intro n;induction n with
 |zero=>
  intro xs s Q hl h;cases xs with
  |nil=>exact Ae (h [] s.drawn (Eh _))
  |cons x xs=>exact absurd hl (Nat.not_succ_le_zero _)
 |succ n ih=>
  intro xs s Q hl h;cases xs with
  |nil=>exact Ae (h [] s.drawn (Eh _))
  |cons x xs=>
   unfold drawOrder;refine Aa (ZiI (by simp) λi hi d=>?_);rw[Ag hi];dsimp only;refine Aa (ih _ _ _ ?_ λys d' hp=>Ae (h _ d' ?_))
   .rw[Gc hi];simp only[AO]at hl ⊢;ext
   .exact(hp.cons _).trans (Ky _ _ hi)
theorem qV (f):∀(fuel k:Nat) (left:List α) (out:Array α),left.length<=fuel->(K9 f fuel k left out).toList.Perm (out.toList++left)
 |0,k,[],out,_=>by unfold K9;simp
 |fuel+1,k,left,out,h=>by
  unfold K9;cases left with
  |nil=>simp
  |cons x xs=>
   have hi:f k%(x::xs).length<(x::xs).length:=Qd _ (by simp);rw[Ag hi];dsimp only;refine(qV f fuel _ _ _ ?_).trans ?_
   .rw[Gc hi];simp only[AO]at h ⊢;ext
   .rw[PK,Bs];exact(Eh _).append (Ky _ _ hi)
theorem bz (f)(xs:Array α):(Ia f xs).toList.Perm xs.toList:=by
 have:=qV f xs.size 0 xs.toList #[] (by simp);simpa[Ia]using this
def Rz (w:Bj)(h:BU)(I S p i:Nat)(ord:List Ad):Prop:=
  ∃(o so:Obj) (first:Ad) (es:Array (Int×Ad)) (ep:Nat) (t:Ds),h.get? I=some o/\o.cls=DX "set_iterator"/\o.data=Ku #[first,.int i 0,.ref S,.int es.size 0,.int ep 0]/\h.get? S=some so/\so.data=Iq es ep t/\t.fits es.size=true/\ord.length=es.size /\
    ((∃ (po:Obj) (js:List Nat) (c:Nat),first=AC p/\h.get? p=some po/\po.data=SN (js.map λj:Nat=>DL j 0).toArray c/\ord.map some=js.map λj=>es[j]?.map (·.2))
   \/(∃sl tk,first=DL sl tk/\w.params.followText "set-order" = true/\ord=(Ia (w.params.setOrder S ep) es).toList.map (·.2))
   \/(∃ sl:Nat,first=DL sl 0/\w.params.followText "set-order" = false/\t.led=true/\es.size<=1/\ord=es.toList.map (·.2)/\(i=0->sl=0)/\(i≠0->∀ j,t.place[0]? = some j->sl=j+1)))
theorem Rz.typeIs {s:Aj}(h:Rz w s.heap I S p i ord):s.TypeIs (.ref I) "set_iterator":=by
 symm;obtain⟨o,so,first,es,ep,t,ho,hc,-⟩:=h;cutsat;exact⟨o,ho,hc⟩
theorem Rz.kept (x:Rz w h I S p i ord)(e:∀b∈[I,S,p],∀o,h.get? b=some o->h'.get? b=some o):Rz w h' I S p i ord:=by
 symm;obtain⟨o,so,first,es,ep,t,ho,hc,hd,hso,hsd,hf,hl,m⟩:=x;cutsat;refine⟨o,so,first,es,ep,t,e I (by simp) _ ho,hc,hd,e S (by simp) _ hso,hsd,hf,hl,?_⟩;rcases m with⟨po,js,c,m1,m2,m3⟩|m|m
 .exact .inl ⟨po,js,c,m1,e p (by simp) _ m2,m3⟩
 .exact .inr (.inl m)
 .exact .inr (.inr m)
theorem lK (ho:s.heap.get? a=some o)(hd:o.data=.set es ep t)(hf:t.fits es.size=true)(h:Q es.size s) :
  Av (AA prog w) A (IC a) Q E s:=by
 unfold IC TQ;exact Aa (Aa (A7 ho hd hf (Ae (Ae h))))
theorem bj (ho:s.heap.get? a=some o)(hd:o.data=.set es ep t)(hf:t.fits es.size=true)(h:Q es s) :
  Av (AA prog w) A (TQ a) Q E s:=by
 unfold TQ;exact Aa (A7 ho hd hf (Ae h))
theorem Wi (ho:s.heap.get? a=some o)(hd:o.data=.set es ep t)(hf:t.fits es.size=true)(h:Q ep s) :
  Av (AA prog w) A (bX a) Q E s:=by
 unfold bX;exact Aa (A7 ho hd hf (Ae h))
theorem ZfV (ho:s.heap.get? a=some o)(hd:o.data=.set es ep t)(hf:t.fits es.size=true)(h:Q (!(w.params.followText "set-order") && (!t.plain && decide (es.size > 1))) s) :
  Av (AA prog w) A (setDrawn a) Q E s:=by
 unfold setDrawn Iw;exact Aa (A7 ho hd hf (Aa (Aa (Dj (Ae (Ae h))))))
theorem bE :∀{es:List (Int×Ad)},IQ w es->Lg (es.map (·.2)) (GO es)
 |[],_=>.nil
 |e::es,h=>by
  obtain⟨x,t,rfl⟩:=h e (by simp);exact .cons x t (bE λe he=>h e (by simp[he]))
theorem oN {es:List (Int×Ad)}:∀(js:List Nat),(∀j∈js,j<es.length)->∃fs:List (Int×Ad),js.map (λj=>es[j]?)=fs.map some/\fs=js.filterMap λj=>es[j]?
 |[],_=>⟨[],rfl,rfl⟩
 |j::js,h=>by
  obtain⟨fs,h1,h2⟩:=oN js λk hk=>h k (by simp[hk]);have hj:=h j (by simp);refine⟨es[j]::fs,?_,?_⟩
  .rw[AQ,AQ,h1,Ag hj]
  .rw[C2,Ag hj,h2]
theorem uM (es:List (Int×Ad)):(Bu es.length).filterMap (λj=>es[j]?)=es:=by
 induction es with
 |nil=>rfl
 |cons e es ih=>rw[AO,EF,C2];simp only[He,Jr];rw[show(λj=>(e::es)[j]?) ∘ Nat.succ=λj=>es[j]? from by funext j;simp,ih]
set_option maxHeartbeats 1000000 in
theorem Zkx (hS:CV w s.heap S ks (!(w.params.followText "set-order")))
  (hQ:∀(h':BU) d (I p:Nat) (ord:List Ad),Rz w h' I S p 0 ord->I∉[S,p]->(∀b o,s.heap.get? b=some o->h'.get? b=some o)->(∀b∈[I,p],s.heap.get? b=none\/b=S)->(∃ys,ys.Perm ks/\Lg ord ys)->Q (.ref I) {s with heap:=h',drawn:=d}) :
  Av (AA prog w) A (TR (.ref S)) Q E s:=by
 symm;obtain⟨o,es,ep,t,ho,hex,hd,hes,hp,hsz,hfit,hled,hpl⟩:=hS;cutsat;have hT:s.TypeIs (.ref S) "set":=⟨o,ho,hex.1⟩;refine Vd hT F.slot_set_iter (Cd F.slot_set_iter hT Zk5 ?_ (F.args_set_iter_1 _));unfold Er.«frozenset.__iter__»;refine Aa (Ch rfl ?_);refine Aa (lK ho hd hfit ?_);refine Aa (ZfV ho hd hfit ?_);have hle:es.size<4096:=hsz
 have none_at:∀b,s.heap.objs.size<=b->s.heap.get? b=none:=λb hb=>by
  cases hq:s.heap.get? b with
  |none=>rfl
  |some o'=>exact absurd (Ar hq) (cE.mpr hb)
 have hSlt:S<s.heap.objs.size:=Ar ho;by_cases c:(!(w.params.followText "set-order") && (!t.plain && decide (es.size > 1)))=true
 .rw[if_pos c];refine Aa (ZfW es.size (Bu es.size) _ _ (by simp) λjs d hjs=>?_);have hjl:js.length=es.size:=by simpa using hjs.length_eq
  refine Aa (B6 ?_ (by simp only[sizeOk,AV,Ab];have:(4096:Nat)<=An:=(by decide);ext));have hS1:(s.heap.push {cls:=DX "tuple",dict:=none,data:=SN (js.map λi:Nat=>LJ i).toArray}).get? S=some o:=Ah _ ho;refine Aa (Wi hS1 hd hfit ?_);refine Aa (B6 (Ae ⟨_,rfl, "set_iterator",_,⟨_,AB _ rfl,rfl⟩,UU.lookup,?_⟩));obtain⟨fs,f1,f2⟩:=oN (es:=es.toList) js λj hj=>by simpa using hjs.mem_iff.mp hj
  have fp:fs.Perm es.toList:=by
   rw[f2];have:=hjs.filterMap (λj=>es.toList[j]?);rw[show es.size=es.toList.length by simp,uM]at this;exact this
  have hfl:fs.length=es.size:=by simpa using fp.length_eq
  have fok:IQ w fs:=λe he=>hes e (fp.mem_iff.mp he);refine hQ _ d _ s.heap.objs.size (fs.map (·.2)) ⟨_,o,_,es,ep,t,AB _ rfl,rfl,rfl,Ah _ hS1,hd,hfit,by simpa using hfl,.inl ⟨_,js,_,rfl,Ah _ (AB _ rfl),rfl,?_⟩⟩ ?_ ?_ ?_ ⟨GO fs,?_,bE fok⟩
  .have:=congrArg (Fc (Hc λe:Int×Ad=>e.2)) f1;rw[BA,BA]at this;rw[BA];refine Eq.trans ?_ (this.symm.trans ?_)
   .rfl
   .apply Dq;intro j hj;simp
  .rw[Gd];simp only[BD,AS,or_false,not_or];exact⟨E8 (Ev hSlt),RH _⟩
  .intro b o' e;exact Ah _ (Ah _ e)
  .intro b hb;left
   rw[Gd]at hb;simp only[BD,AS,or_false]at hb;exact none_at b (by ext)
  .exact(fp.map _).trans hp
 .rw[if_neg c];refine Aa (Ae ?_);refine Aa (Wi ho hd hfit ?_);refine Aa (B6 (Ae ⟨_,rfl, "set_iterator",_,⟨_,AB _ rfl,rfl⟩,UU.lookup,?_⟩))
  have side:s.heap.objs.size∉[S,S]/\(∀b∈[s.heap.objs.size,S],s.heap.get? b=none\/b=S):=by
   refine⟨by simp only[BD,AS,or_false,not_or];exact⟨E8 hSlt,E8 hSlt⟩,λb hb=>?_⟩;simp only[BD,AS,or_false]at hb;rcases hb with rfl|rfl
   .exact .inl (none_at _ (AJ _))
   .exact .inr rfl
  cases ft:w.params.followText "set-order" with
  |true=>
   have pp:=bz (w.params.setOrder S ep) es;have pl:(Ia (w.params.setOrder S ep) es).toList.length=es.size:=by simpa using pp.length_eq
   exact hQ _ s.drawn _ S ((Ia (w.params.setOrder S ep) es).toList.map (·.2)) ⟨_,o,_,es,ep,t,AB _ rfl,rfl,rfl,Ah _ ho,hd,hfit,by rw[Ab];exact pl,.inr (.inl ⟨_,_,rfl,ft,rfl⟩)⟩ side.1 (λb o' e=>Ah _ e) side.2 ⟨_,(pp.map _).trans hp,bE λe he=>hes e (pp.mem_iff.mp he)⟩
  |false=>
   have h1:es.size<=1:=by
    rcases G1 1 es.size with h|h
    .have hq:=hpl (by ext);rw[ft,hq]at c;simp at c;ext
    .exact h
   rw[ft]at hled;exact hQ _ s.drawn _ S (es.toList.map (·.2)) ⟨_,o,_,es,ep,t,AB _ rfl,rfl,rfl,Ah _ ho,hd,hfit,by simp,.inr (.inr ⟨0,rfl,ft,hled,h1,rfl,λ_=>rfl,λh=>absurd rfl h⟩)⟩ side.1 (λb o' e=>Ah _ e) side.2 ⟨_,hp,bE hes⟩
theorem ff {prog:AX}{w:Bj}{A:Bq}{E:Ad->Aj->Prop}{s:Aj}{a:Ao}{o:Obj}{es:Array (Int×Ad)}{ep sl i:Nat}{t:Ds}{Q:Option (Ad×Nat)->Aj->Prop}(ho:s.heap.get? a=some o)(hd:o.data=.set es ep t)(hf:t.fits es.size=true)
  (ft:w.params.followText "set-order" = true) (h:Q (((Ia (w.params.setOrder a ep) es)[i]?).map λe=>(e.2,sl)) s):Av (AA prog w) A (Vj a sl i ep) Q E s:=by
 unfold Vj Iw;refine Aa (A7 ho hd hf ?_);refine Aa (Aa (Dj (Ae ?_)));have e1:(AA prog w).w.params.followText "set-order" = true:=ft;dsimp only;rw[if_pos e1];rw[if_neg (by simp)];unfold setWalk Iw;refine Aa (Aa (A7 ho hd hf ?_));refine Aa (Aa (Dj (Ae ?_)));dsimp only;rw[if_pos e1];exact Aa (Dj (Ae (Ae h)))
theorem ca {prog:AX}{w:Bj}{A:Bq}{E:Ad->Aj->Prop}{s:Aj}{a:Ao}{o:Obj}{es:Array (Int×Ad)}{ep sl i:Nat}{t:Ds}{Q:Option (Ad×Nat)->Aj->Prop}(ho:s.heap.get? a=some o)(hd:o.data=.set es ep t)(hf:t.fits es.size=true)
  (ft:w.params.followText "set-order" = false) (hl:t.led=true) (h1:es.size<=1) (h:Q (match es[C5 t.place sl]?,t.place[C5 t.place sl]? with | some (_,x),some j=>some (x,j+1) | _,_=>none) s):Av (AA prog w) A (Vj a sl i ep) Q E s:=by
 unfold Vj Iw;refine Aa (A7 ho hd hf ?_);refine Aa (Aa (Dj (Ae ?_)));have e1:(AA prog w).w.params.followText "set-order" = false:=ft;dsimp only;rw[if_neg (by rw[e1];simp)];split
 .next hc=>
  have h':(!t.plain && decide (es.size > 1))=true:=hc;simp at h';ext
 .refine Aa ?_;show Av _ A (if (!t.led && !es.isEmpty)=true then unsupported "set:maker-not-led" else pure ()) _ E s;rw[if_neg (by rw[hl];simp)];exact Ae (Ae h)
theorem Zn8 (xs)(j)(h:xs.size=0):C5 xs j=0:=by
 have:=Ke h;subst this;rfl
theorem Zn7 (k):C5 #[k] 0=0:=by
 simp[C5,Lh]
theorem μ (k):C5 #[k] (k+1)=1:=by
 simp[C5,Lh]
theorem VW {s:BU}{I:Ao}{o:Obj}{vs:Array Ad}(ho:s.get? I=some o)(hc:o.cls=DX "set_iterator")(hd:o.data=Ku vs)(k)(x) :
  ∃o',(s.update I (Obj.mapFields (·.setIfInBounds k x))).get? I=some o'/\o'.cls=DX "set_iterator"/\o'.data=Ku (vs.setIfInBounds k x):=
 ⟨_,Ej _ ho (Obj.isFreed_of_fields (Qh hd _)),(Obj.cls_mapFields ..).trans hc,Qh hd _⟩
set_option maxHeartbeats 2000000 in
theorem Ο {prog:AX}{w:Bj}{A:Bq}{E:Ad->Aj->Prop}{s:Aj}{I S p i:Nat}{ord:List Ad}{Q:Option Ad->Aj->Prop}(hit:Rz w s.heap I S p i ord)(hI:I∉[S,p])(hi:i<ord.length)
  (hQ:∀h',Rz w h' I S p (i+1) ord->BL I s.heap h'->Q (some ord[i]) {s with heap:=h' }):Av (AA prog w) A (Iy (.ref I)) Q E s:=by
 symm;obtain⟨o,so,first,es,ep,t,ho,hc,hd,hso,hsd,hf,hl,m⟩:=id hit;cutsat;have hIS:S≠I:=λe=>hI (by simp[e]);have hIp:p≠I:=λe=>hI (by simp[e]);unfold Iy;refine Aa (wpAny_attempt (HZ (name:=Al "__next__") hit.typeIs UU (Cd UU hit.typeIs bu ?_ (aa _))));unfold Er.«set_iterator.__next__»;refine Aa (Ch (a:=(AC I,[])) rfl ?_);refine Aa (bT ho hd ?_);dsimp only;refine Aa (bj hso hsd hf ?_);rw[if_neg (by simp)];rcases m with⟨po,js,c,rfl,hpo,hpd,hmap⟩|⟨sl,tk,rfl,ft,rfl⟩|⟨sl,rfl,ft,hled,h1,rfl,z0,z1⟩
 .have hjl:js.length=ord.length:=by
   have:=congrArg Ey hmap;simpa using this.symm
  have hat:∃e,es[js[i]'(by ext)]? = some e/\e.2=ord[i]:=by
   have h2:=congrArg (λl:List (Option Ad)=>l[i]?) hmap;try dsimp only at h2
   rw[AH,AH,Ag hi,Ag (show i<js.length by ext)]at h2;simp only[G0,Ie]at h2;cases q:es[js[i]'(by ext)]? with
   |none=>rw[q]at h2;cases h2
   |some e=>rw[q]at h2;exact⟨e,rfl,(Bb h2).symm⟩
  obtain⟨e,he,hev⟩:=hat
  dsimp only;refine Aa (Nw hpo hpd ?_);dsimp only
  have g1:((js.map λj:Nat=>DL j 0).toArray)[(i:Int).toNat]? = some (.int (js[i]'(by ext):Nat) 0):=by
   rw[Bt,D6,AH,Ag (show i<js.length by ext)];rfl
  rw[g1];dsimp only;refine Aa ?_;unfold setNextDrawn;refine Aa (A7 hso hsd hf ?_);dsimp only;rw[if_neg (by simp),Bt,he];refine Ae ?_;refine Aa (Dm ho hd (by simp) (Ae ⟨_,rfl,Ae ?_⟩));rw[hev];obtain⟨o',ho',hc',hd'⟩:=VW ho hc hd 1 (LJ ((i:Int)+1));exact hQ _ ⟨o',so,_,es,ep,t,ho',hc',hd',(Bc _ _ (Bm hIS)).trans hso,hsd,hf,hl,.inl ⟨po,js,c,rfl,(Bc _ _ (Bm hIp)).trans hpo,hpd,hmap⟩⟩ (Bf ..)
 .dsimp only;refine Aa (ff hso hsd hf ft ?_);have hi':i<(Ia (w.params.setOrder S ep) es).size:=by simpa using hi
  rw[Bt i,Bt ep,AW hi'];dsimp only[Hc];refine Aa (Dm ho hd (by simp) ?_);obtain⟨o',ho',hc',hd'⟩:=VW ho hc hd 0 (LJ (sl.toNat:Int));refine Aa (Dm (s:={s with heap:=_}) ho' hd' (by simp) (Ae ⟨_,rfl,Ae ?_⟩));obtain⟨o2,ho2,hc2,hd2⟩:=VW ho' hc' hd' 1 (LJ ((i:Int)+1));have z:=hQ _ ⟨o2,so,_,es,ep,t,ho2,hc2,hd2,(Bc _ _ (Bm hIS)).trans ((Bc _ _ (Bm hIS)).trans hso),hsd,hf,hl,.inr (.inl ⟨_,_,rfl,ft,rfl⟩)⟩ ((Bf ..).trans (Bf ..));rw[Jy,NV]at z;exact z
 .dsimp only;refine Aa (ca hso hsd hf ft hled h1 ?_);have hi':i<es.size:=by simpa using hi
  have i0:i=0:=by ext
  subst i0;have e0:=z0 rfl;subst e0
  have hps:t.place.size=es.size:=by
   unfold EH at hf;simp at hf;exact hf.1
  have hs1:es.size=1:=by ext
  obtain⟨k,hk⟩:∃k,t.place=#[k]:=by
   have:t.place.toList.length=1:=by simp[hps,hs1]
   obtain⟨k,hk⟩:=Nj.mp this;exact⟨k,by rw[<- Ii (xs:=t.place),hk]⟩
  rw[hk,show((0:Nat):Int).toNat=0 from rfl,Zn7,AW hi'];try dsimp only
  try rw[show(#[k]:Array Nat)[0]? = some k from rfl]
  try dsimp only
  refine Aa (Dm ho hd (by simp) ?_);obtain⟨o',ho',hc',hd'⟩:=VW ho hc hd 0 (LJ ((k+1:Nat):Int));refine Aa (Dm (s:={s with heap:=_}) ho' hd' (by simp) (Ae ⟨_,rfl,Ae ?_⟩));obtain⟨o2,ho2,hc2,hd2⟩:=VW ho' hc' hd' 1 (LJ (((0:Nat):Int)+1));have z:=hQ _ ⟨o2,so,_,es,ep,t,ho2,hc2,hd2,(Bc _ _ (Bm hIS)).trans ((Bc _ _ (Bm hIS)).trans hso),hsd,hf,hl,.inr (.inr ⟨k+1,rfl,ft,hled,h1,rfl,λh=>absurd h (by ext),λ_ j hj=>by rw[hk]at hj;cases hj;rfl⟩)⟩ ((Bf ..).trans (Bf ..));rw[Jy,NV]at z;exact z
theorem kK {prog:AX}{w:Bj}{A:Bq}{E:Ad->Aj->Prop}{s:Aj}{Q:Option Ad->Aj->Prop}{R:Fin->Aj->Prop}(hh:A.handled=none)
  (hQ:∀h',(∀b o,s.heap.get? b=some o->h'.get? b=some o)->Q none {s with heap:=h' }) :
  Av (AA prog w) A.in1 (do raiseNew (<- newExc (.type "StopIteration") [])) R
   (λe s'=>Av (AA prog w) A (do if <- isInstance e (.type "StopIteration")then pure none else throw e) Q E s') s:=by
 refine Aa ?_;simp only[newExc,newTuple];refine Aa (B6 ?_ (by size_fits));refine Aa (Ch (by first | rfl | (simp only[firstArgMember];rfl)) ?_);refine B6 ?_ (by size_fits);simp only[raiseNew];refine Aa (wpAny_handled ?_);rw[show A.in1.handled=none from hh];refine Aa (Ae (wpAny_throw ?_));refine Aa (HY ⟨_,AB _ rfl,rfl⟩ isSubtype_stop ?_);exact Ae (hQ _ λb o e=>Ah _ (Ah _ e))
set_option maxHeartbeats 2000000 in
theorem Ξ {prog:AX}{w:Bj}{A:Bq}{E:Ad->Aj->Prop}{s:Aj}{I S p:Nat}{ord:List Ad}{Q:Option Ad->Aj->Prop}(hh:A.handled=none)(hit:Rz w s.heap I S p ord.length ord)
  (hQ:∀h',(∀b o,b≠I->s.heap.get? b=some o->h'.get? b=some o)->Q none {s with heap:=h' }):Av (AA prog w) A (Iy (.ref I)) Q E s:=by
 symm;obtain⟨o,so,first,es,ep,t,ho,hc,hd,hso,hsd,hf,hl,m⟩:=id hit;cutsat;unfold Iy;refine Aa (wpAny_attempt (HZ (name:=Al "__next__") hit.typeIs UU (Cd UU hit.typeIs bu ?_ (aa _))));unfold Er.«set_iterator.__next__»;refine Aa (Ch (a:=(AC I,[])) rfl ?_);refine Aa (bT ho hd ?_);dsimp only;refine Aa (bj hso hsd hf ?_);rw[if_neg (by simp)];rcases m with⟨po,js,c,rfl,hpo,hpd,hmap⟩|⟨sl,tk,rfl,ft,rfl⟩|⟨sl,rfl,ft,hled,h1,rfl,z0,z1⟩
 .have hjl:js.length=ord.length:=by
   have:=congrArg Ey hmap;simpa using this.symm
  dsimp only;refine Aa (Nw hpo hpd ?_);dsimp only
  have g1:((js.map λj:Nat=>DL j 0).toArray)[(ord.length:Int).toNat]? = none:=by
   rw[Bt,D6,AH,Bz (by ext)];rfl
  rw[g1];dsimp only;refine Aa (Dm ho hd (by simp) ?_);obtain⟨o',ho',hc',hd'⟩:=VW ho hc hd 0 (LJ 0);refine Aa (Dm (s:={s with heap:=_}) ho' hd' (by simp) ?_);exact kK hh λh' k=>hQ h' λb o hb e=>k b o ((Bc _ _ (Bm hb)).trans ((Bc _ _ (Bm hb)).trans e))
 .dsimp only;refine Aa (ff hso hsd hf ft ?_);rw[Bt (Ey _),Bt ep,DY (by simp)];dsimp only[Hc];refine Aa (Dm ho hd (by simp) ?_);exact kK hh λh' k=>hQ h' λb o hb e=>k b o ((Bc _ _ (Bm hb)).trans e)
 .dsimp only;refine Aa (ca hso hsd hf ft hled h1 ?_)
  have hps:t.place.size=es.size:=by
   unfold EH at hf;simp at hf;exact hf.1
  have none_there:es[C5 t.place ((sl:Int)).toNat]? = none:=by
   rcases G1 0 es.size with h|h
   .have hs1:es.size=1:=by ext
    obtain⟨k,hk⟩:∃k,t.place=#[k]:=by
     have:t.place.toList.length=1:=by simp[hps,hs1]
     obtain⟨k,hk⟩:=Nj.mp this;exact⟨k,by rw[<- Ii (xs:=t.place),hk]⟩
    have:=z1 (by rw[Ab,BH];ext) k (by rw[hk];rfl);subst this;rw[hk,Bt,μ];exact DY (by ext)
   .rw[Zn8 _ _ (by ext)];exact DY (by ext)
  rw[none_there];dsimp only;refine Aa (Dm ho hd (by simp) ?_);exact kK hh λh' k=>hQ h' λb o hb e=>k b o ((Bc _ _ (Bm hb)).trans e)
theorem ak:cD "set_iterator" "__iter__" "set_iterator.__iter__":=
 .of (owner:="set_iterator") (n:="__iter__") (by rw[IT,FM];kernel_rfl) (by nofun) (by nofun) (by nofun)
  (by first | exact .inl (by nofun) | exact .inr (by nofun)) (by rw[cA];kernel_rfl)
theorem Zhk:Lf Vg "set_iterator.__iter__" = some Er.«dict_keyiterator.__iter__»:=JA (id':="dict_keyiterator.__iter__") (by kernel_rfl) rfl (by nofun) (by kernel_rfl)
theorem ZiF (a):cC "set_iterator.__iter__" ⟨[a],[]⟩:=by
 unfold cC;rw[signature?_of (id:="set_iterator.__iter__") (n:=['_','_','r','e','t','i','_','_']) (o:=['r','o','t','a','r','e','t','i','_','t','e','s']) (by kernel_rfl) (show OX.lookup (RF ['r','o','t','a','r','e','t','i','_','t','e','s'].reverse)=some Ks by kernel_rfl)]
 kernel_rfl
theorem WU (hh:A.handled=none)(hI:I∉[S,p]) :
  WalksS prog w A I [I,S,p] [I] (λa b=>b=a) ord.length (λi v=>ord[i]? = some v) (λi s=>Rz w s.heap I S p i ord) where
 sub:=λb hb=>by simp at hb;simp[hb]
 grefl:=λ_=>rfl
 gtrans:=λa b c h1 h2=>h2.trans h1
 frame:=λi s h' tk hst _ hk=>hst.kept hk
 item:=λi s Q E hi hst hQ=>Ο hst hI hi λh' hst' sb=>hQ _ _ (Ag hi) hst' ⟨λb o hb e=>by rw[sb.2 b (by simpa using hb)];exact e,rfl,rfl,rfl,AJ _⟩
 done:=λs Q E hst hQ=>Ξ hh hst λh' hk=>hQ _ ⟨λb o hb e=>hk b o (by simpa using hb) e,rfl,rfl,rfl,AJ _⟩
 self:=λi s Q E hst hQ=>Vd hst.typeIs ak (Cd ak hst.typeIs Zhk (by
  show Av _ _ (ret (.ref I)) _ _ s;exact Ae ⟨_,rfl, "set_iterator",_,hst.typeIs,UU.lookup,hQ⟩) (ZiF _))
theorem jU:∀{vs:List Ad}{ys:List Str},Lg vs ys->vs.length=ys.length
 |_,_,.nil=>rfl
 |_,_,.cons y t h=>by simp[jU h]
theorem Zi3:splitId "set.__len__" = some ("set", "__len__"):=by kernel_rfl
theorem vx:Nx (.type "set") "__len__" = pure (some (.builtin "set.__len__")):=by rw[IT,FM];kernel_rfl
theorem Znd (hc:c=true)(h:Av M A a Q E s):Av M A (if c=true then a else b) Q E s:=by
 rw[if_pos hc];exact h
set_option maxHeartbeats 2000000 in
theorem Zk6 (hh:A.handled=none)(hS:CV w s.heap S ks (!(w.params.followText "set-order")))
  (hQ:∀(h':BU) d tk vs ys,ys.Perm ks->Lg vs ys->(∀b o,s.heap.get? b=some o->h'.get? b=some o)->Q vs {s with heap:=h',drawn:=d,toks:=tk}) :
  Av (AA prog w) A (collect (.ref S)) Q E s:=by
 have hSlt:S<s.heap.objs.size:=by obtain⟨o,es,ep,t,ho,-⟩:=hS;exact Ar ho
 unfold collect;refine Aa (bS (DG F.entry_proto_collect ?_));rw[CU F.plain_proto_collect _];show Av _ A.in1 (Qc [] >>= λl=>NH (.builtin "list.__iadd__" ⟨[l,.ref S],[]⟩)) _ _ s;refine Aa (B6 ?_);refine Ae ⟨FY F.plain_list_iadd _,DG F.entry_list_iadd ?_⟩;rw[CU F.plain_list_iadd _];show Av _ A.in1 (Fi (.ref s.heap.objs.size) (.ref S) (.ref s.heap.objs.size)) _ _ _
 have hS1:CV w (s.heap.push {cls:=.type "list",data:=.seq ([]:List Ad).toArray}) S ks (!(w.params.followText "set-order")):=by
  obtain⟨o,es,ep,t,ho,Db⟩:=hS;exact⟨o,es,ep,t,Ah _ ho,Db⟩
 have hL:(s.heap.push {cls:=.type "list",data:=.seq ([]:List Ad).toArray}).get? s.heap.objs.size=some {cls:=.type "list",data:=.seq ([]:List Ad).toArray}:=AB _ rfl
 have hT:RG {s with heap:=s.heap.push {cls:=.type "list",data:=.seq ([]:List Ad).toArray} } (.ref S) "set":=by
  symm;obtain⟨o,es,ep,t,ho,hex,-⟩:=hS1;cutsat;exact⟨o,ho,hex.1⟩
 unfold Fi;refine Aa (Fp hT ?_)
 rw [if_neg (by
  have:JW (.ref s.heap.objs.size) (.ref S)=false:=by simp[JW,E8 hSlt]
  rw [this];decide)]
 refine Aa (Zkx hS1 λh' d I p ord hit hIn hk hfr hord=>?_)
 have hT':RG {s with heap:=h',drawn:=d} (.ref S) "set":=by
  obtain⟨o,ho,hc⟩:=hT;exact⟨o,hk _ _ ho,hc⟩
 refine Aa (BZ ?_);unfold Zj;refine Aa (YQ hT' vx ?_);dsimp only;rw[Zi3];dsimp only;refine Aa (HY hT' K6 ?_);rw[if_neg (by decide)];refine Znd (by kernel_rfl) ?_
 .refine Aa (Fp hT' (Ae ?_))
  show Av _ A.in1 (RB "list.extend.makes-room" >>= λ_=>Zi (.ref s.heap.objs.size) >>= λ_ =>
   NH (.builtin "list.extend.loop" ⟨[.ref s.heap.objs.size,.ref I,.ref s.heap.objs.size],[]⟩)) _ _ _
  refine Aa (GX ?_);have hL1:=hk _ _ hL;refine Aa ?_;show Av _ A.in1 (updateSeq s.heap.objs.size (·.push .none) >>= λ_=>updateSeq s.heap.objs.size (·.pop)) _ _ _;refine Aa (YO hL1 rfl ?_);have hL2:=Ej (HE (·.push F6)) hL1 rfl;refine YO hL2 rfl ?_;have hL3:=Ej (HE (·.pop)) hL2 rfl
  have hnot:∀b∈[I,p],s.heap.objs.size≠b:=λb hb e=>by
   rcases hfr b hb with h|h
   .rw[<- e]at h;rw[hL]at h;cases h
   .rw[h]at e;exact E8 hSlt e
  have hLn:s.heap.objs.size∉[I,S,p]:=by
   simp only[BD,AS,or_false,not_or];exact⟨hnot I (by simp),E8 hSlt,hnot p (by simp)⟩
  have oth:∀b o,b≠s.heap.objs.size->h'.get? b=some o->((h'.update s.heap.objs.size (HE (·.push F6))).update s.heap.objs.size (HE (·.pop))).get? b=some o:=
   λb o hb e=>(Bc _ _ (Bm hb)).trans ((Bc _ _ (Bm hb)).trans e)
  obtain⟨ys,hy1,hy2⟩:=hord
  have hol:ord.length<=An:=by
   symm;obtain⟨o,es,ep,t,ho,hex,hd,hes,hp,hsz,-⟩:=hS;cutsat;have l1:=hy1.length_eq;have l2:=hp.length_eq;have l3:(GO es.toList).length=es.size:=by unfold GO;rw[Ab,BH]
   have l4:=(jU hy2).symm;have:Bi<=An:=by decide
   ext
  refine Ae ⟨FY F.plain_extend_loop _,codeAny_extend_loopS (WU (by simp[hh]) hIn) ?_ _ hLn _ ord.length 0 _ _ _ rfl (Ek _) (hit.kept λb hb o e=>?_) hL3 (ItemsOf.nil _) λs' acc' c' hm hS' hacc=>?_⟩
  .exact hol
  .exact oth b o (λh=>hLn (h ▸ hb)) e
  .show Av _ A (load s.heap.objs.size >>= _) _ _ s';refine Aa (wpAny_load hS' ?_)
   have e:acc'.toList=ord:=by
    apply Fw;intro j;rcases G1 j acc'.size with h|h
    .rw[C6,AW h];exact(hacc.2 j _ (AW h)).symm
    .rw[Bz (by simpa using h),Bz (by rw[<- hacc.1];exact h)]
   obtain⟨h2,g2,d2,tk2,os2⟩:=s';have eg:=hm.gens;have ed:d2=d:=hm.drawn;have eo:os2=s.os:=hm.os;subst eg;subst ed;subst eo;refine Ae ?_;rw[e];refine hQ h2 d2 tk2 ord ys hy1 hy2 λb o e=>?_;have hb:=A8 (Ar e);refine hm.heap b o ?_ (oth b o hb (hk b o (Ah _ e)));simp only[BD,AS,or_false,not_or];refine⟨hb,λe2=>?_⟩;rcases hfr I (by simp)with h|h
   .rw[<- e2,Ah _ e]at h;cases h
   .exact hIn (by simp[h])
theorem xU (hh:A.handled=none)(hS:CV w s.heap S ks (!(w.params.followText "set-order")))(h64:ks.length<64)
  (hQ:∀(h':BU) d tk (L:Ao) (out:List Ad) (c:Nat) (ys:List Str),s.heap.get? L=none->S<L->h'.get? L=some (seqObj "list" out.toArray c)->Lg out ys->ys.Perm ks->K8 ys=true->(∀b o,s.heap.get? b=some o->h'.get? b=some o)->Q (.ref L) {s with heap:=h',drawn:=d,toks:=tk}) :
  Av (AA prog w) A (IA (.builtin "sorted") [.ref S]) Q E s:=by
 refine Calls.call_function_entry kind_sorted plain_sorted entry_sorted (args_sorted1 _) ?_;unfold Er.«sorted»;refine Aa (Ae ?_);refine Aa (Zk6 (by simp[hh]) hS λh1 d tk vs ys hy1 hy2 hk=>?_)
 have hvl:vs.length<64:=by
  have l1:=jU hy2;have l2:=hy1.length_eq;ext
 have hSL:S<h1.objs.size:=by
  obtain⟨o,es,ep,t,ho,-⟩:=hS;exact Ar (hk _ _ ho)
 refine Aa (wpAny_newList ?_);have hoL:(h1.push (seqObj "list" vs.toArray 0)).get? h1.objs.size=some (seqObj "list" vs.toArray 0):=AB _ rfl
 have hfresh:s.heap.get? h1.objs.size=none:=by
  cases hq:s.heap.get? h1.objs.size with
  |none=>rfl
  |some o=>exact absurd (Ar (hk _ _ hq)) (EX _)
 refine Aa (BZ (Cd slot_list_sort ⟨_,hoL,rfl⟩ entry_list_sort (list_sort_treeK strKind_oneLt hoL hy2.keysOf (λv₁ v₂ Db e=>keyKind_strs (by rw[<- e];exact hy2)) hvl λst' a1 a2=>⟨_,rfl,?_⟩) (args_list_sort _)));obtain⟨ss',b1,b2,b3⟩:=sorted_out_str hy2 a1 a2;obtain⟨c,hc⟩:=sortedHeap_at hoL;refine Ae ⟨_,rfl,hQ _ d tk _ _ c ss' hfresh hSL (by rw[Ii];exact hc) b1 (b2.trans hy1) b3 λb o e=>?_⟩;have hlt:=Ar (hk _ _ e);rw[sortedHeap_old (A8 hlt) (by rw[size_push'];exact Ev hlt),Heap.get?_push_ne _ _ _ (A8 hlt)];exact hk _ _ e
section
theorem A6.draw (I:A6 X Af U H s)(d:Drawn):A6 X Af U H {s with drawn:=d}:=
 ⟨I.ok,I.os,I.bare,I.base,I.loc,I.cell,I.free,I.freeC,I.pin,I.hok,I.len,I.fzd⟩
theorem bI:∀{vs:List Ad}{ys:List Str},Lg vs ys->BJ (ys.map V.str) vs
 |_,_,.nil=>.nil
 |_,_,.cons y t h=>.cons ⟨t,rfl⟩ (bI h)
def mX (K:Ac)(Q:VK)(x:V)(H1:Hp):Prop:=
 ∃p xs,x=.ref p/\FO K H1 p (xs.map V.str)/\xs.length+1<Bi/\(fm xs).length<64/\∀l ys,H1 l=none->ys.Perm (fm xs)->K8 ys=true->Q (.ref l) (CF H1 l (.lst (ys.map V.str)))
def ib (K:Ac)(ta:TE):TE:=λU H Q=>ta U H (mX K Q)
theorem Zj8 (hc:X.calm=true)(ha:PE X e ta)(hm1:X.mg "sorted" = none)(hm2:X.mg "set" = none)(hg1:Gl X "sorted":=by rfl)(hg2:Gl X "set":=by rfl)
  (he:Au [e] X.env=(false,eval e X.env)::Au [] X.env:=by rfl) :
  PE X (.Call (.Name "sorted" p1) [.Call (.Name "set" p2) [e] [] pos2] [] pos) (ib X.K ta):=by
 intro Af s U H Q I h;refine Cr (PZ I hg1 hm1 rfl ?_);refine E2 ?_ rfl rfl;show Av _ _ (Vh ((false,eval (.Call (.Name "set" p2) [e] [] pos2) X.env)::Cg pos (Au [] X.env))) _ _ s;refine Je ?_;refine Cr (PZ I hg2 hm2 rfl ?_);refine BF (Dv (Z9 ha ZS he pos2 Af s U H (λvs H1=>match vs with | [x]=>mX X.K Q x H1 | _=>False) I h) λus s1 e=>e.el λvs H1 I1 r1 q1=>?_) he rfl
 match vs,r1,q1 with
 |[x],r1,⟨p,xs,hx,hs,hz,h64,q⟩=>
  subst hx;obtain⟨u,rfl,ru⟩:=Hg r1;cases(show u=AC p from ru);obtain⟨Bn,rv,pl,hzz⟩:=I1.list hs
  have hl:xs.length=Bn.toArray.size:=by
   have:=rv.length;simpa using this
  refine jY (I1.ok.hd hc) pl.isList hl (λi v hi hv=>?_) (by ext) λh2 tk2 hS hk2=>?_
  .obtain⟨u,hu,ru⟩:=rv.get (by rw[AH,Ag hi];rfl);rw[D6]at hv;rw[hu]at hv;cases hv;exact ru
  .refine JE ?_;refine xU (I1.ok.hd hc) hS h64 λh3 d tk3 L out c ys hf hSL hL hst hp hsrt hk3=>?_;refine⟨.ref L,_,((I1.draw d).laid (o:=.lst (ys.map V.str)) (λb u eb=>hk3 b u (hk2 b u eb)) (Fu hSL) ⟨?_,out,c,bI hst,hL⟩),rfl,q L ys ?_ hp hsrt⟩
   .rw[Ab,hp.length_eq];have:(64:Nat)<=An:=by decide
    ext
   .exact I1.hok.fresh (Fu hSL)
end
noncomputable def O9 (a b:Str):Bool:=!ltCps b.cps.toList a.cps.toList
noncomputable def IH (xs:List Str):List Str:=(fm xs).mergeSort O9
theorem UK :O9 a b=true↔a.cps.toList<=b.cps.toList:=by
 unfold O9;rw[ltCps_eq];simp
theorem US (a b c:Str)(h1:O9 a b=true)(h2:O9 b c=true):O9 a c=true:=UK.mpr (List.le_trans (UK.mp h1) (UK.mp h2))
theorem We (a b:Str):(O9 a b || O9 b a)=true:=by
 rcases List.le_total a.cps.toList b.cps.toList with h|h
 .rw[UK.mpr h];rfl
 .rw[UK.mpr h,VA]
theorem aN (h1:O9 a b=true)(h2:O9 b a=true):a=b:=by
 have e:=List.le_antisymm (UK.mp h1) (UK.mp h2);cases a;cases b;simpa using e
theorem uO:∀r x,risingS x r=true->(x::r).Pairwise (λa b=>O9 a b=true)
 |[],x,_=>by simp
 |y::r,x,h=>by
  unfold risingS at h;rw[BM]at h;have ih:=uO r y h.2;rw[Pz]at ih ⊢;refine⟨λb hb=>?_,Pz.mpr ih⟩;rcases A5.mp hb with rfl|hb
  .exact h.1
  .exact US x y b h.1 (ih.1 b hb)
theorem uX:∀l,K8 l=true->l.Pairwise (λa b=>O9 a b=true)
 |[],_=>.nil
 |x::r,h=>uO r x h
theorem tI (h1:ys.Perm (fm xs))(h2:K8 ys=true):ys=IH xs:=
 G4 (λa b _ _ p q=>aN p q) (uX _ h2) (Do US We _) (h1.trans (D5 _ _).symm)
theorem jJ (xs):(IH xs).length=(fm xs).length:=(D5 _ _).length_eq
section
theorem ats_strs :∀{vs:List V}{ss:List Str},Dw Z vs (ss.map D.str)->vs=ss.map V.str
 |[],[],_=>rfl
 |v::vs,s::ss,.cons h t=>by
  cases(show v=V.str s from h);rw[ats_strs t];rfl
theorem Ys :∀(ss:List Str),Dw Z (ss.map V.str) (ss.map D.str)
 |[]=>.nil
 |s::ss=>.cons rfl (Ys ss)
unseal B5
def mI (ta:D3):D3:=λτ M Q=>ta τ M λx M1=>Cp (Bh M1 x) λds=>Cp (EB ds) λxs=>xs.length+1<Bi/\(fm xs).length<64/\∀p,M1 p=none->Q (.ref p) (put M1 p (.lst ((IH xs).map D.str)))
theorem mQ (hc:X.calm=true)(hm1:X.mg "sorted" = none)(hm2:X.mg "set" = none)(ha:B5 X e ta)(hg1:Gl X "sorted":=by rfl)(hg2:Gl X "set":=by rfl)
  (he:Au [e] X.env=(false,eval e X.env)::Au [] X.env:=by rfl):B5 X (.Call (.Name "sorted" p1) [.Call (.Name "set" p2) [e] [] pos2] [] pos) (mI ta):=PE.mono (Zj8 hc ha hm1 hm2 hg1 hg2 he) (by
 intro U H Q hI';symm;obtain ⟨Z,τ,M,Q2,st,hr,h,k⟩:=hI';cutsat;refine ⟨Z,τ,M,_,st,hr,h,λZ1 v d H1 M1 l1 h1 a1 q1=>?_⟩;obtain ⟨ds,e1,q2⟩:=Cn q1;obtain ⟨xs,e2,hz,h64,q3⟩:=Cn q2;obtain ⟨p,vs,rfl,hs,a2⟩:=h1.rdL e1 a1;have e3:=Wf e2;subst e3;have e4:=ats_strs a2;subst e4;refine ⟨p,xs,rfl,hs,hz,h64,λl ys hl hp hq=>?_⟩;rw [tI hp hq];exact (k.le l1).l h1 hl (Ys _) q3)
unseal ES
def Qx (K:Ac):V->List V->Hp->VK->Prop:=λx vs H Q=>∃l b xs zs,x=.ref l/\vs=[.ref b]/\H l=some (.lst xs)/\FO K H b zs/\xs.length+zs.length<=An/\Q .non (CF H l (.lst (xs++zs)))
theorem ZmF:YJ X "list.extend" (Qx X.K):=by
 intro Af s U H x vs v us Q I rx rv h;symm;obtain⟨l,b,xs,zs,e1',e2',hH,hB,hz,q⟩:=h;cutsat;subst e1' e2';cases rx;obtain⟨u,rfl,ru⟩:=rv.one;cases ru;obtain⟨z,Bn,n,r,hl,e⟩:=I.lstM hH;obtain⟨its2,r2,⟨o2,n2,e2,c2,d2,s2⟩,z2⟩:=I.list hB;have hl2:=r2.length;refine Cd F.slot_list_extend ⟨_,e,rfl⟩ F.entry_list_extend ?_ (F.args_list_extend_2 _ _);unfold Er.«list.extend»;refine Aa (Ch rfl ?_);dsimp only;unfold Fi;refine Aa (Fp ⟨o2,e2,c2⟩ ?_);rw[if_pos (by simp)];refine Aa (listItems_at e2 s2 ?_);refine Aa (listItems_at e rfl ?_);have hsz:Bn.toArray.size+its2.toArray.size<=An:=by rw[AV,AV];ext
 rw[if_neg (by rw[QE hsz,DO];exact Am)];refine Aa (listUpdate_at e rfl ?_ (by rw[AV];ext) (by simp only[Mn];ext));refine Ae ⟨_,rfl,.non,_,I.lset hH e (by simp) (r.append r2) ?_,rfl,q⟩;rw[As];ext
def Gf:D->List D->Mp->DV->Prop:=λx xs M Q=>JZ x λp=>Gx xs λy=>match M p with
 |some (.lst ys)=>Cp (Bh M y) λzs=>ys.length+zs.length<=An/\Q .non (put M p (.lst (ys++zs)))
 |_=>False
theorem Sr:ES X "list.extend" Gf:=Nv.mono ZmF (by
 intro x xs H Q hI';symm;obtain⟨Z,d,ds,M,Q2,hr,a,as,h,k⟩:=hI';cutsat;obtain⟨p,rfl,h1⟩:=Ik h;obtain⟨y,rfl,h2⟩:=GN h1;cases(show x=V.ref p from a);obtain⟨v,rfl,av⟩:=IN as;split at h2
 .next ys e=>
  obtain⟨zs,e2,hl,q⟩:=Cn h2;obtain⟨vs,r,a2⟩:=hr.rdM e;obtain⟨b,ws,rfl,hs,a3⟩:=hr.rdL e2 av;refine⟨p,b,vs,ws,rfl,rfl,r,hs,by rw[a2.length,a3.length];exact hl,?_⟩;exact k Z .non .non _ _ (Le.refl _) (hr.chgL e (a2.append a3)) rfl q
 .exact h2.elim)
end
end L2
namespace L3
open PySem PySem.Spec PyProof.Rows L2
noncomputable def mergeK (AR more:List (B7×V)):List (B7×V):=more.foldl (λacc kv=>putK acc kv.1 kv.2) AR
noncomputable def IK (AR more:List (B7×D)):List (B7×D):=more.foldl (λacc kv=>Ht acc kv.1 kv.2) AR
theorem sH:∀{more:List (B7×V)}{ms:List (B7×Ad)},KV more ms->∀{AR:List (B7×V)}{vs:List (B7×Ad)},KV AR vs->KV (mergeK AR more) (Jx vs ms)
 |_,_,.nil,_,_,r=>r
 |_,_,.cons (a:=p) (b:=q) h t,AR,vs,r=>by
  have e:stored vs q.1 q.2=stored vs p.1 q.2:=by rw[h.1]
  have:=sH t (r.put p.1 h.2);unfold Jx at this ⊢;rw[DR,e];exact this
theorem wC:∀(more AR:List (B7×V)),(mergeK AR more).length<=AR.length+more.length
 |[],AR=>AJ _
 |m::more,AR=>by
  have h1:=wC more (putK AR m.1 m.2);have h2:=bF AR m.1 m.2;unfold mergeK at h1 ⊢;rw[DR,AO];ext
theorem vY :∀{more:List (B7×V)}{ms:List (B7×D)},Cw Z more ms->∀{AR:List (B7×V)}{vs:List (B7×D)},Cw Z AR vs->Cw Z (mergeK AR more) (IK vs ms)
 |_,_,.nil,_,_,r=>r
 |_,_,.cons (a:=p) (b:=q) h t,AR,vs,r=>by
  have:=vY t (r.put (k:=p.1) h.2);unfold mergeK IK at this ⊢;rw[DR,DR,<- h.1];exact this
section
end
section
unseal ES
unseal B5 Gi
end
end L3
namespace PySem
open Sem (wp)
section
variable {prog:AX}{w:Bj}{K:Type}[DecidableEq K]{knd:KeyKind prog w K}{A:Bq}  {s:Aj}
end
end PySem
namespace L2
open PySem PySem.Spec PyProof.Rows L3
section
end
end L2
namespace L3
open PySem PySem.Spec PyProof.Rows L2
noncomputable def G7 (AR:List (B7×D)):List D:=AR.map λkv=>.tup [kD kv.1,kv.2]
section
variable {X:Cx}
unseal B5
unseal C3
def Qn (j:Nat)(t:GU):GU:=λE τ M=>Cp (τ[j]?).join λd=>JZ d λp=>match M p with
 |some (.lst ds)=>t E (τ.set j (some (.lst ds))) (JL M p)
 |_=>False
theorem V3 (j)(h:C3 X body t):C3 X body (Qn j t):=K3.mono h (by
 intro D U H hI';symm;obtain⟨Z,τ,M,D2,st,hr,h,er⟩:=hI';cutsat;obtain⟨d,e,q0⟩:=Cn h;obtain⟨p,ed,q⟩:=Ik q0;subst ed;obtain⟨v,e1,a⟩:=st.get (EZ.mp e);cases(show v=.ref p from a);cases e2:M p with
 |none=>rw[e2]at q;exact q.elim
 |some o=>
  cases o with
  |dic ds=>rw[e2]at q;exact q.elim
  |dct ds=>rw[e2]at q;exact q.elim
  |obj C fs=>rw[e2]at q;exact q.elim
  |lst AR=>
   rw[e2]at q;have q':=q;have st2:=(st.mono (Le.ext)).set (d:=.lst AR) ⟨p,rfl,.inr ⟨rfl,rfl⟩⟩ j
   have e3:U.set j (some (.ref p))=U:=by
    apply Fw;intro i;rw[Qj];by_cases hij:j=i
    .subst hij;obtain⟨hj,ej⟩:=Ai.mp e1;simp[hj,ej]
    .simp[hij]
   rw [e3] at st2;exact ⟨_,_,_,D2,st2,hr.frzL e2,q',er.le Le.ext⟩)
section
def NX (wi:Nu)(n:Nat)(caps:List (Str×Nat))(tt:K0)(te:D3):D3:=λτ M Q=>wi τ M λxs S M1=>LD n xs S caps tt te τ M1 λys M2=>∀p,M2 p=none->Q (.ref p) (put M2 p (.lst ys))
theorem Ur {K:Ac}(ht:∀U H Q,lT K tt U H Q->tt1 U H Q):∀U H Q,lE K (NX wi n caps tt te) U H Q->N3 (lI K wi) n caps tt1 (lE K te) K U H Q:=by
 sleep 3;exact Zn2 st hr h ht λZ1 H1 M1 vs ds l1 h1 a1 q p hp=>(k.le l1).l h1 hp a1 q
unseal Hw
theorem Uk (B:KN X scope x ns caps)(hc:X.calm=true)(hi:Hw X (.Tuple tes tk px) iter wi)(he:∀cl C fp pn s H,B5 (GS X scope cl C (x::(ns++caps.map (·.1))) fp pn s H) elt te)
  (hg:∀cl C fp pn s H,TF (GS X scope cl C (x::(ns++caps.map (·.1))) fp pn s H) tes (Gs (Bu (ns.length+1)))) (hgn:∀cl C fp pn s H,(CW tes (GS X scope cl C (x::(ns++caps.map (·.1))) fp pn s H).env).length=ns.length+1:=by intros;rfl) (hgf:∀cl C fp pn s H,Mz (λy=>y.1) (CW tes (GS X scope cl C (x::(ns++caps.map (·.1))) fp pn s H).env)=none:=by intros;rfl)
  (hs:∀x,BB iter X.env x=pure x:=by intro _;rfl):B5 X (.ListComp elt [⟨.Tuple tes tk px,iter,[],0⟩] scope pos) (NX wi (ns.length+1) caps GJ te):=PE.mono (Β (te:=lE X.K te) B hc hi he (λ_ _ _ _ _ _=>HL.nil) hg hgn hgf hs) (Ur Lz)
end
end
end L3
namespace PySem
open Sem (wp)
theorem ZjS:Nx (.type "list") "keys" = pure none:=by rw[IT,FM];kernel_rfl
section
theorem ZoC (hx:s.heap.get? a=some {cls:=.type "list",dict:=none,data:=.seq xs k,slots:=sl})(hA:A.handled=none)
  (h:∀h' tk,(∀b u,s.heap.get? b=some u->h'.get? b=some u)->Q none {s with heap:=h',toks:=tk}):Av (AA prog w) A (getAttr? (.ref a) "keys") Q E s:=by
 obtain⟨hp,g,d,tk,os⟩:=s;have hT:∀tk',(⟨hp,g,d,tk',os⟩:Aj).TypeIs (.ref a) "list":=λ_=>⟨_,hx,rfl⟩;have f1:=sub_AttributeError;have f3:=F.slot_list_getattribute.lookup;have f4:=F.slot_list_getattribute.bind (.ref a);have f5:=am_list_getattr_none;unfold getAttr? getAttrBy? getAttrBy
 repeat (any_goals (first | assumption | exact hT _ | ((with_reducible show Av _ _ (IA (Value.builtin "list.__getattribute__") _ _) _ _ _);refine Iz F.slot_list_getattribute (hT _) am_entry_list_getattribute (F.args_list_getattribute_2 _ _) (meets_getattribute_miss_list a xs k sl "keys" _ ZjS (by nofun) (by nofun)) ⟨hx,hA,λh' tk' e hx'=>?_⟩) | wp_step))
 obtain⟨t',u',he⟩:=hx'.there;show Av _ _ (TV _ _ _ _ _ _ _) _ _ _;unfold TV
 repeat (any_goals (first | assumption | wp_step))
 exact h _ _ hx'.keeps
end
theorem b6:Lf Vg "dict.update.loop" = some Er.«dict.update.loop»:=Ws (by kernel_rfl)
theorem bO:plainId "dict.update.loop" = true:=by nofun
section
variable {prog:AX}{w:Bj}{K:Type}[DecidableEq K]{knd:KeyKind prog w K}
def Mi (knd:KeyKind prog w K)(h:BU)(v:Ad)(k:K)(x:Ad):Prop:=∃a key o n,v=.ref a/\knd.is k key=true/\h.get? a=some o/\o.cls=.type "tuple"/\o.data=.seq #[key,x] n
theorem ZkL {AR:List (K×Ad)}(h:AR[i]? = some p):Jx [] (AR.take (i+1))=stored (Jx [] (AR.take i)) p.1 p.2:=merged_take_succ [] AR i p h
theorem ZoV {d it l:Ao}{lo:Nat}{items:Array Ad}{pairs:List (K×Ad)}{R:Qg->Aj->Prop}(hh:A.handled=none)(hlen:items.size=pairs.length)(hsz:pairs.length<=An)(hdl:lo<=d)(hil:lo<=it)(hne:d≠it)(hl:l<lo)
  (hp:∀(i:Nat) v,items[i]? = some v->∃a,v=.ref a/\a<lo) (res:Ad) :
  ∀k i s tk0,pairs.length-i=k->i<=pairs.length->s.heap.IsListIter it l i->s.heap.IsList l items->s.heap.DictOf knd d (Jx [] (pairs.take i)) ->
   (∀(j:Nat) v p,items[j]? = some v->pairs[j]? = some p->Mi knd s.heap v p.1 p.2) ->
   (∀h' tk,(∀b o,b<lo->s.heap.get? b=some o->h'.get? b=some o)->h'.DictOf knd d (Jx [] pairs)->R (.ok (.ret res)) {s with heap:=h',toks:=tk}) ->
   D0 (AA prog w) A (.builtin "dict.update.loop" ⟨[.ref d,.ref it,.int (i:Int) tk0,res],[]⟩) R s:=by
 have nd:∀b,b<lo->b≠d:=λb h=>A8 (Bo h hdl);have ni:∀b,b<lo->b≠it:=λb h=>A8 (Bo h hil);intro k;induction k with
 |zero=>
  intro i s tk0 hk hi hit hls hd hpr hR;have hin:i=pairs.length:=by ext
  subst hin;refine DG b6 ?_;rw[CU bO _];show Av _ A.in1 (Iy (.ref it) >>= _) _ _ s;refine Aa (Q7 hh hit hls (by rw[<- hlen];simp) λh' he'=>?_);rw[Be]at hd;obtain⟨o,es,ep,ho,Db⟩:=hd;show Av _ _ (Zn d [] >>= _) _ _ _;exact Aa (Ae (Ae (hR h' s.toks (λb o hb e=>he' b o (ni b hb) e) ⟨o,es,ep,he' d o hne ho,Db⟩)))
 |succ k ih=>
  intro i s tk0 hk hi hit hls hd hpr hR;have hlt:i<pairs.length:=by ext
  have hlt':i<items.size:=by ext
  refine DG b6 ?_;rw[CU bO _];show Av _ A.in1 (Iy (.ref it) >>= _) _ _ s;refine Aa (P6 hit hls (AW hlt') λh1 hit1 sb=>?_);symm;obtain⟨a,key,o,n,ev,hkey,ho,hoc,hod⟩:=hpr i _ _ (AW hlt') (Ag hlt);cutsat
  have hal:a<lo:=by
   obtain⟨a',e',hl'⟩:=hp i _ (AW hlt');rw[ev]at e';cases e';exact hl'
  have ho1:=(sb.2 a (ni a hal)).trans ho
  have hd1:h1.DictOf knd d (Jx [] (pairs.take i)):=by
   obtain⟨o,es,ep,ho,Db⟩:=hd;exact⟨o,es,ep,(sb.2 d hne).trans ho,Db⟩
  have hml:(Jx [] (pairs.take i)).length<=An:=by
   have e1:=merged_length_le ([]:List (K×Ad)) (pairs.take i);rw[AZ,FQ]at e1;ext
  rw[ev];dsimp only;refine Aa (BZ ?_);refine Aa (wpAny_tryCatch ?_);unfold Zl;refine Aa (Fp ⟨o,ho1,hoc⟩ ?_);rw[if_pos (by decide)];refine Aa (Nw ho1 hod (Ae ?_));show Av _ _ (GF [key,pairs[i].2] (dictSet d key pairs[i].2)) _ _ _;refine BZ (wpAny_dictSet_pairs hkey hd1 λh2 hd2 sb2=>?_);refine Ae ⟨FY bO _,?_⟩;have ec:(i:Int)+1=((i+1:Nat):Int):=by ext
  show D0 _ _ (.builtin "dict.update.loop" ⟨[.ref d,.ref it,.int ((i:Int)+1) 0,res],[]⟩) _ _;rw[ec];have keep:∀b o,b<lo->s.heap.get? b=some o->h2.get? b=some o:=λb o hb e=>(sb2.2 b (nd b hb)).trans ((sb.2 b (ni b hb)).trans e);refine ih (i+1) _ 0 (by ext) hlt ?_ ?_ ?_ ?_ λh' tk hk' hd'=>hR h' tk (λb o hb e=>hk' b o hb (keep b o hb e)) hd'
  .obtain⟨oi,hoi,r⟩:=hit1;exact⟨oi,(sb2.2 it (Bm hne)).trans hoi,r⟩
  .obtain⟨ol,hol,r⟩:=hls;exact⟨ol,keep l ol hl hol,r⟩
  .rw[ZkL (Ag hlt)];exact hd2
  .intro j v p hv hj;symm;obtain⟨a',key',o',n',e1',r1,r2,r3⟩:=hpr j v p hv hj;cutsat;subst e1';obtain⟨a2,e2,hl2⟩:=hp j _ hv;cases e2;exact⟨a',key',o',n',rfl,r1,keep a' o' hl2 r2,r3⟩
theorem ZoW {s:Aj}{l:Ao}{items:Array Ad}{n:Nat}{sl:Array (Option Ad)}{pairs:List (K×Ad)}{Q:Ad->Aj->Prop}(hh:A.handled=none)(hx:s.heap.get? l=some {cls:=.type "list",dict:=none,data:=.seq items n,slots:=sl})(hlen:items.size=pairs.length)(hsz:pairs.length<=An)
  (hpr:∀(j:Nat) v p,items[j]? = some v->pairs[j]? = some p->Mi knd s.heap v p.1 p.2)
  (hQ:∀h' tk,(∀b o,s.heap.get? b=some o->h'.get? b=some o)->h'.DictOf knd s.heap.objs.size (Jx [] pairs)->Q (.ref s.heap.objs.size) {s with heap:=h',toks:=tk}) :
  Av (AA prog w) A (IA (.type "dict") [.ref l]) Q E s:=by
 refine callType_codes (Q₁:=λobj s₁=>obj=.ref s.heap.objs.size/\s₁={s with heap:=s.heap.push {cls:=.type "dict",data:=.dict #[]} }) F.kt_called_dict (F.kt_typeCall_dict_1 _) F.entry_dict_init (kt_code_dict_new _ ⟨rfl,rfl⟩) ?_;rintro obj s₁ ⟨rfl,rfl⟩;have hnew:(s.heap.push {cls:=.type "dict",data:=.dict #[]}).DictOf knd s.heap.objs.size []:=Nm s.heap;have hx':(s.heap.push {cls:=.type "dict",data:=.dict #[]}).get? l=some {cls:=.type "list",dict:=none,data:=.seq items n,slots:=sl}:=Ah _ hx;have hll:=Ar hx;refine⟨hnew.typeIs,F.args_dict_init_2 _ _,?_⟩;unfold Er.«dict.__init__»;refine Aa ?_;unfold Zk;refine Aa (Q8 hnew.typeIs ?_);show Av _ _ (pure (s.heap.objs.size,[AC l])) _ _ _;refine Ae ?_;show Av _ _ (Kd "dict.__init__" s.heap.objs.size (.ref l) [] .none) _ _ _;unfold Kd;refine Aa (Fp (T:="list") ⟨_,hx',rfl⟩ ?_);rw[if_pos (by decide)];refine Aa (ZoC hx' hh λh1 tk1 k1=>?_);simp only[Option.isNone_none,if_true];refine Aa (GX ?_);have hl1:=k1 _ _ hx';refine Aa (Hx (items:=items) ⟨_,hl1,rfl,n,rfl⟩ ?_);have kk:∀b o,s.heap.get? b=some o->(h1.push {cls:=.type "list_iterator",data:=.fields #[.ref l,.int 0 0]}).get? b=some o:=λb o e=>Ah _ (k1 b o (Ah _ e))
 have hds:s.heap.objs.size<h1.objs.size:=by
  obtain⟨o,_,_,ho,_⟩:=hnew;exact Ar (k1 _ _ ho)
 have hls:(h1.push {cls:=.type "list_iterator",data:=.fields #[.ref l,.int 0 0]}).IsList l items:=⟨_,Ah _ hl1,rfl,n,rfl⟩;have hit:(h1.push {cls:=.type "list_iterator",data:=.fields #[.ref l,.int 0 0]}).IsListIter h1.objs.size l 0:=⟨_,AB _ rfl,rfl,rfl⟩;refine Ae ⟨FY bO _,?_⟩;refine ZoV (A:=A.in1) (knd:=knd) (lo:=s.heap.objs.size) (pairs:=pairs) hh hlen hsz (AJ _) (Fu hds) (A8 hds) hll (λi v hv=>?_) .none pairs.length 0 {s with heap:=h1.push {cls:=.type "list_iterator",data:=.fields #[.ref l,.int 0 0]},toks:=tk1} 0 rfl (Ek _) hit hls ?_ ?_ λh' tk hk hd=>?_
 .have hi:i<pairs.length:=by
   rw[<- hlen];exact(F9.mp hv).1
  symm;obtain⟨a,key,o,n',e1',_,ho,_⟩:=hpr i v _ hv (Ag hi);cutsat;subst e1';exact⟨a,rfl,Ar ho⟩
 .obtain⟨o,es,ep,ho,Db⟩:=hnew;exact⟨o,es,ep,Ah _ (k1 _ _ ho),Db⟩
 .intro j v p hv hj;symm;obtain⟨a,key,o,n',e1',r1,ho,r2⟩:=hpr j v p hv hj;cutsat;subst e1';exact⟨a,key,o,n',rfl,r1,kk a o ho,r2⟩
 .exact⟨rfl,hQ h' tk (λb o e=>hk b o (Ar e) (kk b o e)) hd⟩
end
end PySem
namespace L3
open PySem PySem.Spec PyProof.Rows L2
section
theorem ug (h:D8 F l [b,c]):∃x y,l=[x,y]/\F x b/\F y c:=by
 cases h with
 |cons h t=>
  cases t with
  |cons h' t'=>cases t';exact⟨_,_,rfl,h,h'⟩
theorem wy (h:D8 F [b,c] l):∃x y,l=[x,y]/\F b x/\F c y:=by
 cases h with
 |cons h t=>
  cases t with
  |cons h' t'=>cases t';exact⟨_,_,rfl,h,h'⟩
theorem uu (I:A6 X Af U H s)(hr:HR X.K H M Z)(h:At Z v (.tup [kD k,d]))(r:RelV v u) :
  ∃w2 u2,At Z w2 d/\RelV w2 u2/\Mi (BV X.prog X.w) s.heap u k u2:=by
 obtain⟨p,ws,rfl,hs,aw⟩:=hr.rdT h;have eu:=r;subst eu;obtain⟨its2,rv,ht,_⟩:=I.tuple hs;obtain⟨w1,w2,rfl,a1,a2⟩:=ug aw;obtain⟨u1,u2,rfl,r1,r2⟩:=wy rv;have e1:=VQ a1;subst e1;obtain⟨o,e,c,n,hd⟩:=ht;exact⟨w2,u2,a2,r2,p,u1,o,n,rfl,Sl r1,e,c,hd⟩
theorem ve (h:D8 F l (b::m)):∃x r,l=x::r/\F x b/\D8 F r m:=by
 cases h with
 |cons h t=>exact⟨_,_,rfl,h,t⟩
theorem yo (h:D8 F (b::m) l):∃x r,l=x::r/\F b x/\D8 F m r:=by
 cases h with
 |cons h t=>exact⟨_,_,rfl,h,t⟩
theorem ox (h:D8 F l []):l=[]:=by cases h;rfl
theorem ul (h:D8 F [] l):l=[]:=by cases h;rfl
theorem Zlj :G7 ((k,d)::ps)=.tup [kD k,d]::G7 ps:=rfl
theorem χ (I:A6 X Af U H s)(hr:HR X.K H M Z)(ps:List (B7×D)):∀vs Bn,Dw Z vs (G7 ps)->BJ vs Bn ->
  ∃(ks:List (B7×V)) (prs:List (B7×Ad)),KV ks prs/\Cw Z ks ps/\Bn.length=prs.length/\∀(j:Nat) v p,Bn[j]? = some v->prs[j]? = some p->Mi (BV X.prog X.w) s.heap v p.1 p.2:=by
 induction ps with
 |nil=>intro vs Bn ha hv;have e:=ox ha;subst e;have e:=ul hv;subst e;exact⟨[],[],.nil,.nil,rfl,λj v p h=>by simp at h⟩
 |cons kd ps ih=>
  intro vs Bn ha hv;obtain⟨k,d⟩:=kd;rw[Zlj]at ha;obtain⟨v,vs',rfl,h,t⟩:=ve ha;obtain⟨u,us',rfl,r,rs⟩:=yo hv;obtain⟨ks,prs,h1,h2,h3,h4⟩:=ih vs' us' t rs;obtain⟨w2,u2,a2,r2,pa⟩:=uu I hr h r;refine⟨(k,w2)::ks,(k,u2)::prs,.cons ⟨rfl,r2⟩ h1,.cons ⟨rfl,a2⟩ h2,by rw[AO,AO,h3],λj v p hv hp=>?_⟩;cases j with
  |zero=>rw[He]at hv hp;cases hv;cases hp;exact pa
  |succ j=>rw[Hf]at hv hp;exact h4 j v p hv hp
theorem ZmZ (hc:X.calm=true)(I:A6 X Af U H s)(r:BJ xs us)(hr:HR X.K H M Z)(a:Dw Z xs [x])(e:Bh M x=some (G7 ps))(hz:ps.length<=An)
  (q:∀ks p,Cw Z ks (IK [] ps)->H p=none->Q (.ref p) (CF H p (.dK ks))):Av (AA X.prog X.w) X.A (IA (.type "dict") us) (EP X Af U Q) X.xe s:=by
 obtain⟨v,rfl,a1⟩:=IN a;obtain⟨p,vs,rfl,hs,a2⟩:=hr.rdL e a1;obtain⟨u,rfl,ru⟩:=Hg r;have eu:=ru;subst eu;obtain⟨Bn,rv,⟨o,n,e2,c2,d2,s2⟩,_⟩:=I.list hs;obtain⟨ks,prs,h1,h2,h3,h4⟩:=χ I hr ps vs Bn a2 rv;obtain⟨oc,od,oa,os⟩:=o;simp only at c2 d2 s2;subst c2 d2 s2;have hl:ps.length=prs.length:=by rw[<- D7 h2];exact h1.length
 refine ZoW (I.ok.hd hc) e2 (by rw[AV];exact h3) (by rw[<- hl];exact hz) (λj v p hv hp=>h4 j v p (by rw[D6]at hv;exact hv) hp) λh' tk hk dd=>?_;have kk:=sH h1 .nil
 have hm:(mergeK [] ks).length<=An:=by
  have:=wC ks [];rw[FQ,E7,D7 h2]at this;ext
 exact⟨.ref s.heap.objs.size,_,I.laid hk (AJ _) (ZO hm (beq_eq_false_iff_ne.mpr (Bm (A8 I.big))) kk dd),rfl,q _ _ (vY h2 .nil) (I.hok.fresh (AJ _))⟩
unseal BY
theorem aI (hc:X.calm=true):BY X (.type "dict") (λxs M Q=>Gx xs λx=>∃ps,Bh M x=some (G7 ps)/\ps.length<=An/\Q (.dic (IK [] ps)) M):=by
 intro Af s U H xs us Q I r h;symm;obtain⟨Z,ds,M,Q2,hr,a,h,k⟩:=h;cutsat;obtain⟨x,rfl,ps,e,hz,q⟩:=GN h;exact ZmZ hc I r hr a e hz λks p a2 hp=>k.fd hr hp a2 q
end
end L3
namespace L2
open PySem PySem.Spec PyProof.Rows L3
section
end
end L2
namespace L3
open PySem PySem.Spec PyProof.Rows L2
section
unseal ES Cf
end
def Xy:K2:=λx y M Q=>Cp (HH M y) λys=>∃f:D->Bool,(∀z∈ys,De M 40 z x=some (f z))/\Q (.bl (ys.any f)) M
theorem jt {Bn:List Ad}{ys:List D}{f:D->Bool}{g:Ad->Bool}(hl:Bn.length=ys.length)(hg:∀w,g w=true↔∃(j:Nat) (d:D),Bn[j]? = some w/\ys[j]? = some d/\f d=true):Bn.toArray.any g=ys.any f:=by
 rw[show Bn.toArray.any g=Bn.any g by simp,Dt,C8,C8];constructor
 .rintro⟨w,_,h⟩;obtain⟨j,d,_,e2,e3⟩:=(hg w).mp h;exact⟨d,Aw e2,e3⟩
 .rintro⟨d,hd,h⟩;obtain⟨j,hj,rfl⟩:=OC.mp hd;exact⟨Bn[j],F3 _,(hg _).mpr ⟨j,ys[j],Ag (by ext),Ag hj,h⟩⟩
theorem uA {X:Cx}{Af:List (Ao×Obj)}{U:St}{H:Hp}{s:Aj}{M:Mp}{Z:Zt}{A:Bq}{x:V}{v:Ad}{dx:D}{vs:List V}{Bn:List Ad}{ys:List D}{f:D->Bool}(I:A6 X Af U H s)(hr:HR X.K H M Z)(hu:A.units+40<Dh)(ax:At Z x dx)(rx:RelV x v)(a:Dw Z vs ys)(r:BJ vs Bn)(hf:∀z∈ys,De M 40 z dx=some (f z)) :
  ∃g:Ad->Bool,(∀w,w∈Bn.toArray->Eu A s w v (g w))/\Bn.toArray.any g=ys.any f:=by
 obtain⟨g,hg⟩:∃g:Ad->Bool,∀w,g w=true↔∃(j:Nat) (d:D),Bn[j]? = some w/\ys[j]? = some d/\f d=true:=⟨λw=>@decide _ (Classical.propDecidable (∃(j:Nat) (d:D),Bn[j]? = some w/\ys[j]? = some d/\f d=true)),λw=>by simp⟩;have l1:=a.length;have l2:=r.length;refine⟨g,λw hw=>?_,jt (by ext) hg⟩
 have at_:∀j,Bn[j]? = some w->∃d,ys[j]? = some d/\Eu A s w v (f d):=λj hj=>by
  obtain⟨hj1,hj2⟩:=Ai.mp hj;obtain⟨v1,d1,_,e1,z1,q1⟩:=UG r a j (by simpa using hj1);refine⟨d1,e1,ZN I hr 40 z1 ax (by simpa[hj2]using q1) rx (by ext) (hf d1 (Aw e1))⟩
 by_cases c:g w=true
 .obtain⟨j,d,h1,h2,h3⟩:=(hg w).mp c;obtain⟨d',h4,h5⟩:=at_ j h1;rw[h2]at h4;cases h4;rw[c,<- h3];exact h5
 .obtain⟨j,hj,hw2⟩:=OC.mp (by simpa using hw:w∈Bn);have h1:Bn[j]? = some w:=by rw[Ag hj,hw2]
  obtain⟨d',h4,h5⟩:=at_ j h1
  have h6:f d'=false:=by
   cases h7:f d' with
   |false=>rfl
   |true=>exact absurd ((hg w).mpr ⟨j,d',h1,h4,h7⟩) c
  rw[show g w=false by simpa using c,<- h6];exact h5
unseal Cf
theorem ZE (hu:X.A.units+41<Dh):Cf X (A9 .In) Xy:=by
 intro Af s U H x y v u Q I rx ry h;symm;obtain⟨Z,dx,dy,M,Q2,hr,ax,ay,h,k⟩:=h;cutsat;obtain⟨ys,e,f,hf,q⟩:=Cn h;obtain⟨p,vs,rfl,hs,a⟩:=hr.rdS e ay;cases(show u=AC p from ry);rcases hs with hs|hs
 .obtain⟨Bn,r,pl,_⟩:=I.list hs;obtain⟨g,hg,e2⟩:=uA I hr (A:=X.A.in1) (by show X.A.units+1+40<Dh;ext) ax rx a r hf;refine Q9 g pl.isList hg ⟨.bl _,H,I,rfl,?_⟩;rw[e2];exact k.b hr q
 .obtain⟨Bn,r,pl,_⟩:=I.tuple hs;obtain⟨g,hg,e2⟩:=uA I hr (A:=X.A.in1) (by show X.A.units+1+40<Dh;ext) ax rx a r hf;refine Qf g pl hg ⟨.bl _,H,I,rfl,?_⟩;rw[e2];exact k.b hr q
end L3
namespace L3
open PySem PySem.Spec PyProof.Rows L2
unseal Cf
unseal B5
end L3
namespace L3
open PySem PySem.Spec PyProof.Rows L2
theorem Pa (hr:Dg k A):A.units+45<Dh:=Ft (Jd (by decide:45<=64) _) hr.units
theorem JK (hr:Dg k A):A.units+41<Dh:=Ft (Jd (by decide:41<=64) _) hr.units
def IZ (xs:List D)(k:D->D->D->Prop):Prop:=match xs with
 |[x,y,z]=>k x y z
 |_=>False
def Te (xs:List D)(k:D->D->D->D->Prop):Prop:=match xs with
 |[x,y,z,w]=>k x y z w
 |_=>False
def XH (xs:List D)(k:D->D->D->D->D->Prop):Prop:=match xs with
 |[x,y,z,w,v]=>k x y z w v
 |_=>False
theorem O6 (h:IZ xs k):∃x y z,xs=[x,y,z]/\k x y z:=by
 match xs,h with
 |[x,y,z],h=>exact⟨x,y,z,rfl,h⟩
theorem Sa (h:Te xs k):∃x y z w,xs=[x,y,z,w]/\k x y z w:=by
 match xs,h with
 |[x,y,z,w],h=>exact⟨x,y,z,w,rfl,h⟩
theorem Up (h:XH xs k):∃x y z w v,xs=[x,y,z,w,v]/\k x y z w v:=by
 match xs,h with
 |[x,y,z,w,v],h=>exact⟨x,y,z,w,v,rfl,h⟩
theorem tu :IZ [x,y,z] k=k x y z:=rfl
theorem tz :Te [x,y,z,w] k=k x y z w:=rfl
theorem t0 :XH [x,y,z,w,v] k=k x y z w v:=rfl
theorem aC (h0:0<=i)(h1:i<(xs.length:Int)):∃v,FK xs i=some v/\v∈xs:=by
 obtain⟨j,rfl⟩:∃j:Nat,i=(j:Int):=⟨i.toNat,by ext⟩;have hk:j<xs.length:=by ext
 exact⟨xs[j],Oj (Ag hk),F3 hk⟩
section
theorem dO:GI 0 (some d::τ) M Q=Q d M:=rfl
theorem eO:FH 0 te E (o::τ) M=te (o::τ) M λx M1=>E.nx (some x::τ) M1:=rfl
theorem fG :Fm 0 d (o::τ) k=k (some d::τ):=rfl
theorem dN :GI 1 (a0::some d::τ) M Q=Q d M:=rfl
theorem eJ :FH 1 te E (a0::o::τ) M=te (a0::o::τ) M λx M1=>E.nx (a0::some x::τ) M1:=rfl
theorem fE :Fm 1 d (a0::o::τ) k=k (a0::some d::τ):=rfl
theorem dM :GI 2 (a0::a1::some d::τ) M Q=Q d M:=rfl
theorem eI :FH 2 te E (a0::a1::o::τ) M=te (a0::a1::o::τ) M λx M1=>E.nx (a0::a1::some x::τ) M1:=rfl
theorem fD :Fm 2 d (a0::a1::o::τ) k=k (a0::a1::some d::τ):=rfl
theorem dJ :GI 3 (a0::a1::a2::some d::τ) M Q=Q d M:=rfl
theorem eG :FH 3 te E (a0::a1::a2::o::τ) M=te (a0::a1::a2::o::τ) M λx M1=>E.nx (a0::a1::a2::some x::τ) M1:=rfl
theorem fB :Fm 3 d (a0::a1::a2::o::τ) k=k (a0::a1::a2::some d::τ):=rfl
theorem dI :GI 4 (a0::a1::a2::a3::some d::τ) M Q=Q d M:=rfl
theorem eF :FH 4 te E (a0::a1::a2::a3::o::τ) M=te (a0::a1::a2::a3::o::τ) M λx M1=>E.nx (a0::a1::a2::a3::some x::τ) M1:=rfl
theorem fA :Fm 4 d (a0::a1::a2::a3::o::τ) k=k (a0::a1::a2::a3::some d::τ):=rfl
theorem dH :GI 5 (a0::a1::a2::a3::a4::some d::τ) M Q=Q d M:=rfl
theorem eE :FH 5 te E (a0::a1::a2::a3::a4::o::τ) M=te (a0::a1::a2::a3::a4::o::τ) M λx M1=>E.nx (a0::a1::a2::a3::a4::some x::τ) M1:=rfl
theorem eY :Fm 5 d (a0::a1::a2::a3::a4::o::τ) k=k (a0::a1::a2::a3::a4::some d::τ):=rfl
theorem dG :GI 6 (a0::a1::a2::a3::a4::a5::some d::τ) M Q=Q d M:=rfl
theorem eC :FH 6 te E (a0::a1::a2::a3::a4::a5::o::τ) M=te (a0::a1::a2::a3::a4::a5::o::τ) M λx M1=>E.nx (a0::a1::a2::a3::a4::a5::some x::τ) M1:=rfl
theorem eX :Fm 6 d (a0::a1::a2::a3::a4::a5::o::τ) k=k (a0::a1::a2::a3::a4::a5::some d::τ):=rfl
theorem dF :GI 7 (a0::a1::a2::a3::a4::a5::a6::some d::τ) M Q=Q d M:=rfl
theorem dZ :FH 7 te E (a0::a1::a2::a3::a4::a5::a6::o::τ) M=te (a0::a1::a2::a3::a4::a5::a6::o::τ) M λx M1=>E.nx (a0::a1::a2::a3::a4::a5::a6::some x::τ) M1:=rfl
theorem eV :Fm 7 d (a0::a1::a2::a3::a4::a5::a6::o::τ) k=k (a0::a1::a2::a3::a4::a5::a6::some d::τ):=rfl
theorem dE :GI 8 (a0::a1::a2::a3::a4::a5::a6::a7::some d::τ) M Q=Q d M:=rfl
theorem dY :FH 8 te E (a0::a1::a2::a3::a4::a5::a6::a7::o::τ) M=te (a0::a1::a2::a3::a4::a5::a6::a7::o::τ) M λx M1=>E.nx (a0::a1::a2::a3::a4::a5::a6::a7::some x::τ) M1:=rfl
theorem eU :Fm 8 d (a0::a1::a2::a3::a4::a5::a6::a7::o::τ) k=k (a0::a1::a2::a3::a4::a5::a6::a7::some d::τ):=rfl
theorem dC :GI 9 (a0::a1::a2::a3::a4::a5::a6::a7::a8::some d::τ) M Q=Q d M:=rfl
theorem dX :FH 9 te E (a0::a1::a2::a3::a4::a5::a6::a7::a8::o::τ) M=te (a0::a1::a2::a3::a4::a5::a6::a7::a8::o::τ) M λx M1=>E.nx (a0::a1::a2::a3::a4::a5::a6::a7::a8::some x::τ) M1:=rfl
theorem eT :Fm 9 d (a0::a1::a2::a3::a4::a5::a6::a7::a8::o::τ) k=k (a0::a1::a2::a3::a4::a5::a6::a7::a8::some d::τ):=rfl
theorem rh :GI 10 (a0::a1::a2::a3::a4::a5::a6::a7::a8::a9::some d::τ) M Q=Q d M:=rfl
theorem t6 :FH 10 te E (a0::a1::a2::a3::a4::a5::a6::a7::a8::a9::o::τ) M=te (a0::a1::a2::a3::a4::a5::a6::a7::a8::a9::o::τ) M λx M1=>E.nx (a0::a1::a2::a3::a4::a5::a6::a7::a8::a9::some x::τ) M1:=rfl
theorem sm :Fm 10 d (a0::a1::a2::a3::a4::a5::a6::a7::a8::a9::o::τ) k=k (a0::a1::a2::a3::a4::a5::a6::a7::a8::a9::some d::τ):=rfl
theorem ri :GI 11 (a0::a1::a2::a3::a4::a5::a6::a7::a8::a9::a10::some d::τ) M Q=Q d M:=rfl
theorem t7 :FH 11 te E (a0::a1::a2::a3::a4::a5::a6::a7::a8::a9::a10::o::τ) M=te (a0::a1::a2::a3::a4::a5::a6::a7::a8::a9::a10::o::τ) M λx M1=>E.nx (a0::a1::a2::a3::a4::a5::a6::a7::a8::a9::a10::some x::τ) M1:=rfl
theorem sr :Fm 11 d (a0::a1::a2::a3::a4::a5::a6::a7::a8::a9::a10::o::τ) k=k (a0::a1::a2::a3::a4::a5::a6::a7::a8::a9::a10::some d::τ):=rfl
theorem rj :GI 12 (a0::a1::a2::a3::a4::a5::a6::a7::a8::a9::a10::a11::some d::τ) M Q=Q d M:=rfl
theorem t8 :FH 12 te E (a0::a1::a2::a3::a4::a5::a6::a7::a8::a9::a10::a11::o::τ) M=te (a0::a1::a2::a3::a4::a5::a6::a7::a8::a9::a10::a11::o::τ) M λx M1=>E.nx (a0::a1::a2::a3::a4::a5::a6::a7::a8::a9::a10::a11::some x::τ) M1:=rfl
theorem su :Fm 12 d (a0::a1::a2::a3::a4::a5::a6::a7::a8::a9::a10::a11::o::τ) k=k (a0::a1::a2::a3::a4::a5::a6::a7::a8::a9::a10::a11::some d::τ):=rfl
theorem rm :GI 13 (a0::a1::a2::a3::a4::a5::a6::a7::a8::a9::a10::a11::a12::some d::τ) M Q=Q d M:=rfl
theorem t9 :FH 13 te E (a0::a1::a2::a3::a4::a5::a6::a7::a8::a9::a10::a11::a12::o::τ) M=te (a0::a1::a2::a3::a4::a5::a6::a7::a8::a9::a10::a11::a12::o::τ) M λx M1=>E.nx (a0::a1::a2::a3::a4::a5::a6::a7::a8::a9::a10::a11::a12::some x::τ) M1:=rfl
theorem sv :Fm 13 d (a0::a1::a2::a3::a4::a5::a6::a7::a8::a9::a10::a11::a12::o::τ) k=k (a0::a1::a2::a3::a4::a5::a6::a7::a8::a9::a10::a11::a12::some d::τ):=rfl
theorem rz :GI 14 (a0::a1::a2::a3::a4::a5::a6::a7::a8::a9::a10::a11::a12::a13::some d::τ) M Q=Q d M:=rfl
theorem ub :FH 14 te E (a0::a1::a2::a3::a4::a5::a6::a7::a8::a9::a10::a11::a12::a13::o::τ) M=te (a0::a1::a2::a3::a4::a5::a6::a7::a8::a9::a10::a11::a12::a13::o::τ) M λx M1=>E.nx (a0::a1::a2::a3::a4::a5::a6::a7::a8::a9::a10::a11::a12::a13::some x::τ) M1:=rfl
theorem sw :Fm 14 d (a0::a1::a2::a3::a4::a5::a6::a7::a8::a9::a10::a11::a12::a13::o::τ) k=k (a0::a1::a2::a3::a4::a5::a6::a7::a8::a9::a10::a11::a12::a13::some d::τ):=rfl
theorem r6 :GI 15 (a0::a1::a2::a3::a4::a5::a6::a7::a8::a9::a10::a11::a12::a13::a14::some d::τ) M Q=Q d M:=rfl
theorem qq :FH 15 te E (a0::a1::a2::a3::a4::a5::a6::a7::a8::a9::a10::a11::a12::a13::a14::o::τ) M=te (a0::a1::a2::a3::a4::a5::a6::a7::a8::a9::a10::a11::a12::a13::a14::o::τ) M λx M1=>E.nx (a0::a1::a2::a3::a4::a5::a6::a7::a8::a9::a10::a11::a12::a13::a14::some x::τ) M1:=rfl
theorem sx :Fm 15 d (a0::a1::a2::a3::a4::a5::a6::a7::a8::a9::a10::a11::a12::a13::a14::o::τ) k=k (a0::a1::a2::a3::a4::a5::a6::a7::a8::a9::a10::a11::a12::a13::a14::some d::τ):=rfl
theorem ik:uC d τ M Q=Q d M:=rfl
theorem eS :VC r ta tb τ M Q=ta τ M λx M1=>tb τ M1 λy M2=>r x y M2 Q:=rfl
theorem zk:OH te τ M QT=te τ M λx M1=>Rp x λc=>QT c M1:=rfl
theorem Zo3 :NY r r' ta tb tc τ M Q=ta τ M λx M1=>tb τ M1 λy M2=>r x y M2 λz M3=>Rp z λk=>if k=true then tc τ M3 λw M4=>r' y w M4 Q else Q (.bl false) M3:=rfl
theorem dP :mG r ta τ M Q=ta τ M λx M1=>r x M1 Q:=rfl
theorem nw:Xd t1 t2 τ M QT=t1 τ M λc M1=>if c=true then t2 τ M1 QT else QT false M1:=rfl
theorem eQ:mJ t1 t2 τ M QT=t1 τ M λc M1=>if c=true then QT true M1 else t2 τ M1 QT:=rfl
theorem tq:W6 t1 τ M QT=t1 τ M λc M1=>QT (!c) M1:=rfl
theorem xy:S5 ta tb τ M Q=ta τ M λx M1=>Rp x λc=>if c=true then tb τ M1 Q else Q (.bl false) M1:=rfl
theorem t4:W5 ta tb τ M Q=ta τ M λx M1=>Rp x λc=>if c=true then Q (.bl true) M1 else tb τ M1 Q:=rfl
theorem fI:mK t1 ta tb τ M Q=t1 τ M λc M1=>if c=true then ta τ M1 Q else tb τ M1 Q:=rfl
theorem fJ :mL ds τ M QA=QA ds M:=rfl
theorem tj:T9 τ M QA=QA [] M:=rfl
theorem yc:S3 te tA τ M QA=te τ M λx M1=>tA τ M1 λxs M2=>QA (x::xs) M2:=rfl
theorem rf:WY tA τ M Q=tA τ M λxs M1=>xs.length<=An/\Q (.tup xs) M1:=rfl
theorem zc:SX tA τ M Q=tA τ M λxs M1=>xs.length<=An/\Q (.lst xs) M1:=rfl
theorem sk:W7 tA τ M Q=tA τ M λxs M1=>xs.length<=An/\∀p,M1 p=none->Q (.ref p) (put M1 p (.lst xs)):=rfl
theorem fK :Zo r tA τ M Q=tA τ M λxs M1=>r xs M1 Q:=rfl
theorem xz :S4 sp tA τ M Q=tA τ M λxs M1=>sp xs M1 Q:=rfl
theorem ZlP:OI τ M QO=QO none M:=rfl
theorem zh:SU te τ M QO=te τ M λx M1=>E4 x λi=>QO (some i) M1:=rfl
theorem dR :mH r te tl th τ M Q=te τ M λx M1=>tl τ M1 λl M2=>th τ M2 λu M3=>r x l u M3 Q:=rfl
theorem zf:SV E τ M=E.nx τ M:=rfl
theorem qw:W0 s1 s2 E τ M=s1 {E with nx:=s2 E} τ M:=rfl
theorem tf:Qm E τ M=False:=rfl
theorem yy:SY te E τ M=te τ M λ_ M1=>E.nx τ M1:=rfl
theorem t5:W4 te E τ M=te τ M E.rt:=rfl
theorem qk:W8 tt s1 s2 E τ M=tt τ M λb M1=>if b=true then s1 E τ M1 else s2 E τ M1:=rfl
theorem nz :Ua te g E τ M=te τ M λx M1=>g x τ λτ'=>E.nx τ' M1:=rfl
theorem qi :Xa ti g s1 E τ M=ti τ M λxs S M1=>U8 xs S g s1 E τ M1:=rfl
theorem dQ:mI te τ M Q=te τ M λx M1=>Cp (Bh M1 x) λds=>Cp (EB ds) λxs=>xs.length+1<Bi/\(fm xs).length<64/\∀p,M1 p=none->Q (.ref p) (put M1 p (.lst ((IH xs).map D.str))):=rfl
theorem ZnK :SR te τ M R=te τ M λx M1=>Cp (Bh M1 x) λxs=>R xs (λM=>Bh M x=some xs) M1:=rfl
theorem ZnJ :SQ tA τ M R=tA τ M λxs M1=>Gx xs λx=>E4 x λj=>(-(2^62)<=j/\j<2^62)/\R (N7 0 j.toNat) (λ_=>True) M1:=rfl
theorem Zo2 :HG wi caps tt te τ M Q=wi τ M λxs S M1=>ET xs S caps tt te τ M1 λys M2=>Q (.lst ys) M2:=rfl
theorem yb :OK wi caps tt te τ M Q=wi τ M λxs S M1=>ET xs S caps tt te τ M1 λys M2=>∀p,M2 p=none->Q (.ref p) (put M2 p (.lst ys)):=rfl
theorem fL :mM T r te tA τ M Q=te τ M λx M1=>KQ M1 x=some T/\tA τ M1 λxs M2=>r x xs M2 Q:=rfl
theorem og :Xc T r te τ M Q=te τ M λx M1=>KQ M1 x=some T/\r x [] M1 Q:=rfl
theorem yw:S1 τ M Q=∀p,M p=none->Q (.ref p) (put M p (.dic [])):=rfl
theorem yx:S0 ta tb tc E τ M=tc τ M λv M1=>ta τ M1 λx M2=>tb τ M2 λy M3=>JZ x λp=>Ro y λk=>Kz (M3 p) λAR=>AR.length<An/\E.nx τ (put M3 p (.dic (Ht AR k v))):=rfl
theorem yd:S2 ta tb τ M Q=ta τ M λx M1=>tb τ M1 λy M2=>Cp (DU M2 x) λAR=>Ro y λk=>Cp (Du AR k) λv=>Q v M2:=rfl
theorem zp :WV tA τ M R=tA τ M λds M1=>FI ds λx y=>Cp (Bh M1 x) λxs=>Cp (Bh M1 y) λys=>R (Lm xs ys) (λM=>Bh M x=some xs/\Bh M y=some ys) M1:=rfl
theorem zm :T7 te τ M R=te τ M λx M1=>Cp (XZ x) λAR=>R (AR.map λp=>kD p.1) (λ_=>True) M1:=rfl
theorem zn :WX te τ M R=te τ M λx M1=>Gh x λz=>(z.cps.all λc=>decide (c<128))=true/\R (Kw z) (λ_=>True) M1:=rfl
theorem oq :XZ (.dic AR)=some AR:=rfl
theorem zl:GJ τ M QT=QT true M:=rfl
theorem qj:W9 te τ M Q=te τ M λd M1=>JZ d λp=>match M1 p with | some (.lst ds)=>Q (.lst ds) (JL M1 p) | some (.dic ds)=>Q (.dic ds) (JL M1 p) | some (.dct ds)=>Q (.dct ds) (JL M1 p) | _=>False:=rfl
theorem zo :WW te τ M R=te τ M λx M1=>match x with | .tup xs=>R xs (λ_=>True) M1 | _=>False:=rfl
end
section
theorem iQ :E4 (.int i) k=k i:=rfl
theorem pZ :Rp (.bl b) k=k b:=rfl
theorem X9 :Gh (.str z) k=k z:=rfl
theorem QR :JZ (.ref p) k=k p:=rfl
theorem BW :Cp (some a) k=k a:=rfl
theorem zg :Ro (.int i) k=k (.inl i):=rfl
theorem jE :Ro (.str z) k=k (.inr z):=rfl
theorem UI :Kz (some (.dic AR)) k=k AR:=rfl
theorem om :DU M (.dic AR)=some AR:=rfl
theorem oo :DU (put M p (.dic AR)) (.ref p)=some AR:=by simp[DU,Dc]
theorem ZnP :Kz (put M p (.dic AR) p) k=k AR:=by simp[Kz,Dc]
theorem mW (h:M p=some (.dic AR)):DU M (.ref p)=some AR:=by simp[DU,h]
theorem ql :Ue n x y M Q=Cp (DU M y) λAR=>Ro x λk=>Q (.bl (if n then !(Du AR k).isSome else(Du AR k).isSome)) M:=rfl
theorem si:Xv x y M Q=Gh x λz=>E4 y λi=>z.length<=An/\Cp (FK z.cps.toList i) λc=>Q (.str ⟨#[c]⟩) M:=rfl
theorem ZL :Gx [x] k=k x:=rfl
theorem oZ :FI [x,y] k=k x y:=rfl
theorem dU :sI C g (.int i) (.int j) M Q=(C i j/\Q (g i j) M):=rfl
theorem qt :Qu g (.int i) (.int j) M Q=Q (g i j) M:=rfl
theorem dS :sU g (.int i) M Q=Q (g i) M:=rfl
theorem qe:Ta false (.int i) (.int j) M Q=(true=true/\Q (.bl (decide (i=j))) M):=rfl
theorem s0:Ta true (.int i) (.int j) M Q=(true=true/\Q (.bl (!decide (i=j))) M):=rfl
theorem qg :Ta false (.str z) (.str z') M Q=(true=true/\Q (.bl (decide (z=z'))) M):=rfl
theorem s9 :Ta true (.str z) (.str z') M Q=(true=true/\Q (.bl (!decide (z=z'))) M):=rfl
theorem ot :Ta false (.bl b) (.bl b') M Q=(true=true/\Q (.bl (b == b')) M):=rfl
theorem sy :Ta true (.bl b) (.bl b') M Q=(true=true/\Q (.bl (!(b == b'))) M):=rfl
theorem qo :Xx c [x,.ty c'] M Q=(c'=c/\Cp (KQ M x) λt=>Cp (DA t c) λb=>Q (.bl b) M):=rfl
theorem sj:LZ (.tup xs) (.int i) M Q=Cp (FK xs i) λv=>Q v M:=rfl
theorem qp:Xw x y M Q=Cp (Bh M x) λxs=>E4 y λi=>Cp (FK xs i) λv=>Q v M:=rfl
theorem qx :Xs x l u M Q=Cp (Bh M x) λxs=>Q (.lst (cutD xs l u)) M:=rfl
theorem qy :Xr (.tup xs) l u M Q=(¬(HT.sIx xs.length 0 l=0/\HT.sIx xs.length xs.length u=xs.length)/\Q (.tup (cutD xs l u)) M):=rfl
theorem ya:Tb x y M Q=Cp (Bh M x) λxs=>Cp (Bh M y) λys=>xs.length+ys.length<=An/\Q (.lst (xs++ys)) M:=rfl
theorem oh:XA x y M Q=Cp (Bh M x) λxs=>Cp (Bh M y) λys=>xs.length+ys.length<=An/\∀p,M p=none->Q (.ref p) (put M p (.lst (xs++ys))):=rfl
theorem za :MR n (.tup xs) (.tup ys) M Q=Cp (EK (De M 40) xs ys) λb=>Q (.bl (if n then !b else b)) M:=rfl
theorem y0 :MR n (.lst xs) (.lst ys) M Q=Cp (EK (De M 40) xs ys) λb=>Q (.bl (if n then !b else b)) M:=rfl
theorem rM :MR n (.ref p) y M Q=Cp (Bh M (.ref p)) λxs=>Cp (Bh M y) λys=>Cp (EK (De M 40) xs ys) λb=>Q (.bl (if n then !b else b)) M:=rfl
theorem y9 :MR n (.lst xs) y M Q=Cp (Bh M y) λys=>Cp (EK (De M 40) xs ys) λb=>Q (.bl (if n then !b else b)) M:=rfl
theorem ZnX:DQ (.int i)=true:=rfl
theorem ZnV:DQ (.str z)=true:=rfl
theorem zb:DQ (.bl b)=true:=rfl
theorem ZnW:DQ .non=true:=rfl
theorem yz:KJ (.int i) (.int j)=decide (i=j):=rfl
theorem rA :KJ (.str z) (.str z')=decide (z=z'):=rfl
theorem fH :mN n x y M Q=Cp (HH M y) λys=>ys.all DQ=true/\DQ x=true/\Q (.bl (if n then !(ys.any λz=>KJ z x)else ys.any λz=>KJ z x)) M:=rfl
theorem oX:Bh M (.lst xs)=some xs:=rfl
theorem qz:HH M (.lst xs)=some xs:=rfl
theorem rb:HH M (.tup xs)=some xs:=rfl
theorem oY:Bh (put M p (.lst xs)) (.ref p)=some xs:=by simp[Bh,Dc]
theorem ra:HH (put M p (.lst xs)) (.ref p)=some xs:=by simp[HH,Bh,Dc]
theorem OM (h:M p=some (.lst xs)):Bh M (.ref p)=some xs:=by simp[Bh,h]
theorem ZlM:KQ M (.bl b)=some "bool":=rfl
theorem ZnN:KQ M (.int i)=some "int":=rfl
theorem ZnL:KQ M (.str z)=some "str":=rfl
theorem Zj0:KQ M (.tup xs)=some "tuple":=rfl
theorem ZlL:KQ M (.lst xs)=some "list":=rfl
theorem ZnM:KQ M .non=some "NoneType":=rfl
theorem rg:KQ (put M p (.lst xs)) (.ref p)=some "list":=by simp[KQ,Dc]
theorem ZfA:DA "int" "int" = some true:=by nofun
theorem Zek:DA "int" "bool" = some false:=by nofun
theorem Zfz:DA "int" "str" = some false:=by nofun
theorem Zei:DA "int" "list" = some false:=by nofun
theorem Zdv:DA "int" "tuple" = some false:=by nofun
theorem Zej:DA "int" "dict" = some false:=by nofun
theorem Zen:DA "bool" "int" = some true:=by nofun
theorem Zdz:DA "bool" "bool" = some true:=by nofun
theorem Zfy:DA "str" "int" = some false:=by nofun
theorem Zef:DA "str" "bool" = some false:=by nofun
theorem Zfx:DA "str" "str" = some true:=by nofun
theorem Zed:DA "str" "list" = some false:=by nofun
theorem Zdr:DA "str" "tuple" = some false:=by nofun
theorem Zee:DA "str" "dict" = some false:=by nofun
theorem Zeh:DA "list" "int" = some false:=by nofun
theorem Zdu:DA "list" "bool" = some false:=by nofun
theorem Zeg:DA "list" "str" = some false:=by nofun
theorem Zds:DA "list" "list" = some true:=by nofun
theorem ZcQ:DA "list" "tuple" = some false:=by nofun
theorem Zdt:DA "list" "dict" = some false:=by nofun
theorem Zdq:DA "tuple" "int" = some false:=by nofun
theorem ZcP:DA "tuple" "bool" = some false:=by nofun
theorem Zdp:DA "tuple" "str" = some false:=by nofun
theorem ZcN:DA "tuple" "list" = some false:=by nofun
theorem Zcr:DA "tuple" "tuple" = some true:=by nofun
theorem ZcO:DA "tuple" "dict" = some false:=by nofun
theorem Zem:DA "dict" "int" = some false:=by nofun
theorem Zdy:DA "dict" "bool" = some false:=by nofun
theorem Zel:DA "dict" "str" = some false:=by nofun
theorem Zdw:DA "dict" "list" = some false:=by nofun
theorem ZcR:DA "dict" "tuple" = some false:=by nofun
theorem Zdx:DA "dict" "dict" = some true:=by nofun
theorem ZbS:DA "NoneType" "int" = some false:=by nofun
theorem Zby:DA "NoneType" "bool" = some false:=by nofun
theorem ZbR:DA "NoneType" "str" = some false:=by nofun
theorem Zbw:DA "NoneType" "list" = some false:=by nofun
theorem Zbh:DA "NoneType" "tuple" = some false:=by nofun
theorem Zbx:DA "NoneType" "dict" = some false:=by nofun
theorem Sg :FK (x::xs) 0=some x:=Oj rfl
theorem i8 :FK (x::y::xs) 1=some y:=Oj rfl
theorem i7 :FK (x::y::z::xs) 2=some z:=Oj rfl
theorem i5 :FK (x::y::z::w::xs) 3=some w:=Oj rfl
theorem i4 :FK (x::y::z::w::v::xs) 4=some v:=Oj rfl
theorem rc :Xq h T (.ref h) (.str z) M Q=(h=h/\Cp (T.lookup z) λv=>Q (.int v) M):=rfl
theorem ny:G5 (.ref p) [x] (put M p (.lst xs)) Q=(xs.length<An/\Q .non (put M p (.lst (xs++[x])))):=by simp[G5,JZ,Gx,Dc,QX]
theorem ZK :Gf (.ref p) [.lst zs] (put M p (.lst xs)) Q=(xs.length+zs.length<=An/\Q .non (put M p (.lst (xs++zs)))):=by simp[Gf,JZ,Gx,Dc,QX,Bh,Cp]
theorem Zo1 :NX wi n caps tt te τ M Q=wi τ M λxs S M1=>LD n xs S caps tt te τ M1 λys M2=>∀p,M2 p=none->Q (.ref p) (put M2 p (.lst ys)):=rfl
theorem ZnT :Cp (DU M (.dic AR)) k=k AR:=rfl
theorem N6 :DE (n::N) (d::ds)=some d::DE N ds:=rfl
theorem N4 :DE (n::N) []=none::DE N []:=rfl
theorem N5:DE [] []=[]:=rfl
theorem lj :L9 τ caps v=v::caps.map λc=>(τ[c.2]?).join:=rfl
end
theorem vf (xs)(k:Nat):cutD xs none (some (k:Int))=xs.take k:=by
 unfold cutD;rw[HT.sIx_none,HT.sIx_nat,LM,NA];by_cases h:k<=xs.length
 .rw[Fh h]
 .rw[Fs (by ext),Be,BR (by ext)]
theorem Ω (xs){k:Nat}:cutD xs (some (k:Int)) none=xs.drop k:=by
 unfold cutD;rw[HT.sIx_none,HT.sIx_nat];by_cases h:k<=xs.length
 .rw[Fh h,BR (by rw[F2];exact AJ _)]
 .rw[Fs (by ext),Jv,LH,Nl (by ext)]
theorem Zn1 (xs){k:Int}(h:0<=k):cutD xs (some k) none=xs.drop k.toNat:=by
 have e:k=((k.toNat:Nat):Int):=by ext
 rw[e,Ω,Bt]
theorem cutD_toI (xs:List D)(h:0<=k):cutD xs none (some k)=xs.take k.toNat:=by
 have e:k=((k.toNat:Nat):Int):=by ext
 rw[e,vf,Bt]
theorem wz :cutD (x::r) (some 1) (some 1)=[]:=by
 unfold cutD;rw[show(some (1:Int))=some ((1:Nat):Int)from rfl,HT.sIx_nat,HT.sIx_nat,Jv,LH]
theorem iH (h:k=1+(ks.length:Int)):cutD (x::(ks++more)) (some 1) (some k)=ks:=by
 subst h;unfold cutD
 have e1:HT.sIx (x::(ks++more)).length 0 (some 1)=1:=by
  rw[show(some (1:Int))=some ((1:Nat):Int)from rfl,HT.sIx_nat,AO];ext
 have e2:HT.sIx (x::(ks++more)).length (x::(ks++more)).length (some (1+(ks.length:Int)))=1+ks.length:=by
  rw[show(1+(ks.length:Int))=((1+ks.length:Nat):Int) by ext,HT.sIx_nat,AO,As];ext
 rw[e1,e2,List.drop_succ_cons,LM,Ho,List.take_left]
theorem w4 :cutD (x::a::r) (some 1) (some 2)=[a]:=iH (ks:=[a]) rfl
theorem w5 :cutD (x::a::b::r) (some 1) (some 3)=[a,b]:=iH (ks:=[a,b]) rfl
theorem w9 :cutD (x::a::b::c::r) (some 1) (some 4)=[a,b,c]:=iH (ks:=[a,b,c]) rfl
theorem cZ :HT.sIx (n+1) 0 (some 1)=1:=by
 rw[show(some (1:Int))=some ((1:Nat):Int)from rfl,HT.sIx_nat];ext
theorem Mc {α:Type}{g:α->D}{xs:List α}{i:Nat}{d:D}(h:(xs.map g)[i]? = some d):∃x,xs[i]? = some x/\d=g x:=by
 rw[AH]at h;cases e:xs[i]? with
 |none=>rw[e]at h;cases h
 |some x=>rw[e]at h;exact⟨x,rfl,(Bb h).symm⟩
noncomputable def IL:List D->Option (List Int)
 |[]=>some []
 |.int n::r=>(IL r).map (n::·)
 |_::_=>none
theorem kL:∀ns,IL (ns.map D.int)=some ns
 |[]=>rfl
 |n::r=>by rw[AQ,IL,kL r];rfl
theorem uF:∀{xs:List D}{ns:List Int},IL xs=some ns->xs=ns.map D.int
 |[],ns,h=>by cases h;rfl
 |x::r,ns,h=>by
  cases x with
  |int n=>
   rw[IL]at h;cases e:IL r with
   |none=>rw[e]at h;cases h
   |some ms=>rw[e]at h;cases h;rw[uF e];rfl
  |_=>cases h
theorem z6 (h:Bh M x=some xs):HH M x=some xs:=by
 cases x with
 |tup ys=>cases h
 |_=>exact h
def MV (M:Mp)(x:D)(k:List Int->Prop):Prop:=Cp (Bh M x) λxs=>Cp (IL xs) k
theorem hZ (h:MV M x k):∃ns,Bh M x=some (ns.map D.int)/\HH M x=some (ns.map D.int)/\k ns:=by
 obtain⟨xs,e,h1⟩:=Cn h;obtain⟨ns,e2,q⟩:=Cn h1;rw[uF e2]at e;exact⟨ns,e,z6 e,q⟩
theorem ZnR :MV M (.lst (ns.map D.int)) k=k ns:=by unfold MV;rw[oX,BW,kL,BW]
theorem ZnQ :MV (put M p (.lst (ns.map D.int))) (.ref p) k=k ns:=by unfold MV;rw[oY,BW,kL,BW]
theorem wK (M)(n):∀ns ms:List Int,EK (De M n) (ns.map D.int) (ms.map D.int)=some (decide (ns=ms))
 |[],[]=>by simp[EK]
 |[],_::_=>by simp[EK]
 |_::_,[]=>by simp[EK]
 |x::xs,y::ys=>by
  rw[AQ,AQ,EK,wK M n xs ys];have e:De M n (.int x) (.int y)=some (decide (x=y)):=by cases n<;>rfl
  rw[e];simp
theorem ym (M)(n)(a b):De M n (.int a) (.int b)=some (decide (a=b)):=by cases n<;>rfl
theorem yn (M)(n)(a b):De M n (.str a) (.str b)=some (decide (a=b)):=by cases n<;>rfl
theorem Υ (M)(n)(a b)(xs ys):EK (De M n) (.int a::xs) (.int b::ys)=(EK (De M n) xs ys).map (decide (a=b) && ·):=by
 rw[EK,ym];cases EK (De M n) xs ys<;>rfl
theorem Χ (M)(n)(a b)(xs ys):EK (De M n) (.str a::xs) (.str b::ys)=(EK (De M n) xs ys).map (decide (a=b) && ·):=by
 rw[EK,yn];cases EK (De M n) xs ys<;>rfl
theorem Φ :EK f [] []=some true:=rfl
theorem gU:((0:Nat):Int)=0:=rfl
theorem gT:((1:Nat):Int)=1:=rfl
theorem gS:((2:Nat):Int)=2:=rfl
theorem gR:((3:Nat):Int)=3:=rfl
theorem gQ:((4:Nat):Int)=4:=rfl
theorem gP:((5:Nat):Int)=5:=rfl
theorem gO:((6:Nat):Int)=6:=rfl
theorem gN:((7:Nat):Int)=7:=rfl
theorem gL:((8:Nat):Int)=8:=rfl
theorem gK:((9:Nat):Int)=9:=rfl
theorem X2:((10:Nat):Int)=10:=rfl
theorem X1:((11:Nat):Int)=11:=rfl
theorem X0:((12:Nat):Int)=12:=rfl
theorem Zmh (M)(n)(xs):EK (De M n) xs []=some xs.isEmpty:=by cases xs<;>rfl
theorem none_of (s:Sub M M')(h:M' p=none):M p=none:=by
 cases e:M p with
 |none=>rfl
 |some o=>rw[s p o e]at h;cases h
theorem jS (h:put M p o q=none):M q=none:=by
 unfold put at h;split at h
 .cases h
 .exact h
theorem V9 {K:Ac}(no:∀ds M Q,¬sp ds M Q):FnOk P w K mg base CX0 k f fd ps (lSp K sp):=
 ⟨λvs H Q E ⟨Z,ds,M,Q2,_,_,h,_⟩=>absurd h (no ds M Q2),λA outer s H args us vs Q E _ _ _ _ ⟨Z,ds,M,Q2,_,_,h,_⟩=>absurd h (no ds M Q2)⟩
theorem QQ (s:Sub M M')(h:Q d M):Dn Q d M':=⟨M,s,h⟩
theorem GK (h:n<=1000):n<=An:=Fu (BS h)
theorem ij (h:n<=1000):(n<=An)=True:=eq_true (GK h)
theorem cY (h:n<=1000):(n<An)=True:=eq_true (BS h)
section
variable {P:AX}{w:Bj}{K:Ac}{mg:Str->Option Ad}{base:BU}{x qual:Str}{st:A4}{f:Ao}{fd:B9}{N ps:List Str}{k:Nat}
theorem Co.o1 {B:D->Mp->DV->Prop}(F:Co K x qual st f fd)(S:Ef N ps (Gu st))
  (hb:∀ (cdv:Ad) (A:Bq) (outer:List Env) (s:Aj) (H:Hp) (E:XK) (d0:D) (M:Mp) (Q:DV),Dg k (A.deeper (EQ qual (Gu st) s.heap.objs.size f cdv))->B d0 M Q ->
   ∃ t:GU,C3 (Im CX0 P w K mg base N qual (Gu st) f cdv A outer s H E).nox (LB st) t/\t { nx:=λ_ M'=>Dn Q .non M',rt:=Dn Q } (DE N [d0]) M) (hl:ps.length=1:=by rfl):FnOk P w K mg base CX0 (k+1) f fd ps (lSp K λds M Q=>Gx ds λd0=>B d0 M Q) :=
 Co.ok2 F S (λds M Q h=>by obtain⟨d0,rfl,_⟩:=GN h;exact hl.symm) λcdv A outer s H E ds M Q hr h=>by
  obtain⟨d0,rfl,h⟩:=GN h;exact hb cdv A outer s H E d0 M Q hr h
theorem Co.o2 {B:D->D->Mp->DV->Prop}(F:Co K x qual st f fd)(S:Ef N ps (Gu st))
  (hb:∀ (cdv:Ad) (A:Bq) (outer:List Env) (s:Aj) (H:Hp) (E:XK) (d0 d1:D) (M:Mp) (Q:DV),Dg k (A.deeper (EQ qual (Gu st) s.heap.objs.size f cdv))->B d0 d1 M Q ->
   ∃ t:GU,C3 (Im CX0 P w K mg base N qual (Gu st) f cdv A outer s H E).nox (LB st) t/\t { nx:=λ_ M'=>Dn Q .non M',rt:=Dn Q } (DE N [d0,d1]) M) (hl:ps.length=2:=by rfl):FnOk P w K mg base CX0 (k+1) f fd ps (lSp K λds M Q=>FI ds λd0 d1=>B d0 d1 M Q) :=
 Co.ok2 F S (λds M Q h=>by obtain⟨d0,d1,rfl,_⟩:=Lo h;exact hl.symm) λcdv A outer s H E ds M Q hr h=>by
  obtain⟨d0,d1,rfl,h⟩:=Lo h;exact hb cdv A outer s H E d0 d1 M Q hr h
theorem Co.o3 {B:D->D->D->Mp->DV->Prop}(F:Co K x qual st f fd)(S:Ef N ps (Gu st))
  (hb:∀ (cdv:Ad) (A:Bq) (outer:List Env) (s:Aj) (H:Hp) (E:XK) (d0 d1 d2:D) (M:Mp) (Q:DV),Dg k (A.deeper (EQ qual (Gu st) s.heap.objs.size f cdv))->B d0 d1 d2 M Q ->
   ∃ t:GU,C3 (Im CX0 P w K mg base N qual (Gu st) f cdv A outer s H E).nox (LB st) t/\t { nx:=λ_ M'=>Dn Q .non M',rt:=Dn Q } (DE N [d0,d1,d2]) M) (hl:ps.length=3:=by rfl):FnOk P w K mg base CX0 (k+1) f fd ps (lSp K λds M Q=>IZ ds λd0 d1 d2=>B d0 d1 d2 M Q) :=
 Co.ok2 F S (λds M Q h=>by obtain⟨d0,d1,d2,rfl,_⟩:=O6 h;exact hl.symm) λcdv A outer s H E ds M Q hr h=>by
  obtain⟨d0,d1,d2,rfl,h⟩:=O6 h;exact hb cdv A outer s H E d0 d1 d2 M Q hr h
theorem Co.o4 {B:D->D->D->D->Mp->DV->Prop}(F:Co K x qual st f fd)(S:Ef N ps (Gu st))
  (hb:∀ (cdv:Ad) (A:Bq) (outer:List Env) (s:Aj) (H:Hp) (E:XK) (d0 d1 d2 d3:D) (M:Mp) (Q:DV),Dg k (A.deeper (EQ qual (Gu st) s.heap.objs.size f cdv))->B d0 d1 d2 d3 M Q ->
   ∃ t:GU,C3 (Im CX0 P w K mg base N qual (Gu st) f cdv A outer s H E).nox (LB st) t/\t { nx:=λ_ M'=>Dn Q .non M',rt:=Dn Q } (DE N [d0,d1,d2,d3]) M) (hl:ps.length=4:=by rfl):FnOk P w K mg base CX0 (k+1) f fd ps (lSp K λds M Q=>Te ds λd0 d1 d2 d3=>B d0 d1 d2 d3 M Q) :=
 Co.ok2 F S (λds M Q h=>by obtain⟨d0,d1,d2,d3,rfl,_⟩:=Sa h;exact hl.symm) λcdv A outer s H E ds M Q hr h=>by
  obtain⟨d0,d1,d2,d3,rfl,h⟩:=Sa h;exact hb cdv A outer s H E d0 d1 d2 d3 M Q hr h
theorem Co.p1 {B:D->Mp->DV->Prop}(F:Co K x qual st f fd)(N:List Str)
  (hb:∀ {cdv:Ad} {A:Bq} {outer:List Env} {s:Aj} {H:Hp} {E:XK} (d0:D) (M:Mp) (Q:DV),Dg k (A.deeper (EQ qual (Gu st) s.heap.objs.size f cdv))->N.Nodup->B d0 M Q ->
   ∃ t:GU,C3 (Im CX0 P w K mg base N qual (Gu st) f cdv A outer s H E).nox (LB st) t/\t { nx:=λ_ M'=>Dn Q .non M',rt:=Dn Q } (DE N [d0]) M) (S:Ef N ps (Gu st):=by exact ⟨rfl,rfl,rfl,by nofun,rfl,by nofun,by nofun⟩) (hl:ps.length=1:=by rfl):FnOk P w K mg base CX0 (k+1) f fd ps (lSp K λds M Q=>Gx ds λd0=>B d0 M Q) :=
 Co.ok2 F S (λds M Q h=>by obtain⟨d0,rfl,_⟩:=GN h;exact hl.symm) λcdv A outer s H E ds M Q hr h=>by
  obtain⟨d0,rfl,h⟩:=GN h;exact hb d0 M Q hr S.nd h
theorem Co.p2 {B:D->D->Mp->DV->Prop}(F:Co K x qual st f fd)(N:List Str)
  (hb:∀ {cdv:Ad} {A:Bq} {outer:List Env} {s:Aj} {H:Hp} {E:XK} (d0 d1:D) (M:Mp) (Q:DV),Dg k (A.deeper (EQ qual (Gu st) s.heap.objs.size f cdv))->N.Nodup->B d0 d1 M Q ->
   ∃ t:GU,C3 (Im CX0 P w K mg base N qual (Gu st) f cdv A outer s H E).nox (LB st) t/\t { nx:=λ_ M'=>Dn Q .non M',rt:=Dn Q } (DE N [d0,d1]) M) (S:Ef N ps (Gu st):=by exact ⟨rfl,rfl,rfl,by nofun,rfl,by nofun,by nofun⟩) (hl:ps.length=2:=by rfl):FnOk P w K mg base CX0 (k+1) f fd ps (lSp K λds M Q=>FI ds λd0 d1=>B d0 d1 M Q) :=
 Co.ok2 F S (λds M Q h=>by obtain⟨d0,d1,rfl,_⟩:=Lo h;exact hl.symm) λcdv A outer s H E ds M Q hr h=>by
  obtain⟨d0,d1,rfl,h⟩:=Lo h;exact hb d0 d1 M Q hr S.nd h
theorem Co.p3 {B:D->D->D->Mp->DV->Prop}(F:Co K x qual st f fd)(N:List Str)
  (hb:∀ {cdv:Ad} {A:Bq} {outer:List Env} {s:Aj} {H:Hp} {E:XK} (d0 d1 d2:D) (M:Mp) (Q:DV),Dg k (A.deeper (EQ qual (Gu st) s.heap.objs.size f cdv))->N.Nodup->B d0 d1 d2 M Q ->
   ∃ t:GU,C3 (Im CX0 P w K mg base N qual (Gu st) f cdv A outer s H E).nox (LB st) t/\t { nx:=λ_ M'=>Dn Q .non M',rt:=Dn Q } (DE N [d0,d1,d2]) M) (S:Ef N ps (Gu st):=by exact ⟨rfl,rfl,rfl,by nofun,rfl,by nofun,by nofun⟩) (hl:ps.length=3:=by rfl):FnOk P w K mg base CX0 (k+1) f fd ps (lSp K λds M Q=>IZ ds λd0 d1 d2=>B d0 d1 d2 M Q) :=
 Co.ok2 F S (λds M Q h=>by obtain⟨d0,d1,d2,rfl,_⟩:=O6 h;exact hl.symm) λcdv A outer s H E ds M Q hr h=>by
  obtain⟨d0,d1,d2,rfl,h⟩:=O6 h;exact hb d0 d1 d2 M Q hr S.nd h
theorem Co.p4 {B:D->D->D->D->Mp->DV->Prop}(F:Co K x qual st f fd)(N:List Str)
  (hb:∀ {cdv:Ad} {A:Bq} {outer:List Env} {s:Aj} {H:Hp} {E:XK} (d0 d1 d2 d3:D) (M:Mp) (Q:DV),Dg k (A.deeper (EQ qual (Gu st) s.heap.objs.size f cdv))->N.Nodup->B d0 d1 d2 d3 M Q ->
   ∃ t:GU,C3 (Im CX0 P w K mg base N qual (Gu st) f cdv A outer s H E).nox (LB st) t/\t { nx:=λ_ M'=>Dn Q .non M',rt:=Dn Q } (DE N [d0,d1,d2,d3]) M) (S:Ef N ps (Gu st):=by exact ⟨rfl,rfl,rfl,by nofun,rfl,by nofun,by nofun⟩) (hl:ps.length=4:=by rfl):FnOk P w K mg base CX0 (k+1) f fd ps (lSp K λds M Q=>Te ds λd0 d1 d2 d3=>B d0 d1 d2 d3 M Q) :=
 Co.ok2 F S (λds M Q h=>by obtain⟨d0,d1,d2,d3,rfl,_⟩:=Sa h;exact hl.symm) λcdv A outer s H E ds M Q hr h=>by
  obtain⟨d0,d1,d2,d3,rfl,h⟩:=Sa h;exact hb d0 d1 d2 d3 M Q hr S.nd h
theorem Co.p5 {B:D->D->D->D->D->Mp->DV->Prop}(F:Co K x qual st f fd)(N:List Str)
  (hb:∀ {cdv:Ad} {A:Bq} {outer:List Env} {s:Aj} {H:Hp} {E:XK} (d0 d1 d2 d3 d4:D) (M:Mp) (Q:DV),Dg k (A.deeper (EQ qual (Gu st) s.heap.objs.size f cdv))->N.Nodup->B d0 d1 d2 d3 d4 M Q ->
   ∃ t:GU,C3 (Im CX0 P w K mg base N qual (Gu st) f cdv A outer s H E).nox (LB st) t/\t { nx:=λ_ M'=>Dn Q .non M',rt:=Dn Q } (DE N [d0,d1,d2,d3,d4]) M) (S:Ef N ps (Gu st):=by exact ⟨rfl,rfl,rfl,by nofun,rfl,by nofun,by nofun⟩) (hl:ps.length=5:=by rfl):FnOk P w K mg base CX0 (k+1) f fd ps (lSp K λds M Q=>XH ds λd0 d1 d2 d3 d4=>B d0 d1 d2 d3 d4 M Q) :=
 Co.ok2 F S (λds M Q h=>by obtain⟨d0,d1,d2,d3,d4,rfl,_⟩:=Up h;exact hl.symm) λcdv A outer s H E ds M Q hr h=>by
  symm;obtain⟨d0,d1,d2,d3,d4,e1',h⟩:=Up h;cutsat;subst e1';exact hb d0 d1 d2 d3 d4 M Q hr S.nd h
end
end L3
namespace SH
open PySem PySem.W PySem.Calls PyProof.Rows
noncomputable def Oh :List α->List α
 |a::_::l=>a::Oh l
 |[a]=>[a]
 |[]=>[]
theorem iS :∀(l:List α) (i:Nat),(Oh l)[i]? = l[2*i]?
 |[],i=>by simp[Oh]
 |[a],0=>by simp[Oh]
 |[a],i+1=>by simp[Oh,Vk]
 |a::b::l,0=>by simp[Oh]
 |a::b::l,i+1=>by simp only[Oh,Hf,Vk,Nat.mul_one];exact iS l i
theorem iT :∀(l:List α),(Oh l).length=(l.length+1) / 2
 |[]=>by simp[Oh]
 |[a]=>by simp[Oh]
 |a::b::l=>by simp only[Oh,AO,iT l];ext
noncomputable def Sb:Nat->List Obj->BT
 |0,_=>.nil
 |_+1,[]=>.nil
 |n+1,o::l=>.node o (Sb n (Oh l)) (Sb n (Oh l.tail))
theorem jP:∀(n:Nat) (l:List Obj),l.length<2^n->∀i,(Sb n l).get i=l[i]?
 |0,l,h,i=>by
  have:=List.length_eq_zero_iff.mp (by simpa using h);subst this;simp[Sb,BT.get]
 |n+1,[],_,i=>by simp[Sb,BT.get]
 |n+1,o::l,h,i=>by
  have hl:l.length+1<2^n*2:=by simpa[Nat.pow_succ]using h
  have ha:(Oh l).length<2^n:=by rw[iT];ext
  have hb:(Oh l.tail).length<2^n:=by rw[iT,List.length_tail];ext
  unfold Sb;rw[BT.get_node,jP n _ ha,jP n _ hb,iS,iS];by_cases h0:i=0
  .subst h0;simp
  .rw[if_neg h0];by_cases p:i%2=1
   .rw[if_pos p,show 2*(i / 2)=i-1 by ext,PH];simp[h0]
   .rw[if_neg p,List.getElem?_tail,show 2*(i / 2-1)+1=i-1 by ext,PH];simp[h0]
theorem vb (h:l.length<2^n):absHeap (Sb n l) l.length life=⟨l.toArray,life⟩:=by
 have:((Sb n l).list l.length)=l:=by
  apply Fw;intro i;unfold BT.list;rw[AH];by_cases hi:i<l.length
  .rw[EO hi,G0,jP n l h,Ag hi];rfl
  .rw[Bz (by rw[Ce];ext),Bz (by ext)];rfl
 unfold absHeap;rw[this]
noncomputable def Km (tb:String->Option Er)(p:AX)(w:Bj)(n₀:Nat)(ann:Option Ad):Nat->Vq->Thread->Option Vq
 |0,_,_=>none
 |n+1,s,t=>match through t with
  |true=>some s
  |false=>match stepOk n₀ ann t with
   |false=>none
   |true=>match stepT (denote tb) p w s t with
    |some (s',t')=>Km tb p w n₀ ann n s' t'
    |none=>none
theorem uZ :∀{n:Nat}{s s':Vq}{t:Thread},Km tb p w n₀ ann n s t=some s'->topRun tb p w n₀ ann n s.abs t=some s'.abs
 |0,_,_,_,h=>by cases h
 |n+1,s,s',t,h=>by
  unfold Km at h;unfold topRun;cases he:through t with
  |true=>rw[he]at h;cases h;rfl
  |false=>
   rw[he]at h;cases hk:stepOk n₀ ann t with
   |false=>rw[hk]at h;cases h
   |true=>
    rw[hk]at h;cases hs:stepT (denote tb) p w s t with
    |none=>rw[hs]at h;cases h
    |some r=>obtain⟨s₂,t₂⟩:=r;rw[hs]at h;rw[stepT_spec hs];exact uZ h
noncomputable def Ux (H₀:BU)(os:Vr):Vq:=⟨Sb 14 H₀.objs.toList,H₀.objs.toList.length,H₀.life,#[],NG,Pp,os⟩
theorem yk (H₀:BU)(os:Vr)(h:Nat.blt H₀.objs.toList.length (2^14)=true):(Ux H₀ os).abs=⟨H₀,#[],NG,Pp,os⟩:=by
 unfold Ux SharedT.abs;dsimp only;rw[vb (Ox h)]
noncomputable def XN (p q:AX)(loose:List Str)(Xt:Aj->Bool)(Yf:Aj->α)(H₀:BU)(s:Aj):=
 (staticsOk (MJ p.main.body) H₀ s.heap && namesBound p s.heap && gensDone s && laidKept H₀ s.heap,openSeen q loose (MJ p.main.body) Xt true s,Yf s)
noncomputable def whole (H₀:BU)(p q:AX)(loose:List Str)(Xt:Aj->Bool)(Yf:Aj->α)(n₀:Nat)(ann:Option Ad)(M:Nat)(w:Bj)(os:Vr):=
 (Km Wq p w n₀ ann M (Ux H₀ os) (topStub p)).map λs=>XN p q loose Xt Yf H₀ s.abs
theorem left_of
  (e:opening p=plainProg p.main.scope.names) (hN:Nat.ble 600 N=true) (f:∀s,fenceModules? p s=some s) (hb:∀P,Nat.blt (Ew P).objs.toList.length (2^14)=true)
  (size:∀w:Bj,((Ew w.params).isNs B3 && (#[]:Array cG).size == 0,(Ew w.params).objs.size,(Ew w.params).nsMap B3 "__annotations__")=(true,n₀,ann)) (le:Nat.ble M N=true)
  (run:∀w os,whole (Ew w.params) p q loose Xt Yf n₀ ann M w os=some (true,openGood q loose,Ya w)):LeftO p q loose Xt Yf Ya N:=λw=>by
 obtain⟨⟨h,gs,d,k,os⟩,e,e'⟩:=E6.mp (boot_open e hN f w);obtain⟨rfl,rfl,rfl,rfl⟩:h=Ew w.params/\gs=#[]/\d=NG/\k=Pp:=by simpa using e'
 obtain⟨z1,z2,z3⟩:_/\_/\_:=by simpa only[Rb]using size w
 obtain⟨s,hs,l⟩:=E6.mp (run w os);have r:=uZ hs;rw[yk _ _ (hb _)]at r;have l1:(_ && _)=true:=congrArg Prod.fst l;have l2:=congrArg (λx=>x.2.1) l;have l3:=congrArg (λx=>x.2.2) l;have r:=topRun_mono (N-M) _ _ _ _ r;rw[show M+(N-M)=N by have:=Ox le;ext]at r
 have t:topFrom Wq p w N ⟨Ew w.params,#[],NG,Pp,os⟩=some s.abs:=by
  unfold topFrom;dsimp only;rw[z1,z2,z3,r];show(match staticsOk (MJ p.main.body) (Ew w.params) s.abs.heap && namesBound p s.abs.heap && gensDone s.abs && laidKept (Ew w.params) s.abs.heap with | true=>_ | false=>_)=_;rw[l1]
 unfold openEnds;rw[e];show(topFrom Wq p w N _).map _=_;rw[t];exact congrArg some (SG l2 l3)
end SH
namespace L3
open PySem PySem.Spec PyProof.Rows L2
section
unseal BY
theorem zV:∀{vs:List Ad}{ys:List Str},BJ (ys.map V.str) vs->Lg vs ys
 |[],[],_=>.nil
 |v::vs,y::ys,.cons h t=>by
  obtain⟨u,rfl⟩:=h;exact .cons y u (zV t)
end
end L3
namespace L2
open PySem PySem.Spec PyProof.Rows
theorem Yv (h:-(2^62)<=a)(h':a<2^62):IX a=true:=by
 unfold IX;simp only[decide_eq_true_eq,BM];ext
end L2
namespace L3
open PySem PySem.Spec PyProof.Rows L2
unseal B5 HX Ju Gi Ko GV C3 Cf FW BY FL Ga K4 Hw ES
theorem ats_strs :∀ss:List Str,Dw Z (ss.map V.str) (ss.map D.str)
 |[]=>.nil
 |_::r=>.cons rfl (ats_strs r)
def Oc (o:Option MO)(k:List D->Prop):Prop:=match o with
 |some (.lst xs)=>k xs
 |_=>False
theorem iB (h:Oc o k):∃xs,o=some (.lst xs)/\k xs:=by
 cases o with
 |none=>exact h.elim
 |some u=>cases u with
  |lst xs=>exact⟨xs,rfl,h⟩
  |_=>exact h.elim
theorem t3 :Oc (some (.lst xs)) k=k xs:=rfl
end L3
namespace L2
open PySem PySem.Spec PyProof.Rows
section
variable {prog:AX}{w:Bj}{A:Bq}{E:Ad->Aj->Prop}{s:Aj}{r:Ao}{a b:Int}{t u v:Tok}{Q:Ad->Aj->Prop}
end
end L2
namespace L3
open PySem PySem.Spec PyProof.Rows L2
unseal B5 HX Ju Gi Ko GV C3 Cf FW BY FL Ga K4 Hw ES
end L3
namespace L3
open PySem PySem.Spec PyProof.Rows L2
section
end
section
unseal ES B5 Gi
end
unseal Cf
end L3
namespace L2
open PySem PySem.Spec PyProof.Rows
section
variable  {st:Bv}  {lo:Option Bv}
end
end L2
namespace L3
open PySem PySem.Spec PyProof.Rows L2
unseal B5 HX Ju Gi Ko GV C3 Cf FW BY FL Ga K4 Hw ES
section
variable  {st:Bv}  {lo:Option Bv}
noncomputable def Tn:D->Bool
 |.non=>true
 |_=>false
theorem vi (ax:At Z x dx):decide (x=V.non)=Tn dx:=by
 cases dx with
 |tup xs=>obtain⟨p,rfl,_⟩:=ax;rfl
 |lst xs=>obtain⟨p,rfl,_⟩:=ax;rfl
 |dic xs=>obtain⟨p,rfl,_⟩:=ax;rfl
 |dct xs=>obtain⟨p,rfl,_⟩:=ax;rfl
 |_=>cases ax;rfl
theorem oy:Cf X (A9 .IsNot) (λx y M Q=>y=.non/\Q (.bl (!Tn x)) M):=Gb.mono ur (by
 intro x y H Q hI';symm;obtain ⟨Z,dx,dy,M,Q2,hr,ax,ay,h,k⟩:=hI';cutsat;obtain ⟨rfl,q⟩:=h;cases (show y=V.non from ay);refine ⟨rfl,?_⟩;rw [vi ax];exact k Z (.bl _) (.bl _) H M (Le.refl _) hr rfl q)
end
end L3
namespace PySem
open Sem (wp)
section
variable {prog:AX}{w:Bj}{A:Bq}{E:Ad->Aj->Prop}{s:Aj}{d it:Ao}{es:Array LW}{i ep:Nat}
end
end PySem
namespace L3
open PySem PySem.Spec PyProof.Rows L2
unseal B5 HX Ju Gi Ko GV C3 Cf FW BY FL Ga K4 Hw ES
noncomputable def Go (ks:List B7):D:=.tup (ks.map kD)
section
variable {K:Ac}{H:Hp}{M:Mp}{Z:Zt}
end
section
variable {X:Cx}{pos pos':Pos}{o i value:Bv}{td ty tv:D3}
end
structure Mf (K:Ac)(C:Ao)(m qual:Str)(st:A4)(ps:List Str)(f:Ao)(fd:B9):Prop where
 F:Co K m qual st f fd
 b:HN K fd ps []
 m:Sx K C m f
def Ob (C:Ao)(o:Option MO)(k:List (Str×D)->Prop):Prop:=∃fs,o=some (.obj C fs)/\k fs
theorem Hv :Ob C (some (.obj C fs)) k=k fs:=propext ⟨λ⟨fs',e,h⟩=>by cases e;exact h,λh=>⟨fs,rfl,h⟩⟩
noncomputable def putO (f:Str)(v:D):List (Str×D)->List (Str×D)
 |[]=>[(f,v)]
 |p::r=>if p.1=f then(p.1,v)::r else p::putO f v r
section
variable {K:Ac}   {Z:Zt}{f:Str}{vs:List (Str×V)}{ds:List (Str×D)}
theorem Cw.putO (a:At Z v d)(h:Cw Z vs ds):Cw Z (Hs f v vs) (L3.putO f d ds):=by
 induction h with
 |nil=>exact .cons ⟨rfl,a⟩ .nil
 | @cons p q vs ds r t ih=>
  unfold Hs L3.putO;have e:=r.1;by_cases c:p.1=f
  .rw[if_pos c,if_pos (by rw[<- e];exact c)];exact .cons ⟨e,a⟩ t
  .rw[if_neg c,if_neg (by rw[<- e];exact c)];exact .cons r ih
theorem Cw.look (h:Cw Z vs ds):(ds.lookup f=none/\vs.lookup f=none)\/∃d v,ds.lookup f=some d/\vs.lookup f=some v/\At Z v d:=by
 induction h with
 |nil=>exact .inl ⟨rfl,rfl⟩
 | @cons p q vs ds r t ih=>
  have e:=r.1;rw[BK,BK,e];cases c:f == q.1 with
  |true=>exact .inr ⟨_,_,rfl,rfl,r.2⟩
  |false=>exact ih
theorem HR.newO (h:HR K H M Z)(e1:H x=none)(e2:H dx=none)(ne:dx≠x):HR K (CF (CF H dx (.own x)) x (.ins C dx [])) (put M x (.obj C [])) Z:=by
 obtain⟨h1,h2⟩:=h.lay e2 (.own x);exact HR.newM ⟨h1,h2⟩ (by rw[HW (Bm ne)];exact e1) ⟨dx,[],MH,.nil⟩
end
section
variable      {m x:Str}
def Xb (C:Ao)(f:Str)(ta:D3):D3:=λτ M Q=>ta τ M λx M1=>JZ x λp=>Ob C (M1 p) λfs=>Cp (fs.lookup f) λd=>Q d M1
theorem G6 (c:Ot X.K C)(n:Eb X.K C f)(he:B5 X e ta)(hb:CJ e f X.env (eval e X.env)=eval e X.env:=by rfl):B5 X (.Attribute e f pos) (Xb C f ta):=PE.mono (p6 he hb) (by
 sleep 3;refine lE.bind st hr h λZ1 x dx H1 M1 l1 h1 a1 q1=>?_;obtain⟨p,rfl,fs,hm,q2⟩:=Ik q1;obtain⟨d,hd,q⟩:=Cn q2;obtain⟨ix,vs,hv,ka⟩:=h1.rdMO hm;rcases ka.look with⟨e1,_⟩|⟨d',v,e1,e2,a⟩
 .rw[hd]at e1;cases e1
 .rw [hd] at e1;cases e1;exact ⟨p,C,ix,vs,v,a1,hv,c,n,e2,k Z1 v d H1 M1 l1 h1 a q⟩)
def SS (C:Ao)(f:Str)(ta tv:D3):GU:=λE τ M=>tv τ M λy M1=>ta τ M1 λx M2=>JZ x λp=>Ob C (M2 p) λfs=>fs.length<1000/\E.nx τ (put M2 p (.obj C (putO f y fs)))
theorem iL (c:Ot X.K C)(n:Eb X.K C f)(ha:B5 X o ta)(hv:B5 X value tv)(hs:D4 value (some (.Attribute o f pos')) pos.line X.env=pure false:=by rfl):GV X (.Assign [.Attribute o f pos'] value pos) (SS C f ta tv):=PS.mono (m7 ha hv hs) (by
 intro D U H hI';symm;obtain ⟨Z,τ,M,D2,st,hr,h,er⟩:=hI';cutsat;refine lE.bind st hr h λZ1 y dy H1 M1 l1 h1 a1 q1=>lE.bind (st.mono l1) h1 q1 λZ2 x dx H2 M2 l2 h2 a2 q2=>?_;obtain ⟨p,rfl,fs,hm,hl,q⟩:=Ik q2;obtain ⟨ix,vs,hv,ka⟩:=h2.rdMO hm;refine ⟨p,C,ix,vs,a2,hv,c,n,by rw [D7 ka];exact hl,?_⟩;exact er.nx Z2 U τ _ _ (l1.trans l2) (st.mono (l1.trans l2)) (h2.chg (u':=.obj C (putO f dy fs)) hm ⟨ix,_,MH,ka.putO (a1.mono l2)⟩) q)
def OJ (C:Ao)(m:Str)(sp:DW)(ta:D3)(t:Kn):D3:=λτ M Q=>ta τ M λx M1=>JZ x λp=>Ob C (M1 p) λfs=>fs.lookup m=none/\t τ M1 λxs M2=>sp (.ref p::xs) M2 Q
theorem XO {K:Ac} :∀U H Q,lE K (OJ C m sp ta t) U H Q->Qp C m (lSp K sp) [] E0 (lE K ta) (lA K t) U H Q:=by
 sleep 3;refine lE.bind st hr h λZ1 x dx H1 M1 l1 h1 a1 q1=>?_;obtain⟨p,rfl,fs,hm,hn,q⟩:=Ik q1;obtain⟨ix,vs,hv,ka⟩:=h1.rdMO hm;have a1:=a1;subst a1;refine⟨p,ix,vs,rfl,hv,?_,Z1,τ,M1,_,st.mono l1,h1,q,λZ2 ws ds H2 M2 l2 h2 a2 q2=>?_⟩
 .rcases ka.look with⟨_,e2⟩|⟨d',v,e1,_,_⟩
  .exact e2
  .rw[hn]at e1;cases e1
 .show lSp K sp (V.ref p::(ws++[])) H2 Q E0;rw[CL];exact⟨Z2,.ref p::ds,M2,Q2,h2,.cons rfl a2,q2,k.le (l1.trans l2)⟩
theorem Fk {st:A4}(c:Ot X.K C)(d:Mf X.K C m qual st ps g fd)(G:FnOk X.prog X.w X.K X.mg X.base CX0 k g fd ps (lSp X.K sp))(hr:Dg k X.A)(ho:B5 X o ta)(ha:Gi X (e::es) t)
  (hst:Au (e::es) X.env=(false,eval e X.env)::Au es X.env:=by rfl) (hpl:(Cg pos (Au es X.env)).any (·.1)=false:=by rfl)
  (ht:eval (.Call (.Attribute o m apos) (e::es) [] pos) X.env=(do
   let ov <- eval o X.env
   Nf apos.atName
   let (f,first) <- GF [ov] (JP ov m pl)
   RD pos f first (Cg pos (Au (e::es) X.env)) (Fx pos (DJ [] X.env))):=by rfl) :
  B5 X (.Call (.Attribute o m apos) (e::es) [] pos) (OJ C m sp ta t):=PE.mono (va ho c d.m G hr d.b .nil OL ha hst hpl ht) XO
theorem Kx {st:A4}(c:Ot X.K C)(d:Mf X.K C m qual st ps g fd)(G:FnOk X.prog X.w X.K X.mg X.base CX0 k g fd ps (lSp X.K sp))(hr:Dg k X.A)(ho:B5 X o ta)
  (ht:eval (.Call (.Attribute o m apos) [] [] pos) X.env=(do
   let ov <- eval o X.env
   Nf apos.atName
   let (f,first) <- GF [ov] (JP ov m pl)
   RD pos f first (Cg pos (Au [] X.env)) (Fx pos (DJ [] X.env))):=by rfl) :
  B5 X (.Call (.Attribute o m apos) [] [] pos) (OJ C m sp ta T9):=PE.mono (Ζ ho c d.m G hr d.b .nil OL ht) (by
 intro U H Q h;symm;obtain⟨Z,τ,M,Q2,st,hr,h,k⟩:=h;cutsat;refine lE.bind st hr h λZ1 x dx H1 M1 l1 h1 a1 q1=>?_;obtain⟨p,rfl,fs,hm,hn,q⟩:=Ik q1;obtain⟨ix,vs,hv,ka⟩:=h1.rdMO hm;have a1:=a1;subst a1;refine⟨p,ix,vs,rfl,hv,?_,⟨Z1,[.ref p],M1,Q2,h1,.cons rfl .nil,q,k.le l1⟩⟩;rcases ka.look with⟨_,e2⟩|⟨d',v,e1,_,_⟩
 .exact e2
 .rw [hn] at e1;cases e1)
def SW (C:Ao)(sp:DW)(t:Kn):D3:=λτ M Q=>t τ M λxs M1=>∀p,M1 p=none->sp (.ref p::xs) (put M1 p (.obj C [])) λv M2=>v=.non/\Q (.ref p) M2
theorem wc {K:Ac}{M1:Mp}(l1:Le Z Z1)(h1:HR K H1 M1 Z1)(a1:Dw Z1 vs ds)(k:Hz K Z Q2 Q)(q1:∀p,M1 p=none->sp (.ref p::ds) (put M1 p (.obj C [])) λv M2=>v=.non/\Q2 (.ref p) M2) :
  ∀x dx,H1 x=none->H1 dx=none->dx≠x->lSp K sp (.ref x::(vs++[])) (CF (CF H1 dx (.own x)) x (.ins C dx [])) (λv H2=>v=.non/\Q (.ref x) H2) E0:=λx dx e1 e2 ne=>by
 rw[CL];refine⟨Z1,.ref x::ds,_,_,h1.newO e1 e2 ne,.cons rfl a1,q1 x (h1.fresh e1),λZ2 v d H2 M2 l2 h2 a2 q2=>?_⟩;obtain⟨rfl,q⟩:=q2;exact⟨a2,k Z2 (.ref x) (.ref x) H2 M2 (l1.trans l2) h2 rfl q⟩
theorem XB {st:A4}(mk:Mk X.K C g)(d:Mf X.K C "__init__" qual st ps g fd)(G:FnOk X.prog X.w X.K X.mg X.base CX0 k g fd ps (lSp X.K sp))(hr:Dg (k+1) X.A)(hm:X.mg x=some (.ref C))(ha:Gi X (e::es) t)(hg:Gl X x:=by rfl)(hdb:(x == ("__debug__":Str))=false:=by decide)
  (he:Au (e::es) X.env=(false,eval e X.env)::Au es X.env:=by rfl) (hpl:(Cg pos (Au es X.env)).any (·.1)=false:=by rfl) :
  B5 X (.Call (.Name x p) (e::es) [] pos) (SW C sp t):=PE.mono (u9 mk G hr hg hm d.b .nil OL ha hdb he hpl) (by
 intro U H Q hI';symm;obtain ⟨Z,τ,M,Q2,st,hr,h,k⟩:=hI';cutsat;exact ⟨Z,τ,M,_,st,hr,h,λZ1 vs ds H1 M1 l1 h1 a1 q1=>wc l1 h1 a1 k q1⟩)
theorem qh :Xb C f ta τ M Q=ta τ M λx M1=>JZ x λp=>Ob C (M1 p) λfs=>Cp (fs.lookup f) λd=>Q d M1:=rfl
theorem zj :SS C f ta tv E τ M=tv τ M λy M1=>ta τ M1 λx M2=>JZ x λp=>Ob C (M2 p) λfs=>fs.length<1000/\E.nx τ (put M2 p (.obj C (putO f y fs))):=rfl
theorem ze :OJ C m sp ta t τ M Q=ta τ M λx M1=>JZ x λp=>Ob C (M1 p) λfs=>fs.lookup m=none/\t τ M1 λxs M2=>sp (.ref p::xs) M2 Q:=rfl
theorem zd :SW C sp t τ M Q=t τ M λxs M1=>∀p,M1 p=none->sp (.ref p::xs) (put M1 p (.obj C [])) λv M2=>v=.non/\Q (.ref p) M2:=rfl
end
end L3
namespace PySem
open Sem (wp)
section
end
end PySem
namespace L2
open PySem PySem.Spec PyProof.Rows L3
section
end
end L2
namespace L3
open PySem PySem.Spec PyProof.Rows L2
unseal B5 HX Ju Gi Ko GV C3 Cf FW BY FL Ga K4 Hw ES
section
end
end L3
namespace L2
open PySem PySem.Spec PyProof.Rows L3
section
end
end L2
namespace L3
open PySem PySem.Spec PyProof.Rows L2
unseal B5 HX Ju Gi Ko GV C3 Cf FW BY FL Ga K4 Hw ES
section
end
end L3
namespace L2
open PySem PySem.Spec PyProof.Rows L3
section
noncomputable def Jk (c:Nat)(n:Int):Str:=⟨(Ax n.toNat c).toArray⟩
theorem Zmx:Gb X (By .Mult) (λx y H Q=>∃c n,x=.str ⟨#[c]⟩/\y=.int n/\(0<=n/\n<=100)/\Q (.str (Jk c n)) H):=by
 intro Af s U H x y v u Q I rx ry h;symm;obtain⟨c,n,e1',e2',⟨h0,h1⟩,q⟩:=h;cutsat;subst e1' e2';obtain⟨t,rfl⟩:=(show∃t,v=Dk ⟨#[c]⟩ t from rx);obtain⟨t',rfl⟩:=(show∃t,u=DL n t from ry);have hz:(⟨#[c]⟩:Str).length=1:=rfl;have fin:∀r tk tk',r=Jk c n->EP X Af U Q (.str r tk) {s with toks:=tk' }:=λr tk tk' hr=>⟨.str r,H,I.tok _,⟨tk,rfl⟩,by rw[hr];exact q⟩;refine P.mul_str ?_ ?_ ?_ ?_
 .rw[decide_eq_false (by ext),decide_eq_false (by ext)];rfl
 .intro h3 _ h4
  have:(1000:Int)<(2^63-1) / n:=by
   have:(92233720368547758:Int)<=(2^63-1) / n:=Int.le_ediv_of_mul_le (by ext) (by ext);ext
  rw[hz]at h4;ext
 .intro h3 _;unfold cI;exact decide_eq_false (by rw[Jw,hz];ext)
 .split
  .next h3=>
   refine⟨by show Ll _<=_;decide,fin _ _ _ ?_⟩;have e:n.toNat=0:=by ext
   unfold Jk;rw[e];rfl
  .split
   .next h3 h4=>
    refine fin _ _ s.toks ?_;rcases(by simpa using h4:n=1\/(⟨#[c]⟩:Str).length=0)with h|h
    .rw[h];rfl
    .rw[hz]at h;ext
   .have hl:∀k a,(Ax k (#[c]:Array Nat)).foldl (·++·) a=a++(Ax k c).toArray:=by
     intro k;induction k with
     |zero=>intro a;simp
     |succ k ih=>intro a;rw[C0,DR,ih,C0];apply Array.toList_inj.mp;simp
    have e:(Ax n.toNat (#[c]:Array Nat)).foldl (·++·) #[]=(Ax n.toNat c).toArray:=by rw[hl];simp
    refine⟨?_,fin _ _ _ ?_⟩
    .rw[e];show(Ax n.toNat c).toArray.size<=_;rw[AV,Br,Jw];ext
    .unfold Jk;rw[e]
end
end L2
namespace L3
open PySem PySem.Spec PyProof.Rows L2
unseal B5 HX Ju Gi Ko GV C3 Cf FW BY FL Ga K4 Hw ES
section
def S9:K2:=λx y M Q=>E4 y λn=>∃c,x=.str ⟨#[c]⟩/\(0<=n/\n<=100)/\Q (.str (Jk c n)) M
theorem aS:Cf X (By .Mult) S9:=Gb.mono Zmx (by
 intro x y H Q hI';symm;obtain ⟨Z,dx,dy,M,Q2,hr,ax,ay,h,k⟩:=hI';cutsat;obtain ⟨n,rfl,c,rfl,hz,q⟩:=CY h;exact ⟨c,n,ax,ay,hz,k.s hr q⟩)
theorem ZU (h:0<=n/\n<=100)(q:Q (.str (Jk c n)) M):S9 (.str ⟨#[c]⟩) (.int n) M Q:=⟨c,rfl,h,q⟩
end
end L3
namespace L2
open PySem PySem.Spec PyProof.Rows
section
end
abbrev TM:=St->Hp->(Hp->Prop)->Prop
section
end
section
end
section
variable {X:Cx}{Af:List (Ao×Obj)}{U:St}{H:Hp}{s:Aj}  {a:Ao}  {oe:Obj}
end
abbrev TXE:=St->Hp->VK->XK->Prop
abbrev TXS:=Ml->XK->St->Hp->Prop
section
end
section
variable     {st:A4}
end
end L2
namespace L2
open PySem PySem.Spec PyProof.Rows
open PySem.W in
section
open PySem.W PySem.Builtin PySem.Builtin.ObjectAttr PySem.Builtin.Getset_descriptor PySem.Calls
variable {prog:AX}{w:Bj}{A:Bq}{E:Ad->Aj->Prop}{s:Aj}{K:Frag}{x C:Ao}
end
section
end
end L2
namespace L2
open PySem PySem.Spec PyProof.Rows
section
end
end L2
namespace L3
open PySem PySem.Spec PyProof.Rows L2
abbrev lQ:=Str->Mp->Prop
section
variable (K:Ac)(mg:Str->Option Ad)
end
section
variable {K:Ac}{H H':Hp}{M M':Mp}{Z Z':Zt}
end
end L3
namespace L3
open PySem PySem.Spec PyProof.Rows L2
unseal B5 HX Ju Gi Ko GV C3
section
end
section
variable   {K:Ac}
end
section
end
section
end
section
variable   {K:Ac}
end
abbrev lW:=GA->Mp->DV->lQ->Prop
abbrev lV:=J2->lQ->GA->Mp->Prop
section
end
section
variable   {K:Ac}
end
section
end
section
variable {τ:GA}{M:Mp}   {D:J2}{E:lQ}     {tx:lW}{tb:lV}{th:GU}   {x:Str}{xs:List Str}
end
section
end
end L3
namespace L2
open PySem PySem.Spec PyProof.Rows
section
variable {X:Cx}{e:Bv}
end
end L2
namespace L3
open PySem PySem.Spec PyProof.Rows L2
unseal B5
section
end
end L3
namespace L3
open PySem PySem.Spec PyProof.Rows L2
section
unseal C3
theorem ET.filt {ks:List α}(hz:ks.length<=An)(hS:S M)(ht:∀k∈ks,∀R:Bool->Mp->Prop,R (pr k) M->tt (L9 τ caps (some (g k))) M R)(h:∀k∈ks,∀R,R (f k) M->te (L9 τ caps (some (g k))) M R)(q:Q ((ks.filter pr).map f) M):ET (ks.map g) S caps tt te τ M Q:=by
 refine⟨by rw[Ab];exact hz,λi ys M'=>M'=M/\ys=((ks.take i).filter pr).map f,⟨rfl,rfl⟩,?_,?_,?_⟩
 .rintro i ys M' ⟨rfl,rfl⟩;exact⟨hS,by rw[Ab];exact A3 (CA _ _) (by rw[AZ];ext)⟩
 .rintro i x ys M' hx ⟨rfl,rfl⟩;rw[AH]at hx;cases e:ks[i]? with
  |none=>rw[e]at hx;cases hx
  |some k=>
   rw[e]at hx;cases hx;refine ht k (Aw e) _ ?_;dsimp only;cases c:pr k with
   |true=>rw[if_pos rfl];exact h k (Aw e) _ ⟨rfl,by rw[Ba,e,DS,AI];simp[c]⟩
   |false=>rw[if_neg (by decide)];exact⟨rfl,by rw[Ba,e,DS,AI];simp[c]⟩
 .rintro ys M' ⟨rfl,rfl⟩;rw[Ab,Be];exact q
end
section
end
end L3
namespace L3
open PySem PySem.Spec PyProof.Rows L2
unseal Cf
section
unseal C3
unseal B5
unseal Hw
unseal GV
end
end L3
namespace L2
open PySem PySem.Spec PyProof.Rows
section
end
section
end
end L2
namespace L3
open PySem PySem.Spec PyProof.Rows L2
section
unseal B5
unseal Hw
unseal GV
end
section
unseal BY
end
end L3
namespace L2
open PySem PySem.Spec PyProof.Rows
section
def Xk (j:Nat)(t:TI->TE):TE:=λU H Q=>∃a ks,U[j]? = some (some (.ref a))/\Rd H a (.dK ks)/\∀ob,t (λ_ H R=>R (YL ks) H) U (CF H a (.frz ob (.dK ks))) Q
theorem jn (B:Eg X scope x caps):Eg (X.fr f) scope x caps:={B with}
theorem Α (B:Eg X scope x caps)(hc:X.calm=true)(hl:∀f,PE (X.fr f) (.Name y py) (RW j))
  (he:∀f cl C fp pn s H,PE (GS (X.fr f) scope cl C (x::caps.map (·.1)) fp pn s H) elt te) (hif:∀f cl C fp pn s H,HL (GS (X.fr f) scope cl C (x::caps.map (·.1)) fp pn s H) ifs tt)
  (hs:∀x,BB (.Name y py) X.env x=pure x):PE X (.ListComp elt [⟨.Name x px,.Name y py,ifs,0⟩] scope pos) (Xk j λwi=>JY wi caps tt te):=by
 intro Af s U H Q I ⟨a,ks,e,rd,h⟩;obtain⟨ob,I1⟩:=I.freeze rd;have z:=aE (X:=X.fr (a,ob,.dK ks)) (pos:=pos) (px:=px) (wi:=λU H R=>RW j U H λv H1=>v=.ref a/\R (YL ks) H1) (jn B) hc (qd (hl _) (AF)) (he _) (hif _) hs Af s U _ Q I1 ⟨_,e,rfl,h ob⟩;refine BO z (λu s' q=>?_) λ_ _ q=>q;obtain⟨v,H1,J,r,q⟩:=q;exact⟨v,H1,J.unfr,r,q⟩
end
end L2
namespace L3
open PySem PySem.Spec PyProof.Rows L2
unseal B5 HX Ju Gi Ko GV C3 Cf FW BY FL Ga K4 Hw ES
section
theorem Ψ {K:Ac}(st:Gz Z U τ)(h1:HR K H M Z)(jk:YK K J xs S Z)(h:ET xs S caps tt te τ M QL)
  (ht:∀U H Q,lT K tt U H Q->tt1 U H Q)
  (k:∀Z1 H1 M1 vs ds,Le Z Z1->HR K H1 M1 Z1->Dw Z1 vs ds->QL ds M1->∀p,H1 p=none->Q (.ref p) (CF H1 p (.lst vs))):JY (λ_ H R=>R J H) caps tt1 (lE K te) U H Q:=by
 obtain⟨hz,W,w0,stay,turn,done⟩:=h;refine⟨xs.length,λi vs H=>i<=xs.length/\∃Z2 M2 ds,Le Z Z2/\HR K H M2 Z2/\Dw Z2 vs ds/\W i ds M2,⟨Ek _,Z,M,[],Le.refl _,h1,.nil,w0⟩,?_⟩;intro i vs H2 hI';symm;obtain⟨hi,Z2,M2,ds,l2,h2,a2,w2⟩:=hI';cutsat;obtain⟨s2,hl⟩:=stay i ds M2 w2;obtain⟨go,stop⟩:=jk i H2 M2 Z2 l2 h2 s2;have la:=a2.length;by_cases hlt:i<xs.length
 .obtain⟨g1,g2⟩:=go _ (Ag hlt);refine .inr ⟨g1,hlt,by ext,λx H' y=>?_⟩;obtain⟨Z5,l5,h5,a⟩:=g2 x H' y;have tk:=turn i _ ds M2 (Ag hlt) w2;have l2:=l2.trans l5;have a2:=a2.mono l5;refine ht _ _ _ (lT.bind ((st.mono l2).cap caps a) h5 tk λZ3 b H3 M3 l3 h3 q3=>?_);cases b with
  |false=>rw[if_neg Am]at q3 ⊢;exact⟨hlt,Z3,M3,ds,l2.trans l3,h3,a2.mono l3,q3⟩
  |true=>rw[if_pos rfl]at q3 ⊢;refine lE.bind (((st.mono l2).cap caps a).mono l3) h3 q3 λZ4 z dz H4 M4 l4 h4 a4 q4=>?_;exact⟨hlt,Z4,M4,ds++[dz],l2.trans (l3.trans l4),h4,(a2.mono (l3.trans l4)).append (.cons a4 .nil),q4⟩
 .have e:i=xs.length:=by ext
  subst e;exact .inl ⟨stop (AJ _),by ext,k Z2 H2 M2 vs ds l2 h2 a2 (done ds M2 w2)⟩
theorem Us {K:Ac}(ht:∀U H Q,lT K tt U H Q->tt1 U H Q):∀U H Q,lE K (HG (T7 (GI j)) caps tt te) U H Q->Xk j (λwi=>JY wi caps tt1 (lE K te)) U H Q:=by
 sleep 3;obtain⟨d,e,q⟩:=Cn h;obtain⟨AR,e2,q⟩:=Cn q;obtain⟨v,e1,a⟩:=st.get (EZ.mp e);cases d with
 |dic ds=>
  cases e2;obtain⟨p,rfl,z⟩:=a;rcases hr.z p _ z with⟨ks,rd,ka⟩|k
  .refine⟨p,ks,e1,rd,λob=>?_⟩;exact Ψ st (hr.frzH z rd) (zw ka) q ht λZ1 H1 M1 vs ds l1 h1 a1 q p hp=>(k.le l1).f h1 hp a1 q
  .exact k.elim
 |_=>cases e2
theorem R4 (B:Eg X scope x caps)(hc:X.calm=true)(hN:X.N[j]? = some y)(hv:YD X.env.scope y)(hd:(y == ("__debug__":Str))=false)(hcd:(y == ("__classdict__":Str))=false)(he:∀f cl C fp pn s H,B5 (GS (X.fr f) scope cl C (x::caps.map (·.1)) fp pn s H) elt te)
  (hs:∀x,BB (.Name y py) X.env x=pure x:=by intro _;rfl):B5 X (.ListComp elt [⟨.Name x px,.Name y py,[],0⟩] scope pos) (HG (T7 (GI j)) caps GJ te):=PE.mono (Α (te:=lE X.K te) B hc (λf=>pC (X:=X.fr f) hN hv hd hcd) he (λ_ _ _ _ _ _ _=>HL.nil) hs) (Us Lz)
end
end L3
namespace PySem
open Sem (wp)
section
end
end PySem
namespace L2
open PySem PySem.Spec PyProof.Rows L3
end L2
namespace L3
open PySem PySem.Spec PyProof.Rows L2
unseal B5 HX Ju Gi Ko GV C3 Cf FW BY FL Ga K4 Hw ES
section
end
end L3
namespace L2
open PySem PySem.Spec PyProof.Rows L3
noncomputable def YM (K:Ac)(a:Ao):It:=
  ⟨λi H=>∃ xs x,FO K H a xs/\xs[i]? = some x,
   λi H v H'=>∃p x,v=.ref p/\H p=none/\H'=CF H p (.tup [.int i,x])/\∀xs,FO K H a xs->xs[i]? = some x,
   λi H=>∃ xs,FO K H a xs/\xs.length<=i⟩
structure lY (e it a:Ao)(i:Nat)(h:BU):Prop where
 n1:e≠it
 n2:a≠e/\a≠it
 he:∃old,IsEnum h e it i old
 hi:h.IsListIter it a i
theorem xx {K:Ac}(e it a):Mg P w K F (.Tuple es k pos) (YM K a) [e,it] e (lY e it a) where
 mem:=by simp
 obj:=λi h st c hc=>by
  obtain⟨old,he⟩:=st.he;obtain⟨o,ho,-,d⟩:=st.hi;simp only[BD,AS,or_false]at hc;rcases hc with rfl|rfl
  .exact⟨_,he,λv q=>by cases q⟩
  .exact⟨_,ho,λv q=>by rw[d]at q;cases q⟩
 keep:=λi h h' st k=>by
  obtain⟨old,he⟩:=st.he;obtain⟨o,ho,r⟩:=st.hi;exact{st with he:=⟨old,k e (by simp) _ he⟩,hi:=⟨o,k it (by simp) _ ho,r⟩}
 item:=by
  intro X hP hw hK hF hc i Af s U H E I hf st hg;subst hP hw hK;obtain⟨xs,x,hx,ex⟩:=hg;obtain⟨Bn,rv,pl,hzz⟩:=I.list hx;obtain⟨u,hu,ru⟩:=rv.get ex;obtain⟨old,he⟩:=st.he;refine wpAny_pyNext_enum_item he st.hi pl.isList (by simpa using hu) st.n1 λh' e1 i1 t1 z1 old1=>?_;refine⟨_,rfl,wpAny_letOwnedTupleGo_enum e1 λh2 e2 sb=>?_⟩
  have ne:∀q∈[e,it],q≠s.heap.objs.size:=λq hq eq=>by
   have hob:∃o,s.heap.get? q=some o:=by
    obtain⟨o,ho,-⟩:=st.hi;simp only[BD,AS,or_false]at hq;rcases hq with rfl|rfl
    .exact⟨_,he⟩
    .exact⟨_,ho⟩
   obtain⟨o,e'⟩:=hob;rw[eq]at e';exact absurd (Ar e') (EX _)
  have I1:A6 X Af U H {s with heap:=h2,toks:=s.toks+1}:=I.turnedN hf λq o hq e'=>by
   simp only[BD,AS,or_false,not_or]at hq;exact(sb.2 q hq.1).trans (old1 q o hq.1 hq.2 e')
  have freshT:=I.fresh;have tp2:=(sb.2 _ (λe'=>ne e (by simp) e'.symm)).trans t1;have I2:A6 X Af U (CF H s.heap.objs.size (.tup [.int i,x])) {s with heap:=h2,toks:=s.toks+1}:=I1.track (I.fpOk (AJ _) freshT) ⟨Fu (BS (by simp)),[.int i s.toks,u],.cons ⟨_,rfl⟩ (.cons ru .nil),_,tp2,rfl,_,rfl,rfl⟩;refine⟨.ref s.heap.objs.size,_,I2,rfl,⟨_,x,rfl,freshT,rfl,λzs hz=>by rw[I.list_inj hz hx];exact ex⟩,?_,λq hq=>?_⟩
  .obtain⟨o,ho,r⟩:=i1;exact{st with he:=⟨u,e2⟩,hi:=⟨o,(sb.2 it (Bm st.n1)).trans ho,r⟩}
  .rw[HW (ne q hq)];exact(hf q hq).1
 done:=by
  intro X hP hw hK hF hc i Af s U H E I hf st hg;subst hP hw hK;obtain⟨xs,hx,hl⟩:=hg;obtain⟨Bn,rv,pl,_⟩:=I.list hx;obtain⟨old,he⟩:=st.he;have e1:=rv.length;refine wpAny_pyNext_enum_end (I.ok.hd hc) he st.hi pl.isList (by simp;ext) λh' eb=>⟨rfl,I.turnedN hf λq o hq e'=>?_⟩;simp only[BD,AS,or_false,not_or]at hq;exact eb q o hq.2 e'
 self:=λ_ _ _ _ _ st h=>by
  obtain⟨old,he⟩:=st.he;exact Ve he h
theorem k9 {X:Cx}{es:List Bv}{k:Nat}{tp:Pos}{a:Bv}{ta:TA}{p pos:Pos}(hg:Gl X "enumerate")(hm:X.mg "enumerate" = none)(ha:PA X [a] ta)(hs:Au [a] X.env=[(false,eval a X.env)]:=by rfl) :
  PI X (.Tuple es k tp) (.Call (.Name "enumerate" p) [a] [] pos) (λU H R=>ta U H λvs H1=>∃a xs,vs=[.ref a]/\FO X.K H1 a xs/\R (YM X.K a) H1):=by
 intro Af s U H R I h;refine Call_ (PZ I hg hm boot_enumerate (BF (Dv (ha pos Af s U H _ I h) λus s1 e=>e.el λvs H1 I1 r1 q1=>?_) (by rw[hs];rfl) (by first | rfl | simp[Au])));obtain⟨a,xs,e,hx,q⟩:=q1;subst e;cases r1 with
 |cons r rr=>
  cases rr;cases(show _=AC a from r);obtain⟨Bn,rv,pl,_⟩:=I1.list hx;refine call_enumerate_list pl.isList λh' e1 i1 z1 old=>?_;have I2:A6 X Af U H1 {s1 with heap:=h' }:=I1.kept λb o e=>old b o e;have la:a<s1.heap.objs.size:=by obtain⟨o,ho,-⟩:=pl.isList;exact Ar ho
  refine Ve e1 ?_;refine⟨_,[s1.heap.objs.size+1,s1.heap.objs.size],_,_,H1,rfl,I2,xx _ _ a,⟨RH _,⟨A8 (Ev la),A8 la⟩,⟨_,e1⟩,i1⟩,λc hc=>?_,q⟩
  have hge:s1.heap.objs.size<=c:=by
   simp only[BD,AS,or_false]at hc;rcases hc with rfl|rfl
   .exact GD _ _
   .exact AJ _
  exact I1.fpOk hge (I1.hok.fresh hge)
end L2
namespace L3
open PySem PySem.Spec PyProof.Rows L2
unseal B5 HX Ju Gi Ko GV C3 Cf FW BY FL Ga K4 Hw ES
section
noncomputable def Uv (n:Nat):List D->List D
 |[]=>[]
 |x::r=>.tup [.int n,x]::Uv (n+1) r
theorem iY:∀{n i:Nat}{xs:List D}{d:D},(Uv n xs)[i]? = some d->∃x,xs[i]? = some x/\d=.tup [.int (n+i:Nat),x]
 |_,_,[],_,h=>nomatch h
 |n,0,x::r,d,h=>by cases h;exact⟨x,rfl,rfl⟩
 |n,i+1,x::r,d,h=>by
  obtain⟨y,h1,h2⟩:=iY (xs:=r) h;exact⟨y,h1,by rw[h2,show n+1+i=n+(i+1) by ext]⟩
theorem iZ:∀{n:Nat}{xs:List D},(Uv n xs).length=xs.length
 |_,[]=>rfl
 |n,x::r=>by rw[Uv,AO,iZ,AO]
def mE (t:Kn):Nu:=λτ M R=>t τ M λds M1=>Gx ds λx=>Cp (Bh M1 x) λxs=>R (Uv 0 xs) (λM=>Bh M x=some xs) M1
theorem li (hm:X.mg "enumerate" = none)(ha:Gi X [a] ta)(hg:Gl X "enumerate":=by rfl)(hs:Au [a] X.env=[(false,eval a X.env)]:=by rfl) :
  Hw X (.Tuple es n tp) (.Call (.Name "enumerate" p) [a] [] pos) (mE ta):=PI.mono (k9 hg hm ha hs) (by
 intro U H R hI';symm;obtain ⟨Z,τ,M,R2,st,hr,h,k⟩:=hI';cutsat;refine ⟨Z,τ,M,_,st,hr,h,λZ1 vs ds H1 M1 l1 h1 a1 q1=>?_⟩;obtain ⟨x,rfl,q0⟩:=GN q1;obtain ⟨xs,ex,q⟩:=Cn q0;obtain ⟨v,rfl,a2⟩:=IN a1;obtain ⟨p,ws,rfl,hs,b2⟩:=h1.rdL ex a2;refine ⟨p,ws,rfl,hs,k Z1 _ (Uv 0 xs) _ H1 M1 l1 h1 (λi H M Z' l hr s=>?_) q⟩;obtain ⟨q,us,e2,hu,c2⟩:=hr.rdL s (a2.mono l);cases e2;have lu:=c2.length;refine ⟨λd hd=>?_,λhi=>⟨us,hu,by rw [iZ] at hi;ext⟩⟩;obtain ⟨d1,g1,rfl⟩:=iY hd;obtain ⟨v1,hv1,av1⟩:=c2.get g1;refine ⟨⟨us,v1,hu,hv1⟩,λz H' yl=>?_⟩;obtain ⟨r,x',rfl,hn,rfl,f1⟩:=yl;have z1:=f1 us hu;rw [hv1] at z1;cases z1;exact ⟨_,Le.ext,hr.newT hn (.cons (show At Z' (V.int (i:Int)) (D.int ((0+i:Nat):Int)) by rw [E7];exact rfl) (.cons av1 .nil)),⟨r,rfl,.inr ⟨rfl,rfl⟩⟩⟩)
theorem r9 :mE t τ M R=t τ M λds M1=>Gx ds λx=>Cp (Bh M1 x) λxs=>R (Uv 0 xs) (λM=>Bh M x=some xs) M1:=rfl
theorem tM :∀{vs:List V}{ds:List D}(i:Nat),Dw Z vs ds->Dw Z (vs.eraseIdx i) (ds.eraseIdx i)
 |[],[],_,.nil=>.nil
 |_::_,_::_,0,.cons _ t=>t
 |_::_,_::_,i+1,.cons a t=>.cons a (tM i t)
def Qt:D->List D->Mp->DV->Prop:=λx xs M Q=>JZ x λp=>Gx xs λy=>E4 y λi=>Oc (M p) λys=>∃(j:Nat) (d:D),i=j/\j<1000000/\ys[j]? = some d/\Q d (put M p (.lst (ys.eraseIdx j)))
theorem me:ES X "list.pop" Qt:=Nv.mono z5 (by
 intro x xs H Q hI';symm;obtain ⟨Z,d,ds,M,Q2,hr,a,as,h,k⟩:=hI';cutsat;obtain ⟨p,rfl,h1⟩:=Ik h;obtain ⟨y,rfl,h2⟩:=GN h1;obtain ⟨i,rfl,h3⟩:=CY h2;symm;obtain ⟨ys,e,j,dj,e1',hj,hd,q⟩:=iB h3;cutsat;subst e1';cases (show x=V.ref p from a);obtain ⟨v,rfl,av⟩:=IN as;cases (show v=V.int (j:Int) from av);obtain ⟨vs,r,a2⟩:=hr.rdM e;obtain ⟨u,hu,au⟩:=a2.get hd;have hl:=(Ai.mp hu).1;exact ⟨p,vs,j,j,u,rfl,rfl,r,by ext,by ext,(qX (by unfold Rs;rw [if_pos (by ext),if_pos (by ext),Bt])).1,hu,k Z u dj _ _ (Le.refl _) (hr.chgL e (tM j a2)) au q⟩)
theorem zi :Qt (.ref p) [.int i] M Q=Oc (M p) λys=>∃(j:Nat) (d:D),i=j/\j<1000000/\ys[j]? = some d/\Q d (put M p (.lst (ys.eraseIdx j))):=by
 unfold Qt;rw[QR,ZL,iQ]
end
end L3
namespace L3
open PySem PySem.Spec PyProof.Rows L2
unseal C3
theorem HR.see {K:Ac}(h:HR K H M Z)(e:M p=some u)(hb:MB H Z p u'):HR K H (put M p u') Z:=by
 refine⟨h.z,λb w q=>?_⟩;by_cases hbp:b=p
 .subst hbp;rw[Dc]at q;cases q;exact⟨(h.m b u e).1,hb⟩
 .rw[Dy hbp]at q;exact h.m b w q
theorem ZoF :∀{f:List (B7×D)}{ks:List (B7×V)},Cw Z ks (f++[(k,.ref q)])->Cw (ext Z q (.lst xs)) ks (f++[(k,.lst xs)]):=by
 intro f;induction f with
 |nil=>
  intro ks h;cases h with
  |cons r t=>cases t;exact .cons ⟨r.1,by rw[show _=V.ref q from r.2];exact aB⟩ .nil
 |cons a f ih=>
  intro ks h;cases h with
  |cons r t=>exact .cons ⟨r.1,r.2.mono Le.ext⟩ (ih t)
def cJ (j:Nat)(t:GU):GU:=λE τ M=>∃p q f k xs,τ[j]? = some (some (.ref p))/\M p=some (.dic (f++[(k,.ref q)]))/\M q=some (.lst xs)/\t E τ (put (JL M q) p (.dic (f++[(k,.lst xs)])))
theorem xh (j:Nat)(h:C3 X body t):C3 X body (cJ j t):=K3.mono h (by
 intro D U H hI';symm;obtain⟨Z,τ,M,D2,st,hr,⟨p,q,f,k,xs,e,ep,eq,h⟩,er⟩:=hI';cutsat;have hpq:p≠q:=by rintro rfl;rw[ep]at eq;cases eq
 have h1:=hr.frzL eq;have ep1:JL M q p=some (.dic (f++[(k,.ref q)])):=by unfold JL;rw[if_neg hpq,ep]
 obtain ⟨_,ks,r,a⟩:=hr.m p _ ep;exact ⟨_,_,_,D2,st.mono (Le.ext),h1.see ep1 (u':=.dic (f++[(k,.lst xs)])) ⟨ks,r,ZoF a⟩,h,er.le Le.ext⟩)
end L3
namespace L3
open PySem PySem.Spec PyProof.Rows L2
noncomputable def Uu (ks:List (B7×D×D)):List (B7×D):=ks.map λk=>(k.1,k.2.1)
noncomputable def LX (ks:List (B7×D×D)):List (B7×D):=ks.map λk=>(k.1,k.2.2)
section
theorem XW (I:A6 X Af U H s)(hr:HR X.K H M Z)(hu:A.units+41<Dh)(hn:((LX full).map (·.1)).Nodup)(k2:KV ks2 vs2)(a2:Cw Z ks2 (LX full))(fl:∀p∈full,De M 40 p.2.1 p.2.2=some true) :
  ∀(ds:List (B7×D×D)) {ks:List (B7×V)} {vs:List (B7×Ad)},KV ks vs->Cw Z ks (Uu ds)->(∀p∈ds,p∈full)->PySem.W.KeqHits A s vs2 vs true:=by
 intro ds;induction ds with
 |nil=>intro ks vs r a _;cases a;cases r;exact .nil
 |cons p ds ih=>
  intro ks vs r a sub;cases a with
  |cons r' t'=>
   cases r with
   |cons r t=>
    rename_i x ks y vs;obtain⟨k1,v1⟩:=x;obtain⟨k2',u1⟩:=y;obtain⟨k3,d1,e1⟩:=p;have e1':=r.1;have e2:=r'.1;subst e1' e2;have m1:=sub _ (AF ..);have hv:=Wj hn (GZ m1);rcases a2.val with⟨z,_⟩|⟨d',v',z,zv,av⟩
    .rw[hv]at z;cases z
    .rw[hv]at z;cases z;have ro:=k2.val k1;rw[zv]at ro;cases q:JN vs2 k1 with
     |none=>rw[q]at ro;exact ro.elim
     |some y=>rw[q]at ro;have eq:Eu A s u1 y true:=ZN I hr 40 r'.2 av r.2 ro (by ext) (fl _ m1);exact TZ q eq (ih t t' λp hp=>sub p (AE _ hp))
end
def Uf (neg:Bool):K2:=λx y M Q=>(∃ks,DU M x=some (Uu ks)/\DU M y=some (LX ks)/\∀p∈ks,De M 40 p.2.1 p.2.2=some true)/\Q (.bl !neg) M
theorem qf :Uf neg x y M Q=((∃ks,DU M x=some (Uu ks)/\DU M y=some (LX ks)/\∀p∈ks,De M 40 p.2.1 p.2.2=some true)/\Q (.bl !neg) M):=rfl
unseal Cf
theorem sC (hu:X.A.units+45<Dh)(I:A6 X Af U H s)(hr:HR X.K H M Z)(ax:At Z x dx)(ay:At Z y dy)(rx:RelV x v)(ry:RelV y u)
  (f1:DU M dx=some (Uu ks)) (f2:DU M dy=some (LX ks)) (fl:∀p∈ks,De M 40 p.2.1 p.2.2=some true) :(Q (.bool true) s->Av (AA X.prog X.w) X.A (A9 .Eq v u) Q E s)/\(Q (.bool false) s->Av (AA X.prog X.w) X.A (A9 .NotEq v u) Q E s):=by
 obtain⟨p1,ks1,rfl,rd1,b1⟩:=hr.rdD f1 ax;obtain⟨p2,ks2,rfl,rd2,b2⟩:=hr.rdD f2 ay;cases(show v=AC p1 from rx);cases(show u=AC p2 from ry);obtain⟨l1,y1,vs1,k1,D1⟩:=Rv I.hok rd1;obtain⟨l2,y2,vs2,k2,D2⟩:=Rv I.hok rd2
 have hn:((LX ks).map (·.1)).Nodup:=by
  obtain⟨ep,da⟩:=D2.dictAt;rw[<- b2.keysEq,k2.keys];exact da.nodup
 have hits:=XW I hr (A:=X.A.in1) (by show X.A.units+1+41<Dh;ext) hn k2 b2 fl ks k1 b1 λp h=>h
 have le:(vs1.length == vs2.length && true)=true:=by
  have:=k1.length;have:=k2.length;have h1:=b1.length;have h2:=b2.length;unfold Uu at h1;unfold LX at h2;rw[Ab]at h1 h2;have:vs1.length=vs2.length:=by ext
  simp[this]
 exact⟨λq=>PySem.W.keq_eq y1 y2 D1 D2 (by ext) (λ_=>hits) (by rw[le];exact q),λq=>PySem.W.keq_ne y1 y2 D1 D2 (by ext) (λ_=>hits) (by rw[le];exact q)⟩
theorem j5 {X:Cx}(hu:X.A.units+45<Dh):Cf X (A9 .Eq) (Uf false):=by
 intro Af s U H x y v u Q I rx ry h;symm;obtain⟨Z,dx,dy,M,Q2,hr,ax,ay,⟨⟨ks,f1,f2,fl⟩,q⟩,k⟩:=h;cutsat;exact(sC hu I hr ax ay rx ry f1 f2 fl).1 ⟨.bl true,H,I,rfl,k.b hr q⟩
theorem j8 {X:Cx}(hu:X.A.units+45<Dh):Cf X (A9 .NotEq) (Uf true):=by
 intro Af s U H x y v u Q I rx ry h;symm;obtain⟨Z,dx,dy,M,Q2,hr,ax,ay,⟨⟨ks,f1,f2,fl⟩,q⟩,k⟩:=h;cutsat;exact(sC hu I hr ax ay rx ry f1 f2 fl).2 ⟨.bl false,H,I,rfl,k.b hr q⟩
end L3
namespace L2
open PySem PySem.Spec PyProof.Rows
noncomputable def Va (lo:Int)(n:Nat):It:=⟨λi _=>i<n,λi H x H'=>H'=H/\x=.int (lo+(i:Nat)*(-1:Int)),λi _=>n<=i⟩
theorem Zkp {K:Ac}(it:Ao)(lo:Int)(n:Nat):Mg P w K F tg (Va lo n) [it] it (λi h=>MA h it (lo+(i:Nat)*(-1:Int)) ((n:Int)-(i:Nat)) (-1)) where
 mem:=by simp
 obj:=λi h st b hb=>by
  have e:b=it:=by simpa using hb
  subst e
  exact ⟨_,st,λv z=>by
   have z':=z;cases z'⟩
 keep:=λi h h' st k=>k it (by simp) _ st
 item:=by
  intro X hP hw hK hF hc i Af s U H E I hf st hg;subst hP hw hK;obtain⟨f0,f1,f2,f3,f4,f5⟩:=hf it (by simp);have W:=Vm (prog:=X.prog) (w:=X.w) (I.ok.hd hc) it lo (-1) n;refine W.item i s _ _ hg st λv h' tk hv st' kk=>?_;obtain⟨t,rfl⟩:=hv;have I1:A6 X Af U H {s with heap:=h',toks:=tk}:=I.turned (λb o hb e=>kk b o (by simpa using hb) e) f0 f1 f3 f4 f5;exact⟨_,rfl,VP (s:={s with heap:=h',toks:=tk}) (n:="range_iterator") st' rfl rfl (by decide) ⟨.int (lo+(i:Nat)*(-1:Int)),H,I1,⟨t,rfl⟩,⟨rfl,rfl⟩,st',λb hb=>(hf b hb).1⟩⟩
 done:=by
  intro X hP hw hK hF hc i Af s U H E I hf st hg;subst hP hw hK;obtain⟨f0,f1,f2,f3,f4,f5⟩:=hf it (by simp);exact P5 (I.ok.hd hc) st (by have:n<=i:=hg;ext) λh' eb=>⟨rfl,I.turned (t':=s.toks) (λb o hb e=>eb b o hb e) f0 f1 f3 f4 f5⟩
 self:=λ_ _ _ _ _ st h=>P7 st h
noncomputable def PM (lo hi:Int):Nat:=(if hi<lo then lo-hi else 0).toNat
theorem se (lo hi:Int):((PM lo hi:Nat):Int)<=(if hi<lo then lo-hi else 0):=by
 unfold PM;split<;>ext
theorem tG {lo hi:Int}:((PM lo hi:Nat):Int)=EA lo hi (-1):=by
 unfold PM EA;rw[if_neg (by decide:¬(-1:Int) > 0),show -(-1:Int)=1 from rfl,WP];by_cases h:hi<lo
 .rw[if_pos h,if_pos h];ext
 .rw[if_neg h,if_neg h];rfl
def XT (ta:TA):TI:=λU H R=>ta U H λvs H1=>∃i j,vs=[.int i,.int j,.int (-1)]/\(-(2^61)<=i/\i<2^61/\-(2^61)<=j/\j<2^61)/\R (Va i (PM i j)) H1
theorem Zo8 (hg:Gl X "range")(hm:X.mg "range" = none)(ha:PA X [a,b,d] ta)(hs:Au [a,b,d] X.env=[(false,eval a X.env),(false,eval b X.env),(false,eval d X.env)]:=by rfl)(hs2:Au [b,d] X.env=[(false,eval b X.env),(false,eval d X.env)]:=by rfl) :
  PI X tg (.Call (.Name "range" p) [a,b,d] [] pos) (XT ta):=by
 intro Af s U H R I h;refine Call_ (PZ I hg hm boot_range (BF (Dv (ha pos Af s U H _ I h) λus s1 e=>e.el λvs H1 I1 r1 q1=>?_) (by rw[hs,hs2]) (by rw[hs2];rfl)));refine Aq λG' kk'=>?_;obtain⟨i,j,e,⟨q1,q2,q3,q4⟩,q⟩:=q1;refine kk' ?_;clear kk';subst e;cases r1 with
 |cons r rr=>
  cases rr with
  |cons r' rr=>
   cases rr with
   |cons r'' rr=>
    cases rr;obtain⟨t,rfl⟩:=r;obtain⟨t',rfl⟩:=r';obtain⟨t'',rfl⟩:=r'';refine call_range_3 (by ext) ?_ (.inl ?_)
    .have hsm:KP i j (-1)=true:=by
      unfold KP;rw[<- tG,if_neg (by decide)];simp only[BM,Kp];have:=se i j;exact⟨⟨⟨⟨Yv (by ext) (by ext),Yv (by ext) (by ext)⟩,Yv (by ext) (by ext)⟩,Yv (by ext) (by ext)⟩,.inr (Yv (by ext) (by ext))⟩
     refine TJ (SJ ..) hsm ?_;have I2:A6 X Af U H1 {s1 with heap:=s1.heap.push {cls:=.type "range",data:=.fields #[.int i t,.int j t',.int (-1) t'']} }:=I1.kept λb o e=>Ah _ e
     refine ⟨(s1.heap.push { cls:=.type "range",data:=.fields #[.int i t,.int j t',.int (-1) t''] }).objs.size,[(s1.heap.push { cls:=.type "range",data:=.fields #[.int i t,.int j t',.int (-1) t''] }).objs.size],_,_,H1,rfl,
      I2.kept λb o e=>Ah _ e,Zkp _ i (PM i j),?_,λb hb=>?_,q⟩
     .have e1:i+((0:Nat):Int)*(-1:Int)=i:=by simp
      have e2:((PM i j:Nat):Int)-((0:Nat):Int)=EA i j (-1):=by rw[tG];ext
      show MA _ _ (i+((0:Nat):Int)*(-1:Int)) (((PM i j:Nat):Int)-((0:Nat):Int)) (-1);rw[e1,e2];exact AB _ rfl
     .have e:b=(s1.heap.push {cls:=.type "range",data:=.fields #[.int i t,.int j t',.int (-1) t'']}).objs.size:=by simpa using hb
      subst e;exact I2.fpOk (AJ _) (I2.hok.fresh (AJ _))
    .exact PyProof.noPylong_of_log2 (by decide)
end L2
namespace L3
open PySem PySem.Spec PyProof.Rows L2
unseal B5 HX Ju Gi Ko GV C3 Cf FW BY FL Ga K4 Hw ES
noncomputable def MS (lo:Int)(n:Nat):List D:=(Bu n).map λk=>.int (lo+(k:Nat)*(-1:Int))
theorem Λ {lo:Int}(h:(MS lo n)[i]? = some d):i<n/\d=.int (lo+(i:Nat)*(-1:Int)):=by
 unfold MS at h;rw[AH]at h;by_cases hi:i<n
 .rw[EO hi]at h;exact⟨hi,(Bb h).symm⟩
 .rw[Bz (by simp;ext)]at h;cases h
theorem Μ (lo)(n):(MS lo n).length=n:=by unfold MS;rw[Ab,Ce]
theorem ZmR {K:Ac}(lo:Int)(n:Nat):YK K (Va lo n) (MS lo n) (λ_=>True) Z:=λi H M Z' l hr s=>by
 refine⟨λd hd=>?_,λhi=>by rw[Μ]at hi;exact hi⟩;obtain⟨hi,rfl⟩:=Λ hd;refine⟨hi,λx H' y=>?_⟩;obtain⟨rfl,rfl⟩:=y;exact⟨Z',Le.refl _,hr,rfl⟩
def SO (t:Kn):Nu:=λτ M R=>t τ M λxs M1=>IZ xs λx y z=>E4 x λi=>E4 y λj=>z=.int (-1)/\(-(2^61)<=i/\i<2^61/\-(2^61)<=j/\j<2^61)/\R (MS i (PM i j)) (λ_=>True) M1
theorem Zo5 (hm:X.mg "range" = none)(ha:Gi X [a,b,d] ta)(hg:Gl X "range":=by rfl)(hs:Au [a,b,d] X.env=[(false,eval a X.env),(false,eval b X.env),(false,eval d X.env)]:=by rfl)(hs2:Au [b,d] X.env=[(false,eval b X.env),(false,eval d X.env)]:=by rfl) :
  Hw X tg (.Call (.Name "range" p) [a,b,d] [] pos) (SO ta):=PI.mono (Zo8 hg hm ha hs hs2) (by
 intro U H R hI';symm;obtain ⟨Z,τ,M,R2,st,hr,h,k⟩:=hI';cutsat;refine ⟨Z,τ,M,_,st,hr,h,λZ1 vs ds H1 M1 l1 h1 a1 q1=>?_⟩;obtain ⟨x,y,z,rfl,q⟩:=O6 q1;obtain ⟨i,rfl,q2⟩:=CY q;obtain ⟨j,rfl,rfl,b,q4⟩:=CY q2;symm;obtain ⟨v,w,u,e1',a2,a3,a4⟩:=gX a1;cutsat;subst e1';cases (show v=V.int i from a2);cases (show w=V.int j from a3);cases (show u=V.int (-1) from a4);exact ⟨i,j,rfl,b,k Z1 _ _ _ H1 M1 l1 h1 (ZmR _ _) q4⟩)
theorem ZnI :SO tA τ M R=tA τ M λxs M1=>IZ xs λx y z=>E4 x λi=>E4 y λj=>z=.int (-1)/\(-(2^61)<=i/\i<2^61/\-(2^61)<=j/\j<2^61)/\R (MS i (PM i j)) (λ_=>True) M1:=rfl
end L3
namespace PySem
namespace SetTable
noncomputable def gD (m i:Nat):Nat:=(i*5+1)%m
noncomputable def L4 (m:Nat):Nat->Nat->Nat
 |0,i=>i
 |k+1,i=>L4 m k (gD m i)
theorem aM :∀a b i,L4 m (a+b) i=L4 m b (L4 m a i)
 |0,b,i=>by rw[E7];rfl
 |a+1,b,i=>by rw[Qi];exact aM a b (gD m i)
def Mk (m:Nat):Prop:=m=8\/m=32\/m=128\/m=512
def Mw (m:Nat):Prop:=Mk m\/m=16
noncomputable def fY (m:Nat):Nat->Nat->List Nat
 |0,_=>[]
 |k+1,i=>i::fY m k (gD m i)
theorem jQ :∀{k i j:Nat},j∈fY m k i->∃r,r<k/\L4 m r i=j
 |k+1,i,j,h=>by
  rcases A5.mp h with rfl|h
  .exact⟨0,Nz _,rfl⟩
  .obtain⟨r,h1,h2⟩:=jQ h;exact⟨r+1,Hk h1,h2⟩
theorem ut (h:Mw m):((Bu m).all λj=>(fY m m 0).contains j)=true/\L4 m m 0=0:=by
 rcases h with(rfl|rfl|rfl|rfl)|rfl<;>nofun
theorem vw (h:Mw m)(hi:i<m)(hj:j<m):∃r,r<m/\L4 m r i=j:=by
 obtain⟨h1,h2⟩:=ut h;rw[CP]at h1;obtain⟨a,a1,a2⟩:=jQ (NO.mp (h1 i (CB.mpr hi)));obtain⟨b,b1,b2⟩:=jQ (NO.mp (h1 j (CB.mpr hj)));rcases Nat.le_total a b with c|c
 .refine⟨b-a,by ext,?_⟩;rw[<- a2,<- aM,show a+(b-a)=b by ext,b2]
 .refine⟨(m-a+b)%m,Qd _ (by ext),?_⟩;by_cases e:a=b
  .subst e;rw[show m-a+a=m by ext,Nat.mod_self,<- a2,b2];rfl
  .rw[Nat.mod_eq_of_lt (by ext),aM];have:L4 m (m-a) i=0:=by rw[<- a2,<- aM,show a+(m-a)=m by ext,h2]
   rw[this,b2]
noncomputable def FV (mask:Nat):Nat->Nat×Nat->Nat×Nat
 |0,p=>p
 |k+1,p=>FV mask k (leap mask p.1 p.2)
theorem uI {mask:Nat}:∀a b p,FV mask (a+b) p=FV mask b (FV mask a p)
 |0,b,p=>by rw[E7];rfl
 |a+1,b,p=>by rw[Qi];exact uI a b _
theorem vZ {mask:Nat}:∀k p,(FV mask k p).2=p.2 / 32^k
 |0,p=>by rw[Nat.pow_zero,Ze];rfl
 |k+1,p=>by
  show(FV mask k (leap mask p.1 p.2)).2=_;rw[vZ k,Nat.pow_succ',<- Nat.div_div_eq_div_mul];rfl
theorem uJ (hm:0<m):∀k i,(FV (m-1) k (i,0))=(L4 m k i,0)
 |0,i=>rfl
 |k+1,i=>by
  show FV (m-1) k ((i*5+1+0 / 32)%(m-1+1),0 / 32)=_;rw[show m-1+1=m by ext,Nat.zero_div,uJ hm k];rfl
theorem sK {mask:Nat}:∀k p,p.1<=mask->(FV mask k p).1<=mask
 |0,p,h=>h
 |k+1,p,h=>sK k _ (Nat.le_of_lt_succ (Qd _ (Nz _)))
theorem ZoA {m:Nat}(h:Mw m){i pert j:Nat}(hp:pert<2^64)(hi:i<m)(hj:j<m):∃k,k<m+13/\(FV (m-1) k (i,pert)).1=j:=by
 have e:(FV (m-1) 13 (i,pert)).2=0:=by
  rw[vZ];exact Nat.div_eq_of_lt (Bo hp (by decide))
 have l:=sK (mask:=m-1) 13 (i,pert) (by show i<=_;ext);obtain⟨r,r1,r2⟩:=vw h (i:=(FV (m-1) 13 (i,pert)).1) (by ext) hj;refine⟨13+r,by ext,?_⟩;rw[uI,show FV (m-1) 13 (i,pert)=((FV (m-1) 13 (i,pert)).1,0)from SG rfl e,uJ (by ext),r2]
theorem tF :∀{l:List (Option α)}{j:Nat},l[j]? = some none->((l.set j (some k)).filterMap id).length=(l.filterMap id).length+1
 |x::l,0,h=>by
  cases h;rfl
 |x::l,j+1,h=>by
  rw[Ca,C2,C2];have ih:=tF (k:=k) (l:=l) (j:=j) h;cases x with
  |none=>exact ih
  |some y=>exact congrArg (·+1) ih
theorem tE :∀{l:List (Option α)}{j:Nat},l[j]? = some none->((l.set j (some k)).filterMap id).Perm (k::l.filterMap id)
 |x::l,0,h=>by
  cases h;exact Eh _
 |x::l,j+1,h=>by
  rw[Ca,C2,C2];have ih:=tE (k:=k) (l:=l) (j:=j) h;cases x with
  |none=>exact ih
  |some y=>exact(ih.cons y).trans (O3 k y _)
theorem uW :∀{l:List (Option α)},(l.filterMap id).length<l.length->∃j:Nat,l[j]? = some none
 |[],h=>absurd h (SI _)
 |none::l,_=>⟨0,rfl⟩
 |some x::l,h=>by
  obtain⟨j,hj⟩:=uW (Dr h);exact⟨j+1,hj⟩
theorem tY {mask:Nat}(h0:(owner.getD j0 (some 0)).isNone=true):∀fuel r i pert,r<fuel->(FV mask r (i,pert)).1=j0->∃j,layClean.free mask owner fuel i pert=some j/\(owner.getD j (some 0)).isNone=true
 |0,r,_,_,h,_=>absurd h (SI _)
 |fuel+1,r,i,pert,h,e=>by
  unfold layClean.free;split
  .next k hk=>exact⟨i+k,rfl,by have:=List.find?_some hk;exact this⟩
  .next hn=>
   cases r with
   |zero=>exfalso;have:=e;subst this;have:=E3.mp hn 0 (CB.mpr (by unfold runEnd;split<;>ext));exact this h0
   |succ r=>exact tY h0 fuel r _ _ (Dr h) e
structure Sw (mask:Nat)(owner:Array (Option Nat))(k:Nat):Prop where
 s:owner.size=mask+1
 n:(owner.toList.filterMap id).length=k
 v:∀v,some v∈owner.toList->v<k
 p:(owner.toList.filterMap id).Perm (Bu k)
theorem getD_none {owner:Array (Option Nat)}(h:(owner.getD j (some 0)).isNone=true):owner.toList[j]? = some none:=by
 rw[C6];rw[FT]at h;cases q:owner[j]? with
 |none=>rw[q]at h;cases h
 |some x=>
  rw[q]at h;cases x with
  |none=>rfl
  |some y=>cases h
theorem sJ {mask:Nat}(hm:Mw (mask+1)):∀(hs:List Int) (owner:Array (Option Nat)) (k:Nat),Sw mask owner k->k+hs.length<=mask->∃owner',(hs.foldl (λacc h=>acc >>= λx:Array (Option Nat)×Nat=>layClean.free mask x.1 (turns mask) (bits h%(mask+1)) (bits h) >>= λj=>pure (x.1.setIfInBounds j (some x.2),x.2+1)) (some (owner,k)))=some (owner',k+hs.length)/\Sw mask owner' (k+hs.length)
 |[],owner,k,ok,_=>⟨owner,rfl,ok⟩
 |h::hs,owner,k,ok,hl=>by
  rw[AO]at hl;obtain⟨j0,hj0⟩:=uW (by rw[ok.n,BH,ok.s];ext);have jl:=(Ai.mp hj0).1;rw[BH,ok.s]at jl;have hb:bits h<2^64:=by unfold bits;ext
  obtain⟨r,r1,r2⟩:=ZoA hm hb (Qd _ (Nz _)) jl
  have g0:(owner.getD j0 (some 0)).isNone=true:=by
   rw[C6]at hj0;rw[FT,hj0];rfl
  obtain⟨j,e1,e2⟩:=tY (mask:=mask) g0 (turns mask) r _ _ (by unfold turns;ext) r2;have ej:=getD_none e2
  have ok':Sw mask (owner.setIfInBounds j (some k)) (k+1):=by
   refine⟨by rw[Array.size_setIfInBounds];exact ok.s,?_,λv hv=>?_,?_⟩
   .rw[F8,tF ej,ok.n]
   .rw[F8]at hv;rcases List.mem_or_eq_of_mem_set hv with hv|hv
    .exact Ev (ok.v v hv)
    .cases hv;exact Hn _
   .rw[F8,RJ];exact(tE ej).trans ((ok.p.cons k).trans (List.perm_append_singleton _ _).symm)
  obtain⟨ow,f1,f2⟩:=sJ hm hs _ (k+1) ok' (by ext);refine⟨ow,?_,by rw[AO,show k+(hs.length+1)=k+1+hs.length by ext];exact f2⟩;rw[DR,AO,show k+(hs.length+1)=k+1+hs.length by ext,<- f1];congr 1
  show(layClean.free mask owner (turns mask) (bits h%(mask+1)) (bits h) >>= λj=>pure (owner.setIfInBounds j (some k),k+1))=_;rw[e1];rfl
theorem laid_ok2 {mask finger moves:Nat}{led plain:Bool}(hm:Mw (mask+1))(hl:hs.size<=mask):∃(t:Ds) (order:Array Nat),laid mask finger moves led plain hs=some (t,order)/\t.mask=mask/\t.place.size=hs.size/\t.dummies=#[]/\t.led=led/\t.plain=plain/\order.toList.Perm (Bu hs.size):=by
 have o0:Sw mask (Array.replicate (mask+1) none) 0:=by
  refine⟨Array.size_replicate,?_,λv hv=>?_,?_⟩
  .rw[Hr];simp
  .rw[Hr]at hv;cases(EV hv)
  .rw[Hr];simp
 obtain⟨ow,f1,f2⟩:=sJ hm hs.toList _ 0 o0 (by rw[E7,BH];exact hl);rw[E7,BH]at f1 f2
 have lc:layClean mask hs=some ow:=by
  unfold layClean;rw[<- Array.foldl_toList];refine(congrArg (Hc Prod.fst) f1).trans rfl
 unfold laid;rw[lc]
 have e1:((Bu (mask+1)).filterMap λj=>(ow.getD j none).map λx=>(j,x)).map (·.2)=ow.toList.filterMap id:=by
  rw[PD]
  have:ow.toList=(Bu (mask+1)).map λj=>ow.getD j none:=by
   apply Fw;intro j;rw[C6,AH];rcases G1 j (mask+1)with h|h
   .rw[EO h,AW (by rw[f2.s];exact h)];show _=some (ow.getD j none);rw[FT,AW (by rw[f2.s];exact h)];rfl
   .rw[Bz (by rw[Ce];exact h),DY (by rw[f2.s];exact h)];rfl
  rw[this,Jr];congr 1
  funext j;show Hc _ (Hc _ (ow.getD j none))=ow.getD j none;cases ow.getD j none<;>rfl
 have e2:((Bu (mask+1)).filterMap λj=>(ow.getD j none).map λx=>(j,x)).length=hs.size:=by
  have:=congrArg Ey e1;rw[Ab,f2.n]at this;exact this
 refine⟨_,_,rfl,rfl,?_,rfl,rfl,rfl,?_⟩
 .show((((Bu (mask+1)).filterMap λj=>(ow.getD j none).map λx=>(j,x)).map (·.1)).toArray).size=_;rw[AV,Ab,e2]
 .show(((Bu (mask+1)).filterMap λj=>(ow.getD j none).map λx=>(j,x)).map (·.2)).Perm _;rw[e1];exact f2.p
end SetTable
end PySem
namespace L2
open PySem PySem.Spec PyProof.Rows L3
theorem ZiA:Lf Vg "set.__and__" = some Er.«frozenset.__and__»:=JA (id':="frozenset.__and__") (by kernel_rfl) rfl (by nofun) (by kernel_rfl)
theorem Ziz:Lf Vg "set.__xor__" = some Er.«frozenset.__xor__»:=JA (id':="frozenset.__xor__") (by kernel_rfl) rfl (by nofun) (by kernel_rfl)
theorem vU (xs:Array α)(i:Nat)(h:i<xs.size):(DC xs i).size=xs.size-1:=by
 unfold DC;rw[Mn,Iv,Iv];ext
theorem vT (xs:Array α)(i:Nat):(DC xs i).toList=xs.toList.eraseIdx i:=by
 unfold DC;rw[OF,NU,NU,List.eraseIdx_eq_take_drop_succ];simp;exact BR (by simp)
theorem Zlk (xs:Array α)(p:Nat)(x:α):(IV xs p x).size=xs.size+1:=by
 unfold IV;rw[Mn,Array.size_push,Iv,Iv];ext
section
variable {prog:AX}{w:Bj}{A:Bq}{E:Ad->Aj->Prop}{s:Aj}{a:Ao}
theorem sE (ho:s.heap.get? a=some o)(hd:o.data=Iq es ep t)(hes:IQ w es.toList)(hsz:es.size<Bi)(hfit:t.fits es.size=true)
  (h:Q (es.toList.findIdx? λe=>(BC prog w).is x e.2) s):Av (AA prog w) A (Qa a (.str x tk) (Fv w x)) Q E s:=by
 unfold Qa;generalize hN:(99999:Nat)=N;rw[show(100000:Nat)=99999+1 from rfl,hN];unfold setFindIn;refine Aa (A7 ho hd hfit ?_);dsimp only;rw[if_pos (byScan_of (knd:=BC prog w) (x:=.str x tk) rfl hsz hes.elems)];refine Aa (GX ?_);refine Aa (Wm (knd:=BC prog w) (k:=x) (by simp[BC,Ec]) ho hd hfit hes.elems ?_);cases hr:es.toList.findIdx? λe=>(BC prog w).is x e.2 with
 |none=>rw[hr]at h;exact Ae h
 |some j=>rw[hr]at h;refine Ae ?_;rw[E7];exact h
theorem Zkm (hS:CV w s.heap a ks led)(h:∀r,r.isSome=decide (x∈ks)->Q r s):Av (AA prog w) A (Qa a (.str x tk) (Fv w x)) Q E s:=by
 symm;obtain⟨o,es,ep,tb,ho,hex,hd,hes,hp,hsz,hfit,hled,hpl⟩:=hS;cutsat;refine sE ho hd hes hsz hfit (h _ ?_);by_cases hx:x∈ks
 .obtain⟨j,hj⟩:=kG hes (hp.mem_iff.mpr hx);rw[hj,decide_eq_true hx];rfl
 .rw[jZ hes (λh=>hx (hp.mem_iff.mp h)),decide_eq_false hx];rfl
theorem Zkn (hS:CV w s.heap a ks led)
  (hQ:∀h',BL a s.heap h'->CV w h' a (ks.erase x) led->Q (decide (x∈ks)) {s with heap:=h' }):Av (AA prog w) A (LI a (.str x tk) (Fv w x)) Q E s:=by
 symm;obtain⟨o,es,ep,tb,ho,hex,hd,hes,hp,hsz,hfit,hled,hpl⟩:=id hS;cutsat;unfold LI;refine Aa (sE ho hd hes hsz hfit ?_);by_cases hx:x∈ks
 .obtain⟨j,hj⟩:=kG hes (hp.mem_iff.mpr hx);rw[hj];dsimp only;refine Aa (A7 ho hd hfit ?_);dsimp only;obtain⟨hl,hm,-⟩:=List.findIdx?_eq_some_iff_getElem.mp hj;have hl':j<es.size:=by simpa using hl
  have hxj:strOf (es.toList[j]).2=x:=by
   obtain⟨y,t,e⟩:=hes _ (F3 hl);rw[e]at hm ⊢;have:y=x:=by simpa[BC,Ec]using hm
   exact this
  have hpe:(x::GO (DC es j).toList).Perm ks:=by
   have z:=((Ky es.toList j hl).map λe:Int×Ad=>strOf e.2).trans hp;rw[AQ,hxj]at z;rw[vT];exact z
  have hok:IQ w (DC es j).toList:=λe he=>by
   rw[vT]at he;exact hes e (List.mem_of_mem_eraseIdx he)
  have hf:tb.place.size=es.size/\tb.fill<=tb.mask:=by
   unfold EH at hfit;simpa using hfit
  have hpj:tb.place[j]? = some (tb.place[j]'(by ext)):=AW _
  have hdr:tb.drop j={tb with place:=DC tb.place j,dummies:=IV tb.dummies (C5 tb.dummies (tb.place[j]'(by ext))) (tb.place[j]'(by ext))}:=by
   unfold SetTable.drop;rw[hpj]
  have hsz2:=vU es j hl';obtain⟨o1,ho1,hex1,hd1⟩:=stored ho hex hd;have hline:Bi<=An:=by decide
  refine Aa (DH ho hd ?_ (by ext));refine Aa (wpAny_point (Ae ?_));have z:=hQ _ (Bf _ _ _) ⟨o1,_,_,_,ho1,hex1,hd1,hok,(List.cons_perm_iff_perm_erase.mp hpe).2,by ext,?_,?_,λ_=>?_⟩
  .rw[decide_eq_true hx]at z;exact z
  .rw[hdr];unfold EH Ic;dsimp only;rw[vU _ _ (by ext),Zlk,hsz2];have:=hf.2;unfold Ic at this;simp only[BM,beq_iff_eq,decide_eq_true_eq];ext
  .rw[hdr];exact hled
  .rw[hdr];exact hpl (by ext)
 .rw[jZ hes (λh=>hx (hp.mem_iff.mp h))];refine Ae ?_;have z:=hQ s.heap (CM _ _) (by rw[NN hx];exact hS);rw[decide_eq_false hx]at z;exact z
theorem CV.typeIs (hS:CV w s.heap a ks led):s.TypeIs (.ref a) "set":=by
 symm;obtain⟨o,es,ep,t,ho,hex,-⟩:=hS;cutsat;exact⟨o,ho,hex.1⟩
theorem CV.keep (hS:CV w h a ks led)(hk:∀o,h.get? a=some o->h'.get? a=some o):CV w h' a ks led:=by
 obtain⟨o,es,ep,t,ho,Db⟩:=hS;exact⟨o,es,ep,t,hk _ ho,Db⟩
theorem QJ {M:cF}{α:Type}{f:α->PUnit->Sem (ForInStep PUnit)}{I:List α->Aj->Prop}(D:List α)(hf:∀d x l s (Q':ForInStep PUnit->Aj->Prop),D=d++x::l->I d s->(∀s',I (d++[x]) s'->Q' (.yield ⟨⟩) s')->Av M A (f x ⟨⟩) Q' E s) :
  ∀l d s Q,D=d++l->I d s->(∀s',I D s'->Q ⟨⟩ s')->Av M A (forIn l F7 f) Q E s
 |[],d,s,Q,e,h,hQ=>by
  rw[Po];rw[CL]at e;subst e;exact Ae (hQ s h)
 |x::l,d,s,Q,e,h,hQ=>by
  rw[G3];refine Aa (hf d x l s _ e h λs' h'=>?_);exact QJ D hf l (d++[x]) s' Q (by rw[e,Bs];rfl) h' hQ
theorem Uh {es:List (Int×Ad)}(hes:IQ w es){Q:Option Bool×Unit->Aj->Prop}(h:Q (none,()) s){f:Int×Ad->Option Bool×Unit->Sem (ForInStep (Option Bool×Unit))}(hf:∀k x t r,f (k,.str x t) r=pure (.yield (none,()))):Av (AA prog w) A (forIn es (none,()) f) Q E s:=by
 induction es with
 |nil=>rw[Po];exact Ae h
 |cons e es ih=>obtain⟨x,t,rfl⟩:=hes e (AF ..);rw[G3,hf];exact Aa (Ae (ih λe he=>hes e (AE _ he)))
theorem ZiH {Q:Bool->Aj->Prop}(sets)(hq:∀b∈sets,∃ks led,CV w s.heap b ks led)(h:Q true s):Av (AA prog w) A (setsQuiet sets) Q E s:=by
 unfold setsQuiet;refine Aa ?_
 have key:∀sets:List Ao,(∀b∈sets,∃ks led,CV w s.heap b ks led)->∀(Q:Option Bool×Unit->Aj->Prop) (f:Ao->Option Bool×Unit->Sem (ForInStep (Option Bool×Unit))),(∀b r Q',(∃ks led,CV w s.heap b ks led)->Q' (.yield (none,())) s->Av (AA prog w) A (f b r) Q' E s)->Q (none,()) s->Av (AA prog w) A (forIn sets (none,()) f) Q E s:=by
  intro sets;induction sets with
  |nil=>intro _ Q f _ h;rw[Po];exact Ae h
  |cons b sets ih=>intro hq Q f hf h;rw[G3];exact Aa (hf b _ _ (hq b (AF ..)) (ih (λc hc=>hq c (AE _ hc)) Q f hf h))
 refine key sets hq _ _ (λb r Q' ⟨ks,led,hS⟩ h'=>?_) (Ae h);symm;obtain⟨o,es,ep,t,ho,hex,hd,hes,hp,hsz,hfit,hled,hpl⟩:=hS;cutsat;refine Aa (wpAny_setEntries_of ho hd hfit ?_);refine Aa ?_;rw[<- Ld];exact Uh hes (Ae h') λ_ _ _ _=>rfl
theorem kW (h:Q (w.params.followText "set-order") s):Av (AA prog w) A Iw Q E s:=by
 unfold Iw;exact Aa (Dj (Ae h))
theorem yV (hS:CV w s.heap a ks (!(w.params.followText "set-order")))(hf:CV w s.heap f kf (!(w.params.followText "set-order")))
  (hq:∀b∈others,∃ks led,CV w s.heap b ks led)
  (hQ:∀(es:Array (Int×Ad)) (h':BU),IQ w es.toList->(GO es.toList).Perm ks->BL f s.heap h'->CV w h' f kf (!(w.params.followText "set-order"))->Q es {s with heap:=h' }) :
  Av (AA prog w) A (OR a others (some f)) Q E s:=by
 symm;obtain⟨o,es,ep,t,ho,hex,hd,hes,hp,hsz,hfit,hled,hpl⟩:=id hS;cutsat;unfold OR;refine Aa (A7 ho hd hfit ?_);dsimp only;refine Aa (kW ?_);have plain_ok:=hQ es s.heap hes hp (CM _ _) hf;split
 .next c=>
  unfold setWalk;refine Aa (A7 ho hd hfit ?_);dsimp only;refine Aa (kW ?_);split
  .refine Aa (Dj (Ae ?_));have pp:=bz (w.params.setOrder a ep) es;exact hQ _ s.heap (λe he=>hes e (pp.mem_iff.mp he)) ((pp.map _).trans hp) (CM _ _) hf
  .next ft=>
   have ft:w.params.followText "set-order" = false:=by simpa using ft
   rw[ft]at c hled;have hl:=hled
   have h1:es.size<=1:=by
    rcases G1 1 es.size with h|h
    .have hq:=hpl (by ext);rw[hq]at c;simp at c;exact c
    .exact h
   split
   .next hc=>
    have h':(!t.plain && decide (es.size > 1))=true:=hc;simp at h';ext
   .refine Aa ?_;show Av _ A (if (!t.led && decide (es.size > 1))=true then unsupported "set:maker-not-led" else pure ()) _ E s;rw[if_neg (by rw[hl];simp)];exact Ae (Ae plain_ok)
 .refine Aa (ZiH (a::others) (λb hb=>?_) ?_)
  .rcases A5.mp hb with rfl|hb
   .exact⟨_,_,hS⟩
   .exact hq b hb
  .rw[if_neg (by simp)];refine Aa (GX ?_);symm;obtain⟨o2,es2,ep2,t2,ho2,hex2,hd2,hes2,hp2,hsz2,hfit2,hled2,hpl2⟩:=id hf;cutsat;refine Aa (A7 ho2 hd2 hfit2 ?_);dsimp only;split
   .have hline:Bi<=An:=by decide
    obtain⟨o1,ho1,hex1,hd1⟩:=stored ho2 hex2 hd2;refine Aa (DH ho2 hd2 (Ae (hQ es _ hes hp (Bf _ _ _) ⟨o1,_,_,_,ho1,hex1,hd1,hes2,hp2,hsz2,?_,?_,λh=>?_⟩)) (by ext))
    .exact hfit2
    .show(t2.led && t.led)=_;rw[hled2,hled,Jh]
    .show(t2.plain && t.plain)=false;rw[hpl2 h,Fd]
   .exact Ae plain_ok
theorem UT (hT:s.TypeIs (.ref b) "set")(h:Q true s):Av (AA prog w) A (Ih (.ref b)) Q E s:=by
 unfold Ih orM;exact Aa (HY hT K6 (Ae h))
theorem zX (hT:s.TypeIs (.ref b) "set")(h:Q (.type "set") s):Av (AA prog w) A (ID b) Q E s:=by
 unfold ID;exact Aa (HY hT K6 (Ae h))
noncomputable def Fn (w:Bj):Obj:={cls:=.type "set",dict:=none,data:=.set #[] 0 (.fresh 0 0 (!(w.params.followText "set-order")))}
theorem bm (h:Q (.ref s.heap.objs.size) {s with heap:=s.heap.push (Fn w)}):Av (AA prog w) A (newSet (.type "set")) Q E s:=by
 unfold newSet;refine Aa (kW ?_);dsimp only;simp only[newObj];exact Aa (wpAny_alloc (Ae h))
theorem ZW:∀(l ks:List Str),ks.Nodup->(l.foldl (λks x=>if x∈ks then ks else ks++[x]) ks).Nodup/\∀x,x∈l.foldl (λks x=>if x∈ks then ks else ks++[x]) ks↔x∈ks\/x∈l
 |[],ks,h=>⟨h,λx=>⟨.inl,λz=>z.elim id λz=>absurd z (AS)⟩⟩
 |y::l,ks,h=>by
  rw[DR];split
  .next c=>
   obtain⟨i1,i2⟩:=ZW l ks h;refine⟨i1,λx=>(i2 x).trans ?_⟩;rw[BD];exact⟨λz=>z.elim .inl λz=>.inr (.inr z),λz=>z.elim .inl λz=>z.elim (λe=>.inl (e ▸ c)) .inr⟩
  .next c=>
   obtain⟨i1,i2⟩:=ZW l (ks++[y]) (BN.mpr ⟨h,by simp,λa ha b hb=>by rw[AL.mp hb];exact λe=>c (e ▸ ha)⟩);refine⟨i1,λx=>(i2 x).trans ?_⟩;rw[Dp,E9,BD,or_assoc]
theorem UE (l:List Str)(x:Str):x∈fm l↔x∈l:=by
 have:=(ZW l [] LK).2 x;unfold fm;rw[this];exact⟨λz=>z.elim (λz=>absurd z AS) id,.inr⟩
theorem X5 (l:List Str):(fm l).Nodup:=(ZW l [] LK).1
theorem zW {id:String}(ho:s.heap.get? a=some o)(hd:o.data=.set es ep t)(hf:t.fits es.size=true)(h:Q () s):Av (AA prog w) A (BQ id a ep) Q E s:=by
 unfold BQ;refine Aa (Wi ho hd hf ?_);rw[if_neg (by simp)];exact Ae h
theorem Zot {id:String}(har:a≠r)(hgr:g≠r)(ho:s.heap.get? a=some o)(hd:o.data=.set es0 ep t)(hfit:t.fits es0.size=true)(hes:IQ w es)(hl:es.length+1<Bi)(hg:CV w s.heap g kg (!(w.params.followText "set-order")))(hr:CV w s.heap r [] (!(w.params.followText "set-order")))
  (hQ:∀h',BL r s.heap h'->CV w h' r (fm ((GO es).filter (·∈kg))) (!(w.params.followText "set-order"))->Q ⟨⟩ {s with heap:=h' }) :
  Av (AA prog w) A (forIn es F7 λx __s=>match x with
   |(h,x)=>do
    GF [x] do
     let __do_lift <- Qa g x h
     if __do_lift.isSome=true then do
      let _ <- Ix r x h
      pure ()
     else pure ()
    BQ id a ep
    pure (Dd F7)) Q E s:=by
 refine QJ (I:=λd s'=>∃h',BL r s.heap h'/\CV w h' r (fm ((GO d).filter (·∈kg))) (!(w.params.followText "set-order"))/\s'={s with heap:=h' }) es ?_ es [] s Q rfl ⟨s.heap,CM _ _,hr,rfl⟩ ?_
 .rintro d ⟨k,v⟩ l s1 Q' hx ⟨h1,sb,hS,rfl⟩ hQ';obtain⟨x,tk,e⟩:=hes _ (by rw[hx];exact AU _ (AF ..));cases e;have hdl:d.length<es.length:=by rw[hx,As,AO];ext
  have ek:GO (d++[(Fv w x,Dk x tk)])=GO d++[x]:=by unfold GO;rw[AI];rfl
  have ua:∀{h2:BU} {Q'':Unit->Aj->Prop},BL r s.heap h2->Q'' () {s with heap:=h2}->Av (AA prog w) A (BQ id a ep) Q'' E {s with heap:=h2}:=λ{h2} _ sb2 q=>zW ((sb2.2 a har).trans ho) hd hfit q;refine Aa (BZ (Aa (Zkm (hg.keep λo e=>(sb.2 g hgr).trans e) λb hb=>?_)));split
  .next c=>
   have hxg:=of_decide_eq_true (hb.symm.trans c);refine Aa (kN hS ?_ λ_ h2 sb2 hS2=>Ae ?_)
   .have z1:=UF ((GO d).filter (·∈kg));have z2:=CA (λx=>decide (x∈kg)) (GO d);have z3:(GO d).length=d.length:=by unfold GO;rw[Ab]
    ext
   .refine Aa (ua (sb.trans sb2) (Ae (hQ' _ ⟨h2,sb.trans sb2,?_,rfl⟩)));rw[ek,DS,List.filter_cons_of_pos (by simpa using hxg),Kq,qU];exact hS2
  .next c=>
   have hxg:¬x∈kg:=λh=>c (hb.trans (decide_eq_true h));refine Ae (Aa (ua sb (Ae (hQ' _ ⟨h1,sb,?_,rfl⟩))));rw[ek,DS,List.filter_cons_of_neg (by simpa using hxg),Kq,CL];exact hS
 .rintro s1 ⟨h1,sb,hS,rfl⟩;exact hQ h1 sb hS
theorem yf {b:Ao}{ks ls:List Str}{Q:Ad->Aj->Prop}(hab:b≠a)(ha:CV w s.heap a ks (!(w.params.followText "set-order")))(hb:CV w s.heap b ls (!(w.params.followText "set-order")))(hz:ks.length+1<Bi)(hy:ls.length+1<Bi)
  (hQ:∀h' ms,(∀c o,s.heap.get? c=some o->h'.get? c=some o)->CV w h' s.heap.objs.size ms (!(w.params.followText "set-order"))->ms.Nodup->(∀x,x∈ms↔x∈ks/\x∈ls)->ms.length<=ks.length+ls.length->Q (.ref s.heap.objs.size) {s with heap:=h' }) :
  Av (AA prog w) A (By .BitAnd (.ref a) (.ref b)) Q E s:=by
 refine Sz ha.typeIs hb.typeIs F.fills_set_and F.slot_set_and (Cd F.slot_set_and ha.typeIs ZiA ?_ (F.args_set_and_2 _ _));refine Aa (Ch rfl ?_);dsimp only;rw[if_neg (by decide)];dsimp only;unfold andM;refine Aa (Aa (UT ha.typeIs ?_));refine UT hb.typeIs ?_;rw[if_neg (by decide)];refine Aa (Ch rfl ?_);refine Aa ?_;unfold RS;rw[if_neg (by simpa using hab)];refine Aa (zX ha.typeIs (Aa (bm ?_)));refine Aa (Ch rfl ?_);have hk0:∀c o,s.heap.get? c=some o->(s.heap.push (Fn w)).get? c=some o:=λc o e=>Ah _ e;have ha1:=ha.keep λo e=>hk0 a o e;have hb1:=hb.keep λo e=>hk0 b o e;have hr1:CV w (s.heap.push (Fn w)) s.heap.objs.size [] (!(w.params.followText "set-order")):=kM (AB _ rfl) rfl;have lta:a<s.heap.objs.size:=by obtain⟨o,es,ep,t,ho,-⟩:=ha;exact Ar ho
 have ltb:b<s.heap.objs.size:=by obtain⟨o,es,ep,t,ho,-⟩:=hb;exact Ar ho
 refine Aa (BZ ?_);refine Aa (UT hb1.typeIs ?_);rw[if_pos rfl];refine Aa (Ch rfl ?_)
 have go:∀{c d:Ao} {kc kd:List Str},c<s.heap.objs.size->d<s.heap.objs.size->kc.length+1<Bi->CV w (s.heap.push (Fn w)) c kc (!(w.params.followText "set-order"))->CV w (s.heap.push (Fn w)) d kd (!(w.params.followText "set-order"))->(∀x,x∈kc/\x∈kd↔x∈ks/\x∈ls)->kc.length<=ks.length+ls.length->∀Q2:Unit->Aj->Prop,(∀h' ms,(∀c o,s.heap.get? c=some o->h'.get? c=some o)->CV w h' s.heap.objs.size ms (!(w.params.followText "set-order"))->ms.Nodup->(∀x,x∈ms↔x∈ks/\x∈ls)->ms.length<=ks.length+ls.length->Q2 () {s with heap:=h' }) ->
   Av (AA prog w) A.in1 (do
    let was <- bX c
    let __do_lift <- OR c [d,s.heap.objs.size] (some s.heap.objs.size)
    forIn __do_lift F7 λx __s=>match x with
     |(h,x)=>do
      GF [x] do
       let __do_lift <- Qa d x h
       if __do_lift.isSome=true then do
        let _ <- Ix s.heap.objs.size x h
        pure ()
       else pure ()
      BQ (toString "frozenset."++toString "__and__") c was
      pure (Dd F7)
    pure ()) Q2 E { s with heap:=s.heap.push (Fn w) }:=by
  intro c d kc kd ltc ltd hcl hc hd hm hle Q2 q2;symm;obtain⟨o,es,ep,t,ho,hex,hdd,hes,hp,hsz,hfit,hled,hpl⟩:=id hc;cutsat;refine Aa (Wi ho hdd hfit ?_);refine Aa (yV hc hr1 (λb hb=>?_) λes' h' hes' hp' sb hr2=>?_)
  .simp only[BD,AS,or_false]at hb;rcases hb with rfl|rfl
   .exact⟨_,_,hd⟩
   .exact⟨_,_,hr1⟩
  .have sb:=sb;rw[<- Ld]
   have hel:es'.toList.length=kc.length:=by
    have:=hp'.length_eq;unfold GO at this;rwa[Ab]at this
   refine Aa (Zot (A8 ltc) (A8 ltd) ((sb.2 c (A8 ltc)).trans ho) hdd hfit hes' (by ext) (hd.keep λo e=>(sb.2 d (A8 ltd)).trans e) hr2 λh2 sb2 hS2=>Ae ?_);refine q2 h2 _ (λe o he=>?_) hS2 (X5 _) (λx=>?_) ?_
   .have ne:=A8 (Ar he);exact(sb2.2 e ne).trans ((sb.2 e ne).trans (hk0 e o he))
   .rw[UE,Em,hp'.mem_iff];simp only[decide_eq_true_eq];exact hm x
   .have z1:=UF ((GO es'.toList).filter (·∈kd));have z2:=CA (λx=>decide (x∈kd)) (GO es'.toList);have z3:=hp'.length_eq;ext
 symm;obtain⟨o1,es1,ep1,t1,ho1,hex1,hd1,hes1,hp1,hsz1,hfit1,-⟩:=id ha1;cutsat;symm;obtain⟨o2,es2,ep2,t2,ho2,hex2,hd2,hes2,hp2,hsz2,hfit2,-⟩:=id hb1;cutsat;refine Aa (lK ho2 hd2 hfit2 ?_);refine Aa (lK ho1 hd1 hfit1 ?_);by_cases c:es2.size > es1.size
 .rw[if_pos c];refine go lta ltb hz ha1 hb1 (λx=>Iff.rfl) (by ext) _ λh' ms k1 k2 k3 k4 k5=>?_;exact Ae (Ae ⟨_,rfl,λe=>(by cases e),hQ h' ms k1 k2 k3 k4 k5⟩)
 .rw[if_neg c];refine go ltb lta hy hb1 ha1 (λx=>and_comm) (by ext) _ λh' ms k1 k2 k3 k4 k5=>?_;exact Ae (Ae ⟨_,rfl,λe=>(by cases e),hQ h' ms k1 k2 k3 k4 k5⟩)
theorem uN {F:Option (Ds×Array Nat)->Sem (Array (Int×Ad)×Ds)}{es:Array (Int×Ad)}{mask finger moves:Nat}{led plain:Bool}{Q:Array (Int×Ad)×Ds->Aj->Prop}(hF:∀t order,(order.filterMap (es[·]?)).size=es.size->F (some (t,order))=pure (order.filterMap (es[·]?),t))(hm:Ds.Mw (mask+1))(hl:es.size<=mask)
  (h:∀(es':Array (Int×Ad)) (t:Ds),es'.toList.Perm es.toList->es'.size=es.size->t.mask=mask->t.place.size=es.size->t.dummies=#[]->t.led=led->t.plain=plain->Q (es',t) s) :
  Av (AA prog w) A (F (KO mask finger moves led plain (es.map (·.1)))) Q E s:=by
 obtain⟨t,order,h1,h2,h3,h4,h5,h6,h7⟩:=Ds.laid_ok2 (hs:=es.map (·.1)) hm (by rw[RU];exact hl);rw[RU]at h3 h7
 have pp:(order.filterMap (es[·]?)).toList.Perm es.toList:=by
  rw[Array.toList_filterMap];have z:=h7.filterMap (λj=>es.toList[j]?);rw[show es.size=es.toList.length by simp,uM]at z;refine(of_eq ?_).trans z;congr 1
  funext j;rw[C6]
 have sz:(order.filterMap (es[·]?)).size=es.size:=by
  have:=pp.length_eq;rwa[BH,BH]at this
 rw[h1,hF t order sz];exact Ae (h _ t pp sz h2 h3 h4 h5 h6)
theorem ye {n:Nat}(h1:21<=n*5)(h2:n<=12):Ds.Mw (EM (n*2)-1+1)/\n<=EM (n*2)-1/\EM (n*2)<=32:=by
 have:n=5\/n=6\/n=7\/n=8\/n=9\/n=10\/n=11\/n=12:=by ext
 rcases this with rfl|rfl|rfl|rfl|rfl|rfl|rfl|rfl<;>exact⟨by first|exact .inr (by decide)|exact .inl (.inr (.inl (by decide))),by decide,by decide⟩
theorem ZmH {r:Ao}{ls:List Str}{QJ:Sem Unit}{Q:Unit->Aj->Prop}(hne:r≠a)(hb:CV w s.heap a ls (!(w.params.followText "set-order")))(hr:s.heap.get? r=some (Fn w))(h12:ls.length<=12)
    (hQ:∀h',BL r s.heap h'->CV w h' r ls (!(w.params.followText "set-order"))->Q () {s with heap:=h' }):Av (AA prog w) A (setMerge r a QJ) Q E s:=by
  symm;obtain⟨o,es,ep,t,ho,hex,hd,hes,hp,hsz,hfit,hled,hpl⟩:=id hb;cutsat
  have hlen:es.size=ls.length:=by
    have:=hp.length_eq;unfold GO at this;rw[Ab]at this;simpa using this
  have hf:t.place.size=es.size/\t.fill<=t.mask:=by
    unfold EH at hfit;simpa using hfit
  unfold setMerge;rw[if_neg (by simpa using hne)];refine Aa (A7 ho hd hfit ?_);dsimp only;split
  · next c=>
    have e0:es=#[]:=by simpa using c
    have l0:=AG (by rw[<- hlen,e0];rfl);refine Ae (hQ s.heap (CM _ _) ?_);rw[l0];exact kM hr rfl
  · next c=>
    have ne0:es.size≠0:=λz=>c (by simpa using z);have pl:=hpl ne0;have hline:Bi<=An:=by decide
    refine Aa (BO (Q:=λ_ s'=>∃(h1:BU) (o1:Obj) (ep1:Nat) (ts:Ds),s'={s with heap:=h1}/\BL r s.heap h1/\h1.get? r=some o1/\o1.ExactSet/\o1.data=Iq #[] ep1 ts/\ts.place.size=0/\ts.dummies=#[]/\ts.led=(!(w.params.followText "set-order"))/\Ds.Mw (ts.mask+1)/\es.size<=ts.mask) ?_ ?_ λ_ _ h=>h)
    · unfold setRoomFor
      refine Aa (A7 hr rfl rfl ?_);dsimp only;by_cases c5:21<=es.size*5
      · rw [show (Pt 0 0 (!(w.params.followText "set-order"))).roomFor es.size=some (es.size*2) from by
          unfold Ou;rw [if_pos (by show (0+es.size)*5 >= 7*3;ext)];show some ((0+es.size)*2)=_;rw [E7]]
        dsimp only;obtain⟨g1,g2,g3⟩:=ye c5 (by ext);unfold setRelay;refine Aa (A7 hr rfl rfl ?_);dsimp only
        rw [if_neg (by have:(32:Nat)<=An:=by decide
                       ext)]
        refine Aa (uN (es:=#[]) (λt order h=>?_) g1 (Ek _) λes' t' pp sz m1 m2 m3 m4 m5=>?_)
        · show(if _ then _ else _)=_
          rw[h,if_neg (by simp)]
        · dsimp only
          have ee:=Ke sz;subst ee;obtain⟨o2,ho2,hex2,hd2⟩:=stored (es1:=#[]) (t2:=t') hr ⟨rfl,rfl,rfl⟩ rfl;exact DH hr rfl ⟨_,o2,_,t',rfl,Bf _ _ _,ho2,hex2,hd2,m2,m3,m4,by rw[m1];exact g1,by rw[m1];exact g2⟩ (Ek _)
      · rw [show (Pt 0 0 (!(w.params.followText "set-order"))).roomFor es.size=none from by
          unfold Ou;rw [if_neg (by show ¬ (0+es.size)*5 >= 7*3;ext)]]
        exact Ae ⟨s.heap,_,0,_,rfl,CM _ _,hr,⟨rfl,rfl,rfl⟩,rfl,rfl,rfl,rfl,.inl (.inl rfl),by show es.size<=7;ext⟩
    · rintro - - ⟨h1,o1,ep1,ts,rfl,sb,ho1,hex1,hd1,hp0,hd0,hl1,hmw,hml⟩
      have fill0:ts.fill=0:=by unfold Ic;rw[hp0,hd0];rfl
      refine Aa (A7 (s:={s with heap:=h1}) ho1 hd1 (by unfold EH;rw[fill0,hp0];simp) ?_);dsimp only
      have hroad:ts.road t=.slotForSlot\/ts.road t=.clean:=by
        unfold SetTable.road;rw[fill0];split
        · next z=>simp at z
        · split
          · exact .inl rfl
          · exact .inr rfl
      rcases hroad with e|e
      · rw[e]
        dsimp only;obtain⟨o2,ho2,hex2,hd2⟩:=stored (es1:=es) (t2:={t with finger:=ts.finger,led:=ts.led && t.led,moves:=ts.moves,plain:=ts.plain && t.plain}) ho1 hex1 hd1;refine DH (s:={s with heap:=h1}) ho1 hd1 (hQ _ (sb.trans (Bf _ _ _)) ⟨o2,_,_,_,ho2,hex2,hd2,hes,hp,hsz,hfit,?_,λ_=>?_⟩) (by ext)
        · show(ts.led && t.led)=_
          rw[hl1,hled,Jh]
        · show(ts.plain && t.plain)=false
          rw[pl,DO]
      · rw[e]
        dsimp only;refine Aa (uN (s:={s with heap:=h1}) (λt order h=>?_) hmw hml λes' t' pp sz m1 m2 m3 m4 m5=>?_)
        · show(if _ then _ else _)=_
          rw[h,if_neg (by simp)]
        · dsimp only
          obtain⟨o2,ho2,hex2,hd2⟩:=stored (es1:=es') (t2:=t') ho1 hex1 hd1;refine DH (s:={s with heap:=h1}) ho1 hd1 (hQ _ (sb.trans (Bf _ _ _)) ⟨o2,_,_,_,ho2,hex2,hd2,λe he=>hes e (pp.mem_iff.mp he),(pp.map _).trans hp,by ext,?_,?_,λ_=>?_⟩) (by ext)
          · unfold EH Ic
            rw[m2,m3,sz,m1];simp;exact hml
          · rw[m4,hl1,hled,Jh]
          · rw[m5,pl,DO]
theorem ZoT {id:String}(har:a≠r)(ho:s.heap.get? a=some o)(hd:o.data=.set es0 ep t)(hfit:t.fits es0.size=true)(hes:IQ w es)(hnd:(GO es).Nodup)(hkg:kg.Nodup)(hl:kg.length+es.length+1<Bi)(hr:CV w s.heap r kg (!(w.params.followText "set-order")))
  (hQ:∀h' ms,BL r s.heap h'->CV w h' r ms (!(w.params.followText "set-order"))->ms.Nodup->(∀x,x∈ms↔(x∈kg/\x∉GO es)\/(x∈GO es/\x∉kg))->ms.length<=kg.length+es.length->Q ⟨⟩ {s with heap:=h' }) :
  Av (AA prog w) A (forIn es F7 λx __s=>match x with
   |(h,x)=>do
    GF [x] do
     let __do_lift <- LI r x h
     if (!__do_lift)=true then do
      let _ <- Ix r x h
      pure ()
     else pure ()
    BQ id a ep
    pure (Dd F7)) Q E s:=by
 refine QJ (I:=λd s'=>∃h' ms,BL r s.heap h'/\CV w h' r ms (!(w.params.followText "set-order"))/\ms.Nodup/\(∀x,x∈ms↔(x∈kg/\x∉GO d)\/(x∈GO d/\x∉kg))/\ms.length<=kg.length+d.length/\s'={s with heap:=h' }) es ?_ es [] s Q rfl ⟨s.heap,kg,CM _ _,hr,hkg,λx=>by simp[GO],AJ _,rfl⟩ ?_
 .rintro d ⟨k,v⟩ l s1 Q' hx ⟨h1,ms,sb,hS,nd,hm,hml,rfl⟩ hQ';obtain⟨x,tk,e⟩:=hes _ (by rw[hx];exact AU _ (AF ..));cases e;have hdl:d.length<es.length:=by rw[hx,As,AO];ext
  have ek:GO (d++[(Fv w x,Dk x tk)])=GO d++[x]:=by unfold GO;rw[AI];rfl
  have hxd:x∉GO d:=by
   rw[hx]at hnd;unfold GO at hnd;rw[AI,AQ]at hnd;exact λz=>(BN.mp hnd).2.2 x z x (AF ..) rfl
  have ua:∀{h2:BU} {Q'':Unit->Aj->Prop},BL r s.heap h2->Q'' () {s with heap:=h2}->Av (AA prog w) A (BQ id a ep) Q'' E {s with heap:=h2}:=λ{h2} _ sb2 q=>zW (s:={s with heap:=h2}) ((sb2.2 a har).trans ho) hd hfit q;refine Aa (BZ (Aa (Zkn (s:={s with heap:=h1}) hS λh2 sb2 hS2=>?_)));by_cases hxm:x∈ms
  .rw[decide_eq_true hxm,if_neg (by decide)];refine Ae (Aa (ua (sb.trans sb2) (Ae (hQ' _ ⟨h2,_,sb.trans sb2,hS2,nd.erase x,λy=>?_,?_,rfl⟩))))
   .rw[nd.mem_erase_iff,hm,ek,Dp,E9];have hk:=((hm x).mp hxm).elim (λz=>z.1) λz=>absurd z.1 hxd;by_cases e:y=x
    .subst e;simp[hk,hxd]
    .simp[e]
   .have:=List.length_erase_le (a:=x) (l:=ms);rw[As];ext
  .rw[decide_eq_false hxm,if_pos (by decide)];rw[NN hxm]at hS2;have hk:x∉kg:=λz=>hxm ((hm x).mpr (.inl ⟨z,hxd⟩));refine Aa (kN (s:={s with heap:=h2}) hS2 (by ext) λ_ h3 sb3 hS3=>Ae ?_);rw[if_neg hxm]at hS3;refine Aa (ua ((sb.trans sb2).trans sb3) (Ae (hQ' _ ⟨h3,_,(sb.trans sb2).trans sb3,hS3,?_,λy=>?_,?_,rfl⟩)))
   .exact BN.mpr ⟨nd,by simp,λa ha b hb=>by rw[AL.mp hb];exact λe=>hxm (e ▸ ha)⟩
   .rw[Dp,E9,hm,ek,Dp,E9];by_cases e:y=x
    .subst e;simp[hk,hxd]
    .simp[e]
   .rw[As,As];simp only[EY];ext
 .intro s1 hI';symm;obtain⟨h1,ms,sb,hS,nd,hm,hml,e1'⟩:=hI';cutsat;subst e1';exact hQ h1 ms sb hS nd hm hml
theorem η {b:Ao}{ks ls:List Str}{Q:Ad->Aj->Prop}(hkn:ks.Nodup)(hln:ls.Nodup)(ha:CV w s.heap a ks (!(w.params.followText "set-order")))(hb:CV w s.heap b ls (!(w.params.followText "set-order")))(h12:ls.length<=12)(hz:ls.length+ks.length+1<Bi)
  (hQ:∀h' ms,(∀c o,s.heap.get? c=some o->h'.get? c=some o)->CV w h' s.heap.objs.size ms (!(w.params.followText "set-order"))->ms.Nodup->(∀x,x∈ms↔(x∈ls/\x∉ks)\/(x∈ks/\x∉ls))->ms.length<=ls.length+ks.length->Q (.ref s.heap.objs.size) {s with heap:=h' }) :
  Av (AA prog w) A (By .BitXor (.ref a) (.ref b)) Q E s:=by
 refine Sz ha.typeIs hb.typeIs F.fills_set_xor F.slot_set_xor (Cd F.slot_set_xor ha.typeIs Ziz ?_ (F.args_set_xor_2 _ _));refine Aa (Ch rfl ?_);dsimp only;rw[if_neg (by decide)];dsimp only;unfold andM;refine Aa (Aa (UT ha.typeIs ?_));refine UT hb.typeIs ?_;rw[if_neg (by decide)];refine Aa (Ch rfl ?_);refine Aa ?_;refine Aa (zX ha.typeIs ?_);refine Aa ?_;unfold RO;refine Aa (bm ?_);have hk0:∀c o,s.heap.get? c=some o->(s.heap.push (Fn w)).get? c=some o:=λc o e=>Ah _ e;have lta:a<s.heap.objs.size:=by obtain⟨o,es,ep,t,ho,-⟩:=ha;exact Ar ho
 have ltb:b<s.heap.objs.size:=by obtain⟨o,es,ep,t,ho,-⟩:=hb;exact Ar ho
 have hb1:=hb.keep λo e=>hk0 b o e;refine Aa (Ch rfl ?_);refine Aa (BZ ?_);unfold HF;refine Aa (UT hb1.typeIs ?_);rw[if_pos rfl];refine Aa (Ch rfl ?_);unfold RQ;symm;obtain⟨o2,es2,ep2,t2,ho2,hex2,hd2,hes2,hp2,hsz2,hfit2,-⟩:=id hb1;cutsat;refine Aa (Wi ho2 hd2 hfit2 ?_);refine ZmH (E8 ltb) hb1 (AB _ rfl) h12 λh1 sb1 hr1=>?_;have sb1:=sb1;refine Ae ?_;have hk1:∀c o,s.heap.get? c=some o->h1.get? c=some o:=λc o e=>(sb1.2 c (A8 (Ar e))).trans (hk0 c o e);have ha1:=ha.keep λo e=>hk1 a o e;refine Aa (Ch rfl ?_);refine Aa (BZ ?_);unfold RN;rw[if_neg (by simpa using A8 lta)];dsimp only;refine Aa (Fp ha1.typeIs ?_);rw[if_neg (by decide)];refine Aa (UT ha1.typeIs ?_);rw[if_pos rfl];refine Aa (Ae ?_);refine Aa (Ch rfl ?_);refine Aq λG' kk'=>?_;obtain⟨o,es,ep,t,ho,hex,hd,hes,hp,hsz,hfit,-⟩:=id ha1;refine kk' ?_;clear kk';refine Aa (Wi ho hd hfit ?_);refine BZ ?_;refine Aa (yV ha1 hr1 (λb hb=>?_) λes' h2 hes' hp' sb2 hr2=>?_)
 .rw[AL.mp hb];exact⟨_,_,hr1⟩
 .have sb2:=sb2;rw[<- Ld]
  have hel:es'.toList.length=ks.length:=by
   have:=hp'.length_eq;unfold GO at this;rwa[Ab]at this
  refine Aa (ZoT (A8 lta) ((sb2.2 a (A8 lta)).trans ho) hd hfit hes' (hp'.nodup_iff.mpr hkn) hln (by ext) hr2 λh3 ms sb3 hS3 nd hm hml=>Ae (Ae (Ae ⟨_,rfl,λe=>(by cases e),hQ h3 ms (λe o he=>?_) hS3 nd (λx=>?_) (by ext)⟩)))
  .have ne:=A8 (Ar he);exact(sb3.2 e ne).trans ((sb2.2 e ne).trans (hk1 e o he))
  .rw[hm,hp'.mem_iff]
end
theorem pG (h1:zs.Perm ms)(h2:K8 zs=true)(h3:ms.Nodup)(h4:∀x,x∈ms↔x∈l):zs=IH l:=
 tI (h1.trans ((Lu h3 (X5 l)).mpr λx=>(h4 x).trans (UE l x).symm)) h2
noncomputable def KR (xs ys:List Str):List Str:=IH (xs.filter (·∈ys))
noncomputable def Lv (xs ys:List Str):List Str:=IH (ys.filter (·∉xs)++xs.filter (·∉ys))
noncomputable def R6 (op:NM)(xs ys:List Str):List Str:=if op=.BitAnd then KR xs ys else Lv xs ys
section
theorem ir (hop:op=.BitAnd\/op=.BitXor)(hab:b≠a)(ha:CV w s.heap a (fm xs) (!(w.params.followText "set-order")))(hb:CV w s.heap b (fm ys) (!(w.params.followText "set-order")))(hz:(fm xs).length<=12)(hy:(fm ys).length<=12)
  (hQ:∀h' ms,(∀c o,s.heap.get? c=some o->h'.get? c=some o)->CV w h' s.heap.objs.size ms (!(w.params.followText "set-order"))->(∀zs,zs.Perm ms->K8 zs=true->zs=R6 op xs ys)->ms.length<64->Q (.ref s.heap.objs.size) {s with heap:=h' }) :
  Av (AA prog w) A (By op (.ref a) (.ref b)) Q E s:=by
 have sb:(30:Nat)<Bi:=by decide
 rcases hop with rfl|rfl
 .refine yf hab ha hb (by ext) (by ext) λh' ms hk hS nd hm hl=>hQ h' ms hk hS (λzs h1 h2=>?_) (by ext);unfold R6 KR;rw[if_pos rfl];exact pG h1 h2 nd λx=>by rw[hm,UE,UE,Em,decide_eq_true_eq]
 .refine η (X5 _) (X5 _) ha hb hy (by ext) λh' ms hk hS nd hm hl=>hQ h' ms hk hS (λzs h1 h2=>?_) (by ext);unfold R6 Lv;rw[if_neg (by decide)];exact pG h1 h2 nd λx=>by rw[hm,UE,UE,Dp,Em,Em,decide_eq_true_eq,decide_eq_true_eq]
def mY (K:Ac)(op:NM)(tb:VK->Hp->Prop)(Q:VK)(x:V)(H1:Hp):Prop:=
 ∃p xs,x=.ref p/\FO K H1 p (xs.map V.str)/\xs.length+1<Bi/\(fm xs).length<=12/\tb (λy H2=>∃q ys,y=.ref q/\FO K H2 q (ys.map V.str)/\ys.length+1<Bi/\(fm ys).length<=12/\∀l,H2 l=none->Q (.ref l) (CF H2 l (.lst ((R6 op xs ys).map V.str)))) H1
def ic (K:Ac)(op:NM)(ta tb:TE):TE:=λU H Q=>ta U H (mY K op (λQ1 H1=>tb U H1 Q1) Q)
theorem A6.more (I:A6 X Af U H s)(hS:s.heap.objs.size<=S)(hk:∀b u,s.heap.get? b=some u->h'.get? b=some u)(ho:h'.get? S=some o)(hn:∀v,o.data≠.cell v):A6 X ((S,o)::Af) U H {s with heap:=h',toks:=tk}:=by
 have I2:A6 X Af U H {s with heap:=h',toks:=tk}:=I.kept hk;refine I2.pins_of λp hp=>?_;rcases A5.mp hp with rfl|hp
 .exact⟨ho,I.hok.fresh hS,λe=>absurd (I.lt) (by rw[<- e];exact cE.mpr hS),I.nofs hS,hn⟩
 .exact I2.pin p (AU _ hp)
theorem A6.less (I:A6 X (p::Af) U H s):A6 X Af U H s/\s.heap.get? p.1=some p.2:=
 ⟨I.pins_of λq hq=>I.pin q (AU _ (AE _ hq)),(I.pin p (AU _ (AF ..))).1⟩
theorem Zkz (hop:op=.BitAnd\/op=.BitXor)(hc:X.calm=true)(ha:PE X e1 ta)(hb:PE X e2 tb)(hm1:X.mg "sorted" = none)(hm2:X.mg "set" = none)(hg1:Gl X "sorted":=by rfl)(hg2:Gl X "set":=by rfl)
  (he1:Au [e1] X.env=(false,eval e1 X.env)::Au [] X.env:=by rfl) (he2:Au [e2] X.env=(false,eval e2 X.env)::Au [] X.env:=by rfl) :
  PE X (.Call (.Name "sorted" p1) [.BinOp (.Call (.Name "set" p2) [e1] [] pos2) op (.Call (.Name "set" p3) [e2] [] pos3) p4] [] pos) (ic X.K op ta tb):=by
 intro Af s U H Q I h;refine Cr (PZ I hg1 hm1 (u:=.builtin "sorted") rfl ?_);refine E2 ?_ rfl rfl;show Av _ _ (Vh ((false,eval (.BinOp (.Call (.Name "set" p2) [e1] [] pos2) op (.Call (.Name "set" p3) [e2] [] pos3) p4) X.env)::Cg pos (Au [] X.env))) _ _ s;refine Je ?_;refine wpAny_BinOp ?_;refine Cr (PZ I hg2 hm2 (u:=.type "set") rfl ?_);refine BF (Dv (Z9 ha ZS he1 pos2 Af s U H (λvs H1=>match vs with | [x]=>mY X.K op (λQ1 H1=>tb U H1 Q1) Q x H1 | _=>False) I h) λus s1 e=>e.el λvs H1 I1 r1 q1=>?_) he1 rfl
 match vs,r1,q1 with
 |[x],r1,⟨p,xs,hx,hs,hz,h12,q⟩=>
  subst hx;obtain⟨u,rfl,ru⟩:=Hg r1;cases(show u=AC p from ru);obtain⟨Bn,rv,pl,hzz⟩:=I1.list hs
  have hl:xs.length=Bn.toArray.size:=by
   have:=rv.length;simpa using this
  refine jY (I1.ok.hd hc) pl.isList hl (λi v hi hv=>?_) (by ext) λh2 tk2 hS hk2=>?_
  .obtain⟨u,hu,ru⟩:=rv.get (i:=i) (x:=V.str xs[i]) (by rw[AH,Ag hi];rfl);rw[D6]at hv;rw[hu]at hv;cases hv;exact ru
  .symm;obtain⟨o1,es1,ep1,t1,ho1,hex1,hd1,hrest⟩:=id hS;cutsat;have I2:=I1.more (tk:=tk2) (AJ _) hk2 ho1 (λv e=>by rw[hd1]at e;cases e);refine Cr (PZ I2 hg2 hm2 (u:=.type "set") rfl ?_);refine BF (Dv (Z9 hb ZS he2 pos3 _ _ U H1 (λvs H2=>match vs with | [y]=>∃q ys,y=.ref q/\FO X.K H2 q (ys.map V.str)/\ys.length+1<Bi/\(fm ys).length<=12/\∀l,H2 l=none->Q (.ref l) (CF H2 l (.lst ((R6 op xs ys).map V.str))) | _=>False) I2 q) λus s3 e=>e.el λvs H3 I3 r3 q3=>?_) he2 rfl
   match vs,r3,q3 with
   |[y],r3,⟨p',ys,hy,hs',hz',h12',q'⟩=>
    subst hy;obtain⟨u,rfl,ru⟩:=Hg r3;cases(show u=AC p' from ru);obtain⟨its',rv',pl',hzz'⟩:=I3.list hs'
    have hl':ys.length=its'.toArray.size:=by
     have:=rv'.length;simpa using this
    obtain⟨I3',hp1⟩:=I3.less;have ltS:=Ar hp1;refine jY (I3.ok.hd hc) pl'.isList hl' (λi v hi hv=>?_) (by ext) λh4 tk4 hS4 hk4=>?_
    .obtain⟨u,hu,ru⟩:=rv'.get (i:=i) (x:=V.str ys[i]) (by rw[AH,Ag hi];rfl);rw[D6]at hv;rw[hu]at hv;cases hv;exact ru
    .refine ir (s:={s3 with heap:=h4,toks:=tk4}) hop (E8 ltS) ⟨o1,es1,ep1,t1,hk4 _ _ hp1,hex1,hd1,hrest⟩ hS4 h12 h12' λh5 ms hk5 hS5 hu5 h64=>?_;refine JE ?_
     have lt4:s3.heap.objs.size<h4.objs.size:=by
      obtain⟨o,es,ep,t,ho,-⟩:=hS4;exact Ar ho
     refine xU (s:={s3 with heap:=h5,toks:=tk4}) (I3.ok.hd hc) hS5 h64 λh6 d tk6 L out c zs hf hSL hL hst hp hsrt hk6=>?_;have hSL:h4.objs.size<L:=hSL;refine⟨.ref L,_,((I3'.draw d).laid (h':=h6) (t':=tk6) (a:=L) (o:=.lst (zs.map V.str)) (λb u eb=>hk6 b u (hk5 b u (hk4 b u eb))) (by show s3.heap.objs.size<=L;ext) ⟨?_,out,c,bI hst,hL⟩),rfl,?_⟩
     .rw[Ab,hp.length_eq];have:(64:Nat)<=An:=by decide
      ext
     .rw[hu5 zs hp hsrt];exact q' L (I3.hok.fresh (by ext))
unseal B5
def W3 (op:NM)(ta tb:D3):D3:=λτ M Q=>ta τ M λx M1=>Cp (Bh M1 x) λds=>Cp (EB ds) λxs=>xs.length+1<Bi/\(fm xs).length<=12/\tb τ M1 λy M2=>Cp (Bh M2 y) λes=>Cp (EB es) λys=>ys.length+1<Bi/\(fm ys).length<=12/\Q (.lst ((R6 op xs ys).map D.str)) M2
theorem XD (hop:op=.BitAnd\/op=.BitXor)(hc:X.calm=true)(hm1:X.mg "sorted" = none)(hm2:X.mg "set" = none)(ha:B5 X e1 ta)(hb:B5 X e2 tb)(hg1:Gl X "sorted":=by rfl)(hg2:Gl X "set":=by rfl)
  (he1:Au [e1] X.env=(false,eval e1 X.env)::Au [] X.env:=by rfl) (he2:Au [e2] X.env=(false,eval e2 X.env)::Au [] X.env:=by rfl) :
  B5 X (.Call (.Name "sorted" p1) [.BinOp (.Call (.Name "set" p2) [e1] [] pos2) op (.Call (.Name "set" p3) [e2] [] pos3) p4] [] pos) (W3 op ta tb):=PE.mono (Zkz hop hc ha hb hm1 hm2 hg1 hg2 he1 he2) (by
 intro U H Q hI';symm;obtain ⟨Z,τ,M,Q2,st,hr,h,k⟩:=hI';cutsat;refine ⟨Z,τ,M,_,st,hr,h,λZ1 v d H1 M1 l1 h1 a1 q1=>?_⟩;obtain ⟨ds,e1,q2⟩:=Cn q1;obtain ⟨xs,e2,hz,h64,q3⟩:=Cn q2;obtain ⟨p,vs,rfl,hs,a2⟩:=h1.rdL e1 a1;have e3:=Wf e2;subst e3;have e4:=ats_strs a2;subst e4;refine ⟨p,xs,rfl,hs,hz,h64,lE.bind (st.mono l1) h1 q3 λZ2 y dy H2 M2 l2 h2 a3 q4=>?_⟩;obtain ⟨es,f1,q5⟩:=Cn q4;obtain ⟨ys,f2,hz',h64',q6⟩:=Cn q5;obtain ⟨p',vs',rfl,hs',a4⟩:=h2.rdL f1 a3;have f3:=Wf f2;subst f3;have f4:=ats_strs a4;subst f4;exact ⟨p',ys,rfl,hs',hz',h64',λl hl=>(k.le (l1.trans l2)).f h2 hl (Ys _) q6⟩)
theorem qr :W3 op ta tb τ M Q=(ta τ M λx M1=>Cp (Bh M1 x) λds=>Cp (EB ds) λxs=>xs.length+1<Bi/\(fm xs).length<=12/\tb τ M1 λy M2=>Cp (Bh M2 y) λes=>Cp (EB es) λys=>ys.length+1<Bi/\(fm ys).length<=12/\Q (.lst ((R6 op xs ys).map D.str)) M2):=rfl
unseal Gi GV
end
end L2
namespace L3
open PySem PySem.Spec PyProof.Rows L2
section
theorem Zmu (hkey:(BV prog w).is k key=true)(hm:s.heap.DictOf (BV prog w) d AR)(hn:k∉AR.map (·.1))(hsz:AR.length<=An)
  (hQ:∀h',h'.DictOf (BV prog w) d (AR++[(k,x)])->BL d s.heap h'->Q x {s with heap:=h',toks:=s.toks+1}):Av (AA prog w) A (cB d key x) Q E s:=by
 symm;obtain⟨o,es,ep,ho,hc,hd,hk,hp,nd⟩:=hm;cutsat
 have hes:es.size<=An:=by
  have e1:=hp.length;have e2:es.toList.length=es.size:=by simp
  ext
 have no:(es.findIdx? λe=>(BV prog w).is k e.key)=none:=by
  have e1:=hp.findIdx k;have e2:(es.findIdx? λe=>(BV prog w).is k e.key)=es.toList.findIdx? λe=>(BV prog w).is k e.key:=by obtain⟨l⟩:=es;simp
  rw[e2,e1,Gv];intro kv hkv;exact decide_eq_false λe=>hn (Ap.mpr ⟨kv,hkv,e⟩)
 unfold cB;refine BZ ?_;refine Aa ((BV prog w).pyHash hkey ?_);refine Aa (wpAny_dictFind_of hkey ho hd hk ?_);rw[no];dsimp only;refine Aa (GX (Aa (wpAny_updateDictKeys ho hd (Ae ?_))));refine hQ _ ⟨_,_,ep+1,Ej _ ho (Obj.isFreed_of_dict (OW hd _)),hc.mapDictKeys _,OW hd _,hk.push hkey _,?_,?_⟩ (Bf ..)
 .have z:=hp.append hkey ((BV prog w).hash k) x;obtain⟨l⟩:=es;simpa using z
 .rw[AI];exact BN.mpr ⟨nd,by simp,λa ha b hb e=>hn (by rw[show a=k from e.trans (AL.mp hb)]at ha;exact ha)⟩
end
section
theorem yq (I:A6 X Af U H s)(e:H a=some (.dK AR))(hl:AR.length<An)(ry:RelV (kV k) u)(rd:RelV d r)
  (h1:∀v w' s',FU AR k=some v->A6 X Af U H s'->RelV v w'->Q w' s') (h2:FU AR k=none->∀s',A6 X Af U (CF H a (.dK (putK AR k d))) s'->Q r s') :
  Av (AA X.prog X.w) A (IA (.builtin "dict.setdefault") [.ref a,u,r]) Q E s:=by
 obtain⟨z,hd,vs,rel,dd⟩:=iC I.hok e;have rv:=rel.val k;cases hv:FU AR k with
 |some v=>
  rw[hv]at rv;cases hw:JN vs k with
  |none=>rw[hw]at rv;exact rv.elim
  |some w'=>
   rw[hw]at rv;refine call_meetsIn Fz dd.typeIs JS (JC _ _ _) (meets_dict_setdefault (BV X.prog X.w) a (Sl ry) hd r) ⟨_,dd.mapOf,?_,λv' hv'=>?_,λhn=>?_⟩
   .symm;obtain⟨o',es',ep',ho',_,hd',_,hp',_⟩:=dd;cutsat;intro o es ep ho hd2;rw[ho']at ho;cases ho;rw[hd']at hd2;cases hd2;have e1:=hp'.length;have e2:es'.toList.length=es'.size:=by simp
    have e3:=rel.length;ext
   .rw[hw]at hv';cases hv';exact h1 v w' _ hv (I.tok _) rv
   .rw[hw]at hn;cases hn
 |none=>
  have hn:k∉vs.map (·.1):=λhk=>by
   rw[<- rel.keys]at hk;obtain⟨kv,hkv,ek⟩:=Ap.mp hk;unfold FU at hv;rw[Mv,E3]at hv;exact hv kv hkv (decide_eq_true ek)
  refine Cd Fz dd.typeIs JS ?_ (JC _ _ _);unfold Er.«dict.setdefault»;refine Aa ?_;unfold Zm;refine Aa (Q8 dd.typeIs ?_);show Av _ _ (pure (a,u,some r)) _ _ s;refine Ae ?_;dsimp only;rw[if_neg (by rw[hd];exact Am)];refine Aa (Zmu (Sl ry) dd hn (by rw[<- rel.length];exact z) λh' dd' hs=>Ae ⟨r,rfl,h2 hv _ ?_⟩);have he:∃q,h'.get? a=some q:=let ⟨q,_,_,hq,_⟩:=dd';⟨q,hq⟩
  have hp:putK AR k d=AR++[(k,d)]:=by
   unfold putK;rw[if_neg];intro c;obtain⟨kv,hkv,ek⟩:=C8.mp c;exact hn (by rw[<- rel.keys];exact Ap.mpr ⟨kv,hkv,of_decide_eq_true ek⟩)
  rw[hp]
  have hst:TY vs k r=vs++[(k,r)]:=by
   unfold TY;rw[if_neg];intro c;obtain⟨kv,hkv,ek⟩:=C8.mp c;exact hn (Ap.mpr ⟨kv,hkv,of_decide_eq_true ek⟩)
  have rp:=rel.put k rd;rw[hp,hst]at rp;exact aD I (by rw[e];exact Cm) hs he (ZO (by rw[As];exact hl) hd rp dd')
end
section
unseal ES
def RY:V->List V->Hp->VK->Prop:=λx vs H Q=>∃a AR k v,x=.ref a/\vs=[kV k,v]/\H a=some (.dK AR)/\AR.length<An/\(∀v',FU AR k=some v'->Q v' H)/\(FU AR k=none->Q v (CF H a (.dK (putK AR k v))))
theorem Zon:Nv X "dict.setdefault" RY:=by
 intro Af s U H x vs v us Q I rx rv h;symm;obtain⟨a,AR,k,d,e1',e2',e,hl,q1,q2⟩:=h;cutsat;subst e1' e2';cases rx;obtain⟨u,r,rfl,ru,rr⟩:=MP rv;exact yq I e hl ru rr (λv w' s' hv I' r'=>⟨v,H,I',r',q1 v hv⟩) λhn s' I'=>⟨d,_,I',rr,q2 hn⟩
def LY:D->List D->Mp->DV->Prop:=λx xs M Q=>JZ x λp=>FI xs λy v=>Ro y λk=>Kz (M p) λAR=>AR.length<An/\(∀d,Du AR k=some d->Q d M)/\(Du AR k=none->Q v (put M p (.dic (Ht AR k v))))
def W2 (to:D3)(t:Kn):D3:=λτ M Q=>to τ M λx M1=>JZ x λp=>Kz (M1 p) λ_=>t τ M1 λxs M2=>LY (.ref p) xs M2 Q
theorem qu :W2 to t τ M Q=(to τ M λx M1=>JZ x λp=>Kz (M1 p) λ_=>t τ M1 λxs M2=>LY (.ref p) xs M2 Q):=rfl
unseal B5 Gi
theorem fV (ho:B5 X o to)(ha:Gi X [e1,e2] t)
  (hbase:CJ o "setdefault" X.env (eval o X.env)=eval o X.env:=by rfl)
  (hfew:((Cg cpos (Au [e1,e2] X.env)).all (λx=>!x.1) && (Fx cpos (DJ [] X.env)).all (λx=>x.1.isSome)
   && decide ([e1,e2].length+([]:List E1).length+(if ([]:List E1).isEmpty then 0 else 1)<30))=true:=by rfl)
  (hline:(apos.endLine == cpos.line)=true:=by rfl) (hs:Au [e1,e2] X.env=(false,eval e1 X.env)::Au [e2] X.env:=by rfl) (hplain:(Cg cpos (Au [e2] X.env)).any (·.1)=false:=by rfl) :
  B5 X (.Call (.Attribute o "setdefault" apos) [e1,e2] [] cpos) (W2 to t):=PE.mono (nV PySem.F.plainAttrs_dict Fz PySem.F.type_dict_setdefault Zon ho ha hbase hfew hline hs hplain) (by
 sleep 3;refine lE.bind st hr h λZ1 x dx H1 M1 l1 h1 a1 q1=>?_;obtain⟨p,rfl,q2⟩:=Ik q1;obtain⟨kvs0,e0,q3⟩:=iA q2;cases(show x=V.ref p from a1);obtain⟨ks0,rd0,_⟩:=h1.rdMD e0;refine⟨.inr (.inr (.inl ⟨rfl,.inl ⟨ks0,rd0⟩⟩)),Z1,τ,M1,_,st.mono l1,h1,q3,λZ2 vs ds H2 M2 l2 h2 a2 q4=>?_⟩;obtain⟨p',e,q5⟩:=Ik q4;cases e;obtain⟨y,v,rfl,q6⟩:=Lo q5;obtain⟨ky,rfl,q7⟩:=QC q6;obtain⟨AR,e,hl,q8,q9⟩:=iA q7;obtain⟨ks,rd,a4⟩:=h2.rdMD e;obtain⟨y',v',rfl,ay,av⟩:=Pd a2;cases VQ ay;refine⟨p,ks,ky,v',rfl,rfl,rd,by rw[a4.length];exact hl,λv2 hv2=>?_,λhn=>?_⟩
 .rcases a4.val with⟨_,e2⟩|⟨d,v3,e1,e2,av3⟩
  .rw[hv2]at e2;cases e2
  .rw[hv2]at e2;cases e2;exact k Z2 _ _ _ _ (l1.trans l2) h2 av3 (q8 d e1)
 .rcases a4.val with⟨e1,_⟩|⟨d,v3,e1,e2,_⟩
  .exact k Z2 _ _ _ _ (l1.trans l2) (h2.chgD e (a4.put av)) av (q9 e1)
  .rw [hn] at e2;cases e2)
theorem rW :∀{zs:List D}{vs:List V},Dw Z vs (zs++[d])->∃us v,vs=us++[v]/\Dw Z us zs/\At Z v d
 |[],_,.cons a .nil=>⟨[],_,rfl,.nil,a⟩
 |_::zs,_,.cons a t=>by
  obtain⟨us,v,rfl,h1,h2⟩:=rW t;exact⟨_::us,v,rfl,.cons a h1,h2⟩
def Qs:D->List D->Mp->DV->Prop:=λx xs M Q=>JZ x λp=>xs=[]/\Oc (M p) λys=>∃zs d,ys=zs++[d]/\Q d (put M p (.lst zs))
theorem rN :Qs (.ref p) [] M Q=Oc (M p) λys=>∃zs d,ys=zs++[d]/\Q d (put M p (.lst zs)):=by
 unfold Qs;simp only[JZ,true_and]
theorem mf:ES X "list.pop" Qs:=Nv.mono ou (by
 intro x xs H Q hI';symm;obtain⟨Z,d,ds,M,Q2,hr,a,as,h,k⟩:=hI';cutsat;obtain⟨p,rfl,rfl,h2⟩:=Ik h;obtain⟨ys,e,zs,d,rfl,q⟩:=iB h2;cases(show x=V.ref p from a);have hx:xs=[]:=by cases as;rfl
 subst hx;obtain ⟨vs,r,a2⟩:=hr.rdM e;obtain ⟨us,v,rfl,a4,a5⟩:=rW a2;refine ⟨p,us++[v],v,rfl,rfl,r,by simp,?_⟩;rw [List.dropLast_concat];exact k Z _ _ _ _ (Le.refl _) (hr.chgL e a4) a5 q)
end
section
def Qo (tk1 tv1 tk2 tv2 tk3 tv3 tk4 tv4:D3):D3:=λτ M Q=>∀p,M p=none->tk1 τ (put M p (.dic [])) λx1 M1=>Gh x1 λz1=>tv1 τ M1 λy1 M2=>tk2 τ M2 λx2 M3=>Gh x2 λz2=>tv2 τ M3 λy2 M4=>tk3 τ M4 λx3 M5=>Gh x3 λz3=>tv3 τ M5 λy3 M6=>tk4 τ M6 λx4 M7=>Gh x4 λz4=>tv4 τ M7 λy4 M8=>M8 p=some (.dic [])/\[z1,z2,z3,z4].Nodup/\Q (.ref p) (put M8 p (.dic [(.inr z1,y1),(.inr z2,y2),(.inr z3,y3),(.inr z4,y4)]))
theorem xi :Qo tk1 tv1 tk2 tv2 tk3 tv3 tk4 tv4 τ M Q=∀p,M p=none->tk1 τ (put M p (.dic [])) λx1 M1=>Gh x1 λz1=>tv1 τ M1 λy1 M2=>tk2 τ M2 λx2 M3=>Gh x2 λz2=>tv2 τ M3 λy2 M4=>tk3 τ M4 λx3 M5=>Gh x3 λz3=>tv3 τ M5 λy3 M6=>tk4 τ M6 λx4 M7=>Gh x4 λz4=>tv4 τ M7 λy4 M8=>M8 p=some (.dic [])/\[z1,z2,z3,z4].Nodup/\Q (.ref p) (put M8 p (.dic [(.inr z1,y1),(.inr z2,y2),(.inr z3,y3),(.inr z4,y4)])):=rfl
theorem Uq (h:[z1,z2,z3,z4].Nodup):L2.mergeK [] [((.inr z1:B7),y1),(.inr z2,y2),(.inr z3,y3),(.inr z4,y4)]=[(.inr z1,y1),(.inr z2,y2),(.inr z3,y3),(.inr z4,y4)]:=by
 simp only[El,BD,AS,or_false,not_or]at h;symm;obtain⟨⟨a,b,c⟩,⟨d,e⟩,f,-⟩:=h;cutsat;simp[L2.mergeK,L2.putK,a,b,c,d,e,f]
unseal B5
theorem Uj (hk1:B5 X ke1 tk1)(hv1:B5 X ve1 tv1)(hk2:B5 X ke2 tk2)(hv2:B5 X ve2 tv2)(hk3:B5 X ke3 tk3)(hv3:B5 X ve3 tv3)(hk4:B5 X ke4 tk4)(hv4:B5 X ve4 tv4):B5 X (.Dict [some ke1,some ke2,some ke3,some ke4] [ve1,ve2,ve3,ve4] pos) (Qo tk1 tv1 tk2 tv2 tk3 tv3 tk4 tv4):=PE.mono (u7 (aQ hk1 hv1 (aQ hk2 hv2 (aQ hk3 hv3 (aQ hk4 hv4 wt)))) rfl rfl (by intro h;cases h) (by show 4<=15;decide)) (by
 rintro U H Q ⟨Z,τ,M,Q2,st,hr,h,k⟩ p hp;refine lE.bind st (hr.newD hp .nil) (h p (hr.fresh hp)) λZ1 v1 d1 H1 M1 l1 h1 a1 q=>?_;obtain ⟨z1,rfl,q⟩:=Ea q;refine lE.bind (st.mono l1) h1 q λZ2 v2 d2 H2 M2 g2 h2 a2 q=>?_;have l2:=l1.trans g2;refine lE.bind (st.mono l2) h2 q λZ3 v3 d3 H3 M3 g3 h3 a3 q=>?_;have l3:=l2.trans g3;have a2:=a2.mono g3;obtain ⟨z2,rfl,q⟩:=Ea q;refine lE.bind (st.mono l3) h3 q λZ4 v4 d4 H4 M4 g4 h4 a4 q=>?_;have l4:=l3.trans g4;have a2:=a2.mono g4;refine lE.bind (st.mono l4) h4 q λZ5 v5 d5 H5 M5 g5 h5 a5 q=>?_;have l5:=l4.trans g5;have a2:=a2.mono g5;have a4:=a4.mono g5;obtain ⟨z3,rfl,q⟩:=Ea q;refine lE.bind (st.mono l5) h5 q λZ6 v6 d6 H6 M6 g6 h6 a6 q=>?_;have l6:=l5.trans g6;have a2:=a2.mono g6;have a4:=a4.mono g6;refine lE.bind (st.mono l6) h6 q λZ7 v7 d7 H7 M7 g7 h7 a7 q=>?_;have l7:=l6.trans g7;have a2:=a2.mono g7;have a4:=a4.mono g7;have a6:=a6.mono g7;obtain ⟨z4,rfl,q⟩:=Ea q;refine lE.bind (st.mono l7) h7 q λZ8 v8 d8 H8 M8 g8 h8 a8 q=>?_;have l8:=l7.trans g8;have a2:=a2.mono g8;have a4:=a4.mono g8;have a6:=a6.mono g8;obtain ⟨e,hne,q⟩:=q;obtain ⟨vs,e2,ka⟩:=h8.rdMD e;cases ka;cases (show v1=V.str z1 from a1);cases (show v3=V.str z2 from a3);cases (show v5=V.str z3 from a5);cases (show v7=V.str z4 from a7);refine ⟨e2,[(.inr z1,v2),(.inr z2,v4),(.inr z3,v6),(.inr z4,v8)],rfl,by show 4<=15;decide,?_⟩;rw [Uq hne];exact k Z8 (.ref p) (.ref p) _ _ l8 (h8.chgD e (.cons ⟨rfl,a2⟩ (.cons ⟨rfl,a4⟩ (.cons ⟨rfl,a6⟩ (.cons ⟨rfl,a8⟩ .nil))))) rfl q)
end
section
variable {X:Cx}{Af:List (Ao×Obj)}{U:St}{H:Hp}{s:Aj}
theorem z8 (ht:IsTup s.heap p #[.int i t1,.int j t2])
  (h1:i=k->Q (.int 0 s.toks) {s with toks:=s.toks+1}) (h2:i≠k->j=k/\Q (.int 1 s.toks) {s with toks:=s.toks+1}) :
  Av (AA X.prog X.w) X.A (IA (.builtin "tuple.index") [.ref p,.int k t]) Q X.xe s:=by
 refine Cd Li ht.typeIs PySem.F.entry_tuple_index ?_ (PySem.F.args_tuple_index_2 _ _);unfold Er.«tuple.index»;refine Aa ?_;show Av _ _ (pure (AC p,[DL k t])) _ _ s;refine Ae ?_;dsimp only;refine Aa (tupleItemsOf_ ht ?_);refine Aa (Ae (Aa (Ae (Aa ?_))));rw[SD];simp only[SA,AV,AO,FQ,E7,MM,La,NA,ML,Nat.reduceDiv,Nat.add_one_sub_one,Ze];rw[show OB 0 2=[0,1]from rfl];rw[G3];refine Aa ?_;show Av _ _ (eqBool (.int i t1) (.int k t) >>= _) _ _ s;refine Aa (LF ?_);by_cases e:i=k
 .rw[beq_iff_eq.mpr e];show Av _ _ (bY _ >>= _) _ _ s;refine Aa ?_;unfold bY;refine Aa (wpAny_mkInt (Ae (Ae ?_)));refine Ae (Ae ⟨_,rfl,h1 e⟩)
 .obtain⟨e2,q⟩:=h2 e;rw[show(i == k)=false from beq_eq_false_iff_ne.mpr e];show Av _ _ (pure (Dd (none,()))) _ _ s;refine Ae ?_;show Av _ _ (forIn [1] _ _) _ _ s;rw[G3];refine Aa ?_;show Av _ _ (eqBool (.int j t2) (.int k t) >>= _) _ _ s;refine Aa (LF ?_);rw[beq_iff_eq.mpr e2];show Av _ _ (bY _ >>= _) _ _ s;refine Aa ?_;unfold bY;refine Aa (wpAny_mkInt (Ae (Ae ?_)));refine Ae (Ae ⟨_,rfl,q⟩)
def RZ:V->List V->Hp->VK->Prop:=λx vs H Q=>∃p i j k,x=.ref p/\vs=[.int k]/\H p=some (.tup [.int i,.int j])/\(i=k->Q (.int 0) H)/\(i≠k->j=k/\Q (.int 1) H)
theorem Zoo:Nv X "tuple.index" RZ:=by
 intro Af s U H x vs v us Q I rx rv h;symm;obtain⟨p,i,j,k,e1',e2',e,q1,q2⟩:=h;cutsat;subst e1' e2';cases(show v=AC p from rx);obtain⟨u,rfl,ru⟩:=Hg rv;obtain⟨t,rfl⟩:=ru;obtain⟨_,Bn,r,tn⟩:=(show CZ X.prog X.w H s.heap p (.tup [.int i,.int j])from I.hok p _ e);symm;obtain⟨u1,u2,e1',⟨t1,e2'⟩,⟨t2,e3'⟩⟩:=MP r;cutsat;subst e1' e2' e3';exact z8 tn.tup (λh=>⟨.int 0,H,I.tok _,⟨_,rfl⟩,q1 h⟩) λh=>⟨(q2 h).1,.int 1,H,I.tok _,⟨_,rfl⟩,(q2 h).2⟩
def g9 (r:V->List V->Hp->VK->Prop)(to:TE)(t:TA):TE:=λU H Q=>to U H λx H1=>(∃p xs,x=.ref p/\H1 p=some (.tup xs))/\t U H1 λvs H2=>r x vs H2 Q
theorem pz {id:String}(slot:cD "tuple" name id)(hty:TN (.builtin id)=pure (.type "method_descriptor"))(hm:Nv X id r)(ho:PE X o to)(ha:PA X (e::es) t)
  (hbase:CJ o name X.env (eval o X.env)=eval o X.env:=by rfl)
  (hfew:((Cg cpos (Au (e::es) X.env)).all (λx=>!x.1) && (Fx cpos (DJ [] X.env)).all (λx=>x.1.isSome)
   && decide ((e::es).length+([]:List E1).length+(if ([]:List E1).isEmpty then 0 else 1)<30))=true:=by rfl)
  (hline:(apos.endLine == cpos.line)=true:=by rfl) (hs:Au (e::es) X.env=(false,eval e X.env)::Au es X.env:=by rfl) (hplain:(Cg cpos (Au es X.env)).any (·.1)=false:=by rfl) :
  PE X (.Call (.Attribute o name apos) (e::es) [] cpos) (g9 r to t):=by
 intro Af s U H Q I h;refine P8 hbase hfew hline rfl (Dv (ho Af s U H _ I h) λv s1 e=>e.el λx H1 I1 r1 ⟨ty,q1⟩=>?_);obtain⟨p,xs,rfl,ex⟩:=ty;cases(show v=AC p from r1);obtain⟨_,Bn,_,ob,g1,g2,n,g3,g4⟩:=(show CZ X.prog X.w H1 s1.heap p (.tup xs)from I1.hok p _ ex);refine⟨"tuple",id,PySem.F.plainAttrs_tuple,slot,hty,⟨ob,g1,g2⟩,λa ha=>⟨ob,by cases ha;exact g1,g4⟩,?_⟩;have hA:=ha cpos Af s1 U H1 _ I1 q1;rw[hs]at hA ⊢;refine Hq (by show(false || (Cg cpos (Au es X.env)).any (·.1))=false;rw[hplain]<;>rfl) (NR ?_);exact Dv hA λus s2 e=>e.el λvs H2 I2 r2 q2=>hm Af s2 U H2 _ vs _ us Q I2 r1 r2 q2
def WZ (to:D3)(t:Kn):D3:=λτ M Q=>to τ M λx M1=>∃i j,x=.tup [.int i,.int j]/\t τ M1 λxs M2=>Gx xs λy=>E4 y λk=>∃v,(v=0/\i=k\/v=1/\i≠k/\j=k)/\Q (.int v) M2
theorem re :WZ to t τ M Q=(to τ M λx M1=>∃i j,x=.tup [.int i,.int j]/\t τ M1 λxs M2=>Gx xs λy=>E4 y λk=>∃v,(v=0/\i=k\/v=1/\i≠k/\j=k)/\Q (.int v) M2):=rfl
unseal B5 Gi
theorem fU {o e:Bv}{to:D3}{t:Kn}{apos cpos:Pos}(ho:B5 X o to)(ha:Gi X [e] t)
  (hbase:CJ o "index" X.env (eval o X.env)=eval o X.env:=by rfl)
  (hfew:((Cg cpos (Au [e] X.env)).all (λx=>!x.1) && (Fx cpos (DJ [] X.env)).all (λx=>x.1.isSome)
   && decide ([e].length+([]:List E1).length+(if ([]:List E1).isEmpty then 0 else 1)<30))=true:=by rfl)
  (hline:(apos.endLine == cpos.line)=true:=by rfl) (hs:Au [e] X.env=(false,eval e X.env)::Au [] X.env:=by rfl) (hplain:(Cg cpos (Au [] X.env)).any (·.1)=false:=by rfl) :
  B5 X (.Call (.Attribute o "index" apos) [e] [] cpos) (WZ to t):=PE.mono (pz Li PySem.F.type_tuple_index Zoo ho ha hbase hfew hline hs hplain) (by
 sleep 3;refine lE.bind st hr h λZ1 x dx H1 M1 l1 h1 a1 q1=>?_;obtain⟨i,j,rfl,q⟩:=q1;obtain⟨p,vs,rfl,e1,_⟩:=h1.rdK rfl a1;refine⟨⟨p,vs,rfl,e1⟩,Z1,τ,M1,_,st.mono l1,h1,q,λZ2 ws ds H2 M2 l2 h2 a2 q2=>?_⟩;obtain⟨y,rfl,q3⟩:=GN q2;obtain⟨n,rfl,v,c,q4⟩:=CY q3;obtain⟨w,rfl,aw⟩:=IN a2;cases(show w=V.int n from aw);obtain⟨p2,vs2,ep,e2,av⟩:=h2.rdK rfl (a1.mono l2);cases ep;obtain⟨v1,v2,rfl,b1,b2⟩:=Pd av;cases(show v1=V.int i from b1);cases(show v2=V.int j from b2);have q5:=k Z2 (.int v) (.int v) _ _ (l1.trans l2) h2 rfl q4;rcases c with⟨rfl,c⟩|⟨rfl,c,d⟩
 .exact⟨p,i,j,n,rfl,rfl,e2,λ_=>q5,λd=>absurd c d⟩
 .exact ⟨p,i,j,n,rfl,rfl,e2,λd=>absurd d c,λ_=>⟨d,q5⟩⟩)
end
section
open MeetsSeq MeetsSeq2 MeetsSeq3 SeqRoads2
end
unseal Cf
end L3
namespace L2
open PySem PySem.Spec PyProof.Rows L3
section
end
end L2
namespace L3
open PySem PySem.Spec PyProof.Rows L2
unseal B5 HX Ju Gi Ko GV C3 Cf FW BY FL Ga K4 Hw ES
section
variable {X:Cx}
theorem Dw.rev (h:Dw Z vs ds):Dw Z vs.reverse ds.reverse:=by
 induction h with
 |nil=>exact .nil
 |cons a _ ih=>rw[GC,GC];exact ih.append (.cons a .nil)
def Xu:D->List D->Mp->DV->Prop:=λx xs M Q=>JZ x λp=>xs=[]/\Oc (M p) λys=>Q .non (put M p (.lst ys.reverse))
theorem Zov:ES X "list.reverse" Xu:=Nv.mono ZmE (by
 intro x xs H Q hI';symm;obtain ⟨Z,d,ds,M,Q2,hr,a,as,h,k⟩:=hI';cutsat;obtain ⟨p,rfl,rfl,h1⟩:=Ik h;cases (show x=V.ref p from a);cases as;obtain ⟨ys,e,q⟩:=iB h1;obtain ⟨vs,r,a2⟩:=hr.rdM e;exact ⟨p,vs,rfl,rfl,r,k Z .non .non _ _ (Le.refl _) (hr.chgL e a2.rev) rfl q⟩)
noncomputable def Qr (ss:List Str):List Str:=ss.mergeSort O9
theorem Τ (h1:ys.Perm xs)(h2:K8 ys=true):ys=Qr xs:=
 G4 (λa b _ _ p q=>aN p q) (uX _ h2) (Do US We _) (h1.trans (D5 _ _).symm)
theorem tU {K:Ac}{f:List Str->Mp->DV->Prop}(hK:X.K=K)(hf:∀{Z:Zt}{H:Hp}{M:Mp}{Q2:DV}{Q:VK}{ys:List Str}{a:Ao},Hz K Z Q2 Q->HR K H M Z->H a=none->f ys M Q2->Q (.ref a) (CF H a (.lst (ys.map V.str)))):BY X (.builtin "sorted") (λxs M Q=>Gx xs λx=>Cp (Bh M x) λds=>Cp (EB ds) λss=>ss.length<64/\f (Qr ss) M Q):=by
 subst hK;intro Af s U H xs us Q I r h;symm;obtain⟨Z,ds,M,Q2,hr,a,h,k⟩:=h;cutsat;obtain⟨x,rfl,h1⟩:=GN h;obtain⟨zs,e,h2⟩:=Cn h1;obtain⟨ss,e2,h64,q⟩:=Cn h2;obtain⟨v,rfl,av⟩:=IN a;obtain⟨p,ws,rfl,hs,a2⟩:=hr.rdL e av;obtain⟨u,rfl,ru⟩:=Hg r;cases(show u=AC p from ru);have e3:=Wf e2;subst e3;have e4:=L2.ats_strs a2;subst e4;obtain⟨Bn,rv,pl,hz⟩:=I.list hs;have l1:=rv.length;rw[Ab]at l1;refine sorted_strs pl.isList (zV rv) (by ext) λout ss' b1 b2 b3=>?_;obtain⟨c,hc⟩:=sortedAll_at s.heap Bn out;have e5:=Τ b2 b3;rw[<- e5]at q;refine⟨.ref _,_,I.laid (λ_ _=>sortedAll_old) (JO _) ?_,rfl,hf k hr (I.hok.fresh (JO _)) q⟩;refine⟨?_,out.toList,c,bI b1,hc⟩;rw[Ab,b2.length_eq];have:(64:Nat)<=An:=by decide
 ext
theorem tV:BY X (.builtin "sorted") (λxs M Q=>Gx xs λx=>Cp (Bh M x) λds=>Cp (EB ds) λss=>ss.length<64/\Q (.lst ((Qr ss).map D.str)) M):=tU rfl λk hr ha q=>k.f hr ha (Ys _) q
theorem ο:BY X (.builtin "sorted") (λxs M Q=>Gx xs λx=>Cp (Bh M x) λds=>Cp (EB ds) λss=>ss.length<64/\∀p,M p=none->Q (.ref p) (put M p (.lst ((Qr ss).map D.str)))):=tU rfl λk hr ha q=>k.l hr ha (Ys _) q
end
end L3
set_option maxHeartbeats 4000000
namespace My
open PySem PyProof.Rows L2 L3
local macro_rules | `(nofun)=>`(Dg.mono ‹Dg _ _› (by first | decide | omega))
local macro_rules | `(tactic| walk_at "eq")=>`(tactic| simp only[List.cons.injEq,Ie,D.int.injEq,D.str.injEq,D.bl.injEq,D.tup.injEq,D.lst.injEq,D.ref.injEq,true_and,and_true,exists_and_left,exists_and_right,exists_eq',exists_eq,exists_const,eq_self])
local macro_rules | `(tactic| walk_at "cap")=>`(tactic| (simp only[lj,AQ,Dx,Hf,He,Pn];grind))
local macro_rules | `(tactic| right)=>`(tactic| ((try simp only[N6,N4,N5]);grind))
attribute[local method_specs_simp]Hv if_true if_false HC decide_eq_true_eq Jg Bool.not_false true_and and_true AO FQ Ab As Ei FP E7 ne_eq not_false_eq_true forall_const eq_self NS decide_true decide_false F5 List.all_nil Fy List.any_nil T4 MC MD ME Kp BM decide_eq_false_iff_not BW iQ pZ X9 QR ij cY wK Zmh Υ Χ Φ G0 gU gT gS gR gQ gP gO gN gL gK X2 X1 X0 wz w4 w5 w9 cZ Nat.succ_ne_zero false_and
attribute[local method_specs_simp ↓]qh zj ze zd dO r9 zi qf ZnI qr qu rN re eO fG dN eJ fE dM eI fD dJ eG fB dI eF fA dH eE eY dG eC eX dF dZ eV dE dY eU dC dX eT rh t6 sm ri t7 sr rj t8 su rm t9 sv rz ub sw r6 qq sx ik eS zk Zo3 dP nw eQ tq xy t4 fI fJ tj yc rf zc sk fK xz ZlP zh dR zf qw tf yy t5 qk nz qi dQ ZnK ZnJ Zo2 yb fL og yw yx yd zp zm zn oq zl qj zo iQ pZ X9 QR BW zg jE UI om oo ZnP ql si ZL oZ dU qt dS qe s0 qg s9 ot sy qo sj qp qx qy ya oh za y0 rM y9 ZnX ZnV zb ZnW yz rA fH oX qz rb oY ra ZlM ZnN ZnL Zj0 ZlL ZnM rg ZfA Zek Zfz Zei Zdv Zej Zen Zdz Zfy Zef Zfx Zed Zdr Zee Zeh Zdu Zeg Zds ZcQ Zdt Zdq ZcP Zdp ZcN Zcr ZcO Zem Zdy Zel Zdw ZcR Zdx ZbS Zby ZbR Zbw Zbh Zbx Sg i8 i7 i5 i4 rc ny ZK Zo1 ZnT ZnR ZnQ tu tz t0
set_option hygiene false in
local macro_rules | `(tactic| simp_arith [$xs,*])=>`(tactic| simp -failIfUnchanged only[↓reduceIte,reduceCtorEq,WJ,WK,Vu,Vv,RI,MM,ML,Vs,Vx,Vt,Vw,WL,Hl,SK,Hl,method_specs_simp,$xs,*])
set_option hygiene false in
local macro_rules | `(tactic| grind)=>`(tactic| simp_arith [true_and])
noncomputable def Dl (i:Nat):A4:=T1.main.body.getD i (.Pass ⟨0,0,0,0⟩)
noncomputable def EN (s:A4):List A4:=match s with
 |.ClassDef _ _ _ b _ _ _ _ _ _ _=>b
 |_=>[]
noncomputable abbrev vG:A4:=Dl 12
noncomputable abbrev pS:A4:=Dl 13
noncomputable abbrev ag:A4:=Dl 14
noncomputable abbrev yQ:A4:=Dl 15
noncomputable abbrev nX:A4:=Dl 16
noncomputable abbrev uP:A4:=Dl 17
noncomputable abbrev yS:A4:=Dl 22
noncomputable abbrev uT:A4:=Dl 23
noncomputable abbrev vM:A4:=Dl 24
noncomputable abbrev cw:A4:=Dl 25
noncomputable abbrev ah:A4:=Dl 26
noncomputable abbrev aj:A4:=Dl 27
noncomputable abbrev wV:A4:=Dl 28
noncomputable abbrev yO:A4:=Dl 29
noncomputable abbrev yK:A4:=Dl 30
noncomputable abbrev yL:A4:=Dl 31
noncomputable abbrev zC:A4:=Dl 32
noncomputable abbrev rT:A4:=Dl 33
noncomputable abbrev wX:A4:=Dl 34
noncomputable abbrev vI:A4:=Dl 35
noncomputable abbrev vH:A4:=Dl 37
noncomputable abbrev bb:A4:=Dl 38
noncomputable abbrev xT:A4:=Dl 39
noncomputable abbrev uU:A4:=Dl 40
noncomputable abbrev xQ:A4:=Dl 41
noncomputable abbrev ai:A4:=Dl 42
noncomputable abbrev rR:A4:=Dl 43
noncomputable abbrev uQ:A4:=Dl 44
noncomputable abbrev vJ:A4:=Dl 45
noncomputable abbrev vK:A4:=Dl 46
noncomputable abbrev wY:A4:=Dl 47
noncomputable abbrev xE:A4:=Dl 48
noncomputable abbrev xB:A4:=Dl 49
noncomputable abbrev wW:A4:=Dl 50
noncomputable abbrev xA:A4:=Dl 51
noncomputable abbrev pT:A4:=Dl 58
noncomputable abbrev yM:A4:=Dl 59
noncomputable abbrev uR:A4:=Dl 60
noncomputable abbrev xR:A4:=Dl 61
noncomputable abbrev yN:A4:=Dl 62
noncomputable abbrev cu:A4:=Dl 63
noncomputable abbrev cv:A4:=Dl 64
noncomputable abbrev yP:A4:=Dl 65
noncomputable abbrev uS:A4:=Dl 66
noncomputable abbrev zB:A4:=Dl 67
noncomputable abbrev xS:A4:=Dl 68
noncomputable abbrev yH:A4:=Dl 71
noncomputable abbrev tD:A4:=Dl 72
noncomputable abbrev vL:A4:=Dl 73
noncomputable abbrev yI:A4:=Dl 74
noncomputable abbrev b9:A4:=(EN (Dl 75)).getD 0 (.Pass ⟨0,0,0,0⟩)
noncomputable abbrev zQ:A4:=(EN (Dl 75)).getD 1 (.Pass ⟨0,0,0,0⟩)
noncomputable abbrev az:A4:=(EN (Dl 75)).getD 2 (.Pass ⟨0,0,0,0⟩)
noncomputable abbrev yA:A4:=(EN (Dl 75)).getD 3 (.Pass ⟨0,0,0,0⟩)
noncomputable abbrev zP:A4:=(EN (Dl 75)).getD 4 (.Pass ⟨0,0,0,0⟩)
noncomputable abbrev eh:A4:=(EN (Dl 75)).getD 5 (.Pass ⟨0,0,0,0⟩)
noncomputable abbrev wQ:A4:=(EN (Dl 75)).getD 6 (.Pass ⟨0,0,0,0⟩)
noncomputable abbrev yB:A4:=(EN (Dl 75)).getD 7 (.Pass ⟨0,0,0,0⟩)
noncomputable abbrev fb:A4:=(EN (Dl 75)).getD 8 (.Pass ⟨0,0,0,0⟩)
noncomputable abbrev d9:A4:=(EN (Dl 75)).getD 9 (.Pass ⟨0,0,0,0⟩)
noncomputable abbrev dr:A4:=(EN (Dl 75)).getD 10 (.Pass ⟨0,0,0,0⟩)
noncomputable abbrev fe:A4:=(EN (Dl 75)).getD 11 (.Pass ⟨0,0,0,0⟩)
noncomputable abbrev yU:A4:=Dl 76
noncomputable abbrev uV:A4:=Dl 78
noncomputable abbrev zA:A4:=Dl 79
noncomputable abbrev xC:A4:=Dl 80
noncomputable abbrev yJ:A4:=Dl 81
noncomputable abbrev rQ:A4:=Dl 82
noncomputable abbrev yR:A4:=Dl 84
noncomputable abbrev af:A4:=Dl 85
noncomputable abbrev vF:A4:=Dl 86
noncomputable abbrev yG:A4:=Dl 87
noncomputable abbrev xD:A4:=Dl 88
noncomputable abbrev vE:A4:=Dl 89
noncomputable abbrev rS:A4:=Dl 91
noncomputable abbrev yT:A4:=Dl 92
noncomputable abbrev wZ:A4:=Dl 93
noncomputable abbrev ba:A4:=Dl 95
noncomputable abbrev yE:A4:=Dl 96
noncomputable abbrev wS:A4:=Dl 97
noncomputable abbrev wR:A4:=Dl 98
noncomputable abbrev wU:A4:=Dl 99
noncomputable abbrev ae:A4:=Dl 100
noncomputable abbrev zR:A4:=Dl 101
noncomputable abbrev yD:A4:=Dl 103
noncomputable abbrev wT:A4:=Dl 104
noncomputable abbrev yC:A4:=Dl 105
noncomputable abbrev iE:A4:=Dl 106
section
variable {P:AX}{w:Bj}{K:Ac}{mg:Str->Option Ad}{base:BU}
noncomputable def Me:List (Str×Int):=[("num",0),("box",0),("late",0),("door",0),("not",1),("and",2),("or",2),("xor",2),("plus",2),("minus",2),("less",2),("same",2),("pick",3),("join",2),("part",1)]
theorem Zcy:Me.lookup ("num":Str)=some 0:=by nofun
theorem ZcA:Me.lookup ("box":Str)=some 0:=by nofun
theorem ZbZ:Me.lookup ("late":Str)=some 0:=by nofun
theorem Zc1:Me.lookup ("door":Str)=some 0:=by nofun
theorem Zcz:Me.lookup ("not":Str)=some 1:=by nofun
theorem ZcC:Me.lookup ("and":Str)=some 2:=by nofun
theorem ZdF:Me.lookup ("or":Str)=some 2:=by nofun
theorem Zcx:Me.lookup ("xor":Str)=some 2:=by nofun
theorem ZbV:Me.lookup ("plus":Str)=some 2:=by nofun
theorem ZbC:Me.lookup ("minus":Str)=some 2:=by nofun
theorem ZbY:Me.lookup ("less":Str)=some 2:=by nofun
theorem ZbU:Me.lookup ("same":Str)=some 2:=by nofun
theorem ZbW:Me.lookup ("pick":Str)=some 3:=by nofun
theorem Zc0:Me.lookup ("join":Str)=some 2:=by nofun
theorem ZbX:Me.lookup ("part":Str)=some 1:=by nofun
structure DF (K:Ac)(mg:Str->Option Ad)(x:Str)(st:A4)(ps:List Str) where
 f:Ao
 g:B9
 d:Df K mg x st ps f g
structure DM (K:Ac)(C:Ao)(m qual:Str)(st:A4)(ps:List Str) where
 f:Ao
 g:B9
 d:Mf K C m qual st ps f g
set_option genInjectivity false in
set_option genSizeOf false in
structure Tx (K:Ac)(w:Bj)(mg:Str->Option Ad) where
 C_Known:Ao
 cl_Known:Ot K C_Known
 mgc_Known:mg "Known" = some (.ref C_Known)
 na_Known_row:Eb K C_Known "row"
 na_Known_marks:Eb K C_Known "marks"
 na_Known_spans:Eb K C_Known "spans"
 x0:DF K mg "is_width" vG ["number"]
 x1:DF K mg "fits" pS ["width", "number"]
 x2:DF K mg "check_width" ag ["number"]
 x3:DF K mg "check_word" yQ ["width", "number"]
 x4:DF K mg "cut" nX ["width", "number"]
 x5:DF K mg "bits_of" uP ["width", "word"]
 x6:DF K mg "held_terms" yS ["term"]
 x7:DF K mg "size_of" uT ["T"]
 x8:DF K mg "width_of" vM ["T", "boxes", "doors"]
 x9:DF K mg "checked_width" cw ["term", "boxes", "doors"]
 x10:DF K mg "checked_num" ah ["width", "word"]
 x11:DF K mg "width_named" aj ["widths", "name"]
 x12:DF K mg "check_own" wV ["term", "widths"]
 x13:DF K mg "check_part" yO ["low", "many", "width"]
 x14:DF K mg "check_join" yK ["width"]
 x15:DF K mg "check_like" yL ["width", "other"]
 x16:DF K mg "width_over" zC ["term", "widths"]
 x17:DF K mg "reads" rT ["T"]
 x18:DF K mg "leaves_of" wX ["term"]
 x19:DF K mg "names_in" vI ["leaves", "form"]
 x20:DF K mg "marks_of" vH ["span"]
 x21:DF K mg "unknown_span" bb ["width"]
 x22:DF K mg "with_mark" xT ["span", "place", "mark"]
 x23:DF K mg "span_of" uU ["term", "spans"]
 x24:DF K mg "span_over" xQ ["term", "held"]
 x25:DF K mg "span_of_two" ai ["form", "one", "other"]
 x26:DF K mg "doubt" rR ["span"]
 x27:DF K mg "doubted" uQ ["width", "word", "unknown"]
 x28:DF K mg "not_span" vJ ["span"]
 x29:DF K mg "sum_span" vK ["one", "other", "carry"]
 x30:DF K mg "less_span" wY ["one", "other"]
 x31:DF K mg "same_span" xE ["one", "other"]
 x32:DF K mg "pick_span" xB ["chosen", "one", "other"]
 x33:DF K mg "join_span" wW ["one", "other"]
 x34:DF K mg "part_span" xA ["span", "low", "many"]
 x35:DF K mg "made" pT ["boxes", "doors", "rules"]
 x36:DF K mg "check_many" yM ["things", "most", "called"]
 x37:DF K mg "is_name" uR ["text"]
 x38:DF K mg "take_name" xR ["name", "taken"]
 x39:DF K mg "check_once" yN ["name", "taken"]
 x40:DF K mg "checked_boxes" cu ["boxes", "taken"]
 x41:DF K mg "checked_doors" cv ["doors", "taken"]
 x42:DF K mg "check_rule" yP ["rule", "taken", "box_widths", "door_widths"]
 x43:DF K mg "rule_of" uS ["works", "name"]
 x44:DF K mg "rule_names" zB ["works"]
 x45:DF K mg "widths_of" xS ["works"]
 x46:DF K mg "asked_bits" yH ["works", "one", "other"]
 x47:DF K mg "shared" tD ["names", "others"]
 x48:DF K mg "unshared" vL ["names", "others"]
 x49:DF K mg "bits_named" yI ["sort", "names", "widths"]
 x50:DM K C_Known "__init__" "Known.__init__" b9 ["self", "row"]
 mk_Known:Mk K C_Known x50.f
 x51:DM K C_Known "learn" "Known.learn" zQ ["self", "mark"]
 x52:DM K C_Known "forget" "Known.forget" az ["self"]
 x53:DM K C_Known "know" "Known.know" yA ["self", "many"]
 x54:DM K C_Known "go_on" "Known.go_on" zP ["self", "guards"]
 x55:DM K C_Known "settled_at" "Known.settled_at" eh ["self", "many", "guards"]
 x56:DM K C_Known "put" "Known.put" wQ ["self", "number", "mark"]
 x57:DM K C_Known "turn" "Known.turn" yB ["self"]
 x58:DM K C_Known "guard_marks" "Known.guard_marks" fb ["self", "guards"]
 x59:DM K C_Known "guard_mark" "Known.guard_mark" d9 ["self", "guard", "sort"]
 x60:DM K C_Known "both_words" "Known.both_words" dr ["self"]
 x61:DM K C_Known "low_words" "Known.low_words" fe ["self", "sort"]
 x62:DF K mg "never_both" yU ["works", "one", "other"]
 x63:DF K mg "written" uV ["works", "name"]
 x64:DF K mg "read_early" zA ["works", "name"]
 x65:DF K mg "read_late" xC ["works", "name"]
 x66:DF K mg "boxes_read" yJ ["rule", "number"]
 x67:DF K mg "clash" rQ ["works", "ahead", "behind"]
 x68:DF K mg "clashes_of" yR ["works", "order"]
 x69:DF K mg "check_order" af ["works", "order"]
 x70:DF K mg "clashing" vF ["works", "ahead", "names"]
 x71:DF K mg "are_paired" yG ["pairs", "one", "other"]
 x72:DF K mg "rivals_of" xD ["works", "clashes", "name"]
 x73:DF K mg "ahead_of" vE ["names", "name"]
 x74:DF K mg "needs" rS ["works", "order"]
 x75:DF K mg "needs_with" yT ["works", "order", "clashes"]
 x76:DF K mg "needed_by" wZ ["works", "order", "clashes", "name"]
 x77:DF K mg "_law_cell_at" ba ["script", "k"]
 x78:DF K mg "_law_whole" yE ["found"]
 x79:DF K mg "_law_name" wS ["number", "k"]
 x80:DF K mg "_law_leaf" wR ["number", "want", "boxes", "doors"]
 x81:DF K mg "_law_term" wU ["number", "want", "deep", "boxes", "doors"]
 x82:DF K mg "_law_writes" ae ["number", "boxes", "doors"]
 x83:DF K mg "_law_things" zR ["script", "mods", "most_doors", "most_rules"]
 x84:DF K mg "_law_order" yD ["number", "rules"]
 x85:DF K mg "_law_read" wT ["term", "word"]
 x86:DF K mg "_law_needs" yC ["rules", "order", "pairs"]
 x87:DF K mg "law" iE ["script"]
 t_WIDEST:Tok
 m_WIDEST:mg "WIDEST" = some (.int 64 t_WIDEST)
 t_MOST_PARTS:Tok
 m_MOST_PARTS:mg "MOST_PARTS" = some (.int 100 t_MOST_PARTS)
 t_MOST_DEEP:Tok
 m_MOST_DEEP:mg "MOST_DEEP" = some (.int 12 t_MOST_DEEP)
 t_MOST_BOXES:Tok
 m_MOST_BOXES:mg "MOST_BOXES" = some (.int 12 t_MOST_BOXES)
 t_MOST_DOORS:Tok
 m_MOST_DOORS:mg "MOST_DOORS" = some (.int 6 t_MOST_DOORS)
 t_MOST_RULES:Tok
 m_MOST_RULES:mg "MOST_RULES" = some (.int 8 t_MOST_RULES)
 t_MOST_WRITES:Tok
 m_MOST_WRITES:mg "MOST_WRITES" = some (.int 6 t_MOST_WRITES)
 t_LONGEST_NAME:Tok
 m_LONGEST_NAME:mg "LONGEST_NAME" = some (.int 8 t_LONGEST_NAME)
 t_MOST_CUBES:Tok
 m_MOST_CUBES:mg "MOST_CUBES" = some (.int 64 t_MOST_CUBES)
 h_HELD:Ao
 m_HELD:mg "HELD" = some (.ref h_HELD)
 T_HELD:TabOk K w h_HELD Me
 B:Blt mg
abbrev Ok (P:AX)(w:Bj)(K:Ac)(mg:Str->Option Ad)(base:BU)(k:Nat)(f:Ao)(fd:B9)(ps:List Str)(sp:DW):Prop:=FnOk P w K mg base CX0 k f fd ps (lSp K sp)
abbrev Tv (P:AX)(w:Bj)(K:Ac)(mg:Str->Option Ad)(base:BU):=Tx K w mg
abbrev Od (_:Tv P w K mg base){x:Str}{st:A4}{ps:List Str}(d:DF K mg x st ps)(k:Nat)(sp:DW):Prop:=Ok P w K mg base k d.f d.g ps sp
abbrev Om (_:Tv P w K mg base){C:Ao}{m qual:Str}{st:A4}{ps:List Str}(d:DM K C m qual st ps)(k:Nat)(sp:DW):Prop:=Ok P w K mg base k d.f d.g ps sp
variable (T:Tv P w K mg base)
attribute[local method_specs_simp]Zcy ZcA ZbZ Zc1 Zcz ZcC ZdF Zcx ZbV ZbC ZbY ZbU ZbW Zc0 ZbX
def xV:DW:=λds M Q=>Gx ds λx=>E4 x λn=>Q (.bl (decide (1<=n/\n<=64))) M
theorem ZkC:Od T T.x0 1 xV:=by
 refine Co.p1 T.x0.d.F ["number"] λx M Q hr nN h1=>?_;obtain⟨n,rfl,q⟩:=CY h1;refine⟨_,(qO (CH (N9 QD QD Ak (qv 0) (Ir T.m_WIDEST)))),?_⟩;right;refine CD (λc=>?_) λc=>?_
 .rw[show decide (1<=n/\n<=64)=decide (n<=64) by simp[c]]at q;exact Dn.of q
 .rw[show decide (1<=n/\n<=64)=false by simp;intro h;ext]at q;exact Dn.of q
theorem yj (w:Nat)(h0:0<=n):Ep n<=w↔n<2^w:=by
 unfold Ep;by_cases hz:n=0
 .subst hz;have:(0:Int)<2^w:=Qb (by decide);simp[this]
 .have hz':(n == 0)=false:=by simpa using hz
  rw[hz'];have ha:n.natAbs≠0:=by ext
  have hl:=Nat.log2_lt (n:=n.natAbs) (k:=w) ha;have e:((2^w:Nat):Int)=(2:Int)^w:=by simp
  constructor
  .intro h;have h0:n.natAbs.log2+1<=w:=by simpa using h
   have h1:=hl.mp h0;ext
  .intro h;have h1:n.natAbs<2^w:=by ext
   have h2:n.natAbs.log2+1<=w:=hl.mpr h1;simpa using h2
def rF:DW:=λds M Q=>FI ds λx y=>E4 x λw=>E4 y λn=>0<=w/\Q (.bl (decide (0<=n/\n<2^w.toNat))) M
theorem uo:Od T T.x1 1 rF:=by
 refine Co.p2 T.x1.d.F ["width", "number"] λx y M Q hr nN h1=>?_;obtain⟨wd,rfl,h2⟩:=CY h1;obtain⟨n,rfl,hw,q⟩:=CY h2;refine⟨_,(qO (CH (R5 (JI XJ (qv 1) Ak) (N8 (JI QD (Ul PySem.F.plainAttrs_int PySem.F.slot_int_bit_length PySem.F.type_int_bit_length ma (qv 1)) (qv 0)))))),?_⟩;right;refine CD (λc=>?_) λc=>?_
 .have c':0<=n:=by simpa using c
  have hb:=yj wd.toNat c'
  rw [show decide (0<=n/\n<2^wd.toNat)=decide ((Ep n:Int)<=wd) by
   rw[Dt,decide_eq_true_iff,decide_eq_true_iff];constructor
   .intro h;have:=hb.mpr h.2;ext
   .intro h;exact ⟨c',hb.mp (by ext)⟩] at q
  exact Dn.of q
 .have c':¬ 0<=n:=by simpa using c
  rw[show decide (0<=n/\n<2^wd.toNat)=false by simp;intro h;ext]at q;exact Dn.of q
attribute[local method_specs_simp ↓]xV
def gc:DW:=λds M Q=>Gx ds λx=>E4 x λw=>(1<=w/\w<=64)/\Q .non M
theorem lN:Od T T.x2 2 gc:=by
 refine Co.p1 T.x2.d.F ["number"] λx M Q hr nN h1=>?_;symm;obtain⟨wd,e1',⟨a1,a2⟩,q⟩:=CY h1;cutsat;subst e1';refine⟨_,(qO (ED (Lw (GL (Ay T.x0.d (ZkC T) nofun (qA (qv 0) qN)))) (qO Pe) qE)),?_⟩;right;refine CD (λc=>?_) λc=>Dn.of q;simp[a1,a2]at c
attribute[local method_specs_simp ↓]rF
def dh:DW:=λds M Q=>FI ds λx y=>E4 x λw=>E4 y λn=>(1<=w/\0<=n/\n<2^w.toNat)/\Q .non M
theorem zN:Od T T.x3 2 dh:=by
 refine Co.p2 T.x3.d.F ["width", "number"] λx y M Q hr nN h1=>?_;obtain⟨wd,rfl,h2⟩:=CY h1;symm;obtain⟨n,e1',⟨a1,a3,a4⟩,q⟩:=CY h2;cutsat;subst e1';refine⟨_,(qO (ED (Lw (GL (Ay T.x1.d (uo T) nofun (qA (qv 0) (qA (qv 1) qN))))) (qO Pe) qE)),?_⟩;right;refine⟨by ext,CD (λc2=>?_) λc2=>Dn.of q⟩;simp[a3,a4]at c2
theorem wq (h:a<=b):(2:Int)^a<=2^b:=by
 have h1:=Nat.pow_le_pow_right (n:=2) (by decide) h;have e:∀k,((2^k:Nat):Int)=(2:Int)^k:=λk=>by simp
 rw[<- e,<- e];exact WN.mpr h1
theorem Wb (w):(0:Int)<2^w:=Qb (by decide)
def tH:DW:=λds M Q=>FI ds λx y=>E4 x λw=>E4 y λn=>(0<=w/\w<=1000)/\Q (.int (n%2^w.toNat)) M
theorem UH:Od T T.x4 1 tH:=by
 refine Co.p2 T.x4.d.F ["width", "number"] λx y M Q hr nN h1=>?_;obtain⟨wd,rfl,h2⟩:=CY h1;symm;obtain⟨n,e1',⟨h0,h64⟩,q⟩:=CY h2;cutsat;subst e1';refine⟨_,(qO (CH (BG Ha (qv 1) (BG VS Ak (Cv (nJ rfl) T.B.max boot_max (qA (qv 0) (qA Ak qN))))))),?_⟩;right;rw[if_neg (by omega:¬ 0 > wd),Ng];exact⟨⟨h0,by ext,by decide⟩,Qb (by decide),Dn.of q⟩
noncomputable def HK (w:Nat)(x:Int):List Int:=(Bu w).map λk=>x / 2^k%2
noncomputable def weight:List Int->Int
 |[]=>0
 |b::r=>b+2*weight r
theorem tS (w:Nat)(x:Int):(HK w x).length=w:=by unfold HK;rw[Ab,Ce]
theorem Zn5 (w)(x):HK (w+1) x=x%2::HK w (x / 2):=by
 unfold HK;rw[EF,AQ,BA];congr 1
 .simp
 .apply Dq;intro k _;show x / 2^(k+1)%2=x / 2 / 2^k%2;rw[F1,WO,Int.ediv_ediv_of_nonneg (by decide)]
theorem Zn6 (w:Nat)(x:Int):HK (w+1) x=HK w x++[x / 2^w%2]:=by
 unfold HK;rw[RJ,AI];rfl
def vO:DW:=λds M Q=>FI ds λx y=>E4 x λw=>E4 y λn=>(0<=w/\w<=64)/\∀p,M p=none->Q (.ref p) (put M p (.lst ((HK w.toNat n).map D.int)))
theorem wF:Od T T.x5 1 vO:=by
 refine Co.p2 T.x5.d.F ["width", "word"] λx y M Q hr nN h1=>?_;obtain⟨wd,rfl,h2⟩:=CY h1;symm;obtain⟨n,e1',⟨h0,h64⟩,q⟩:=CY h2;cutsat;subst e1';refine⟨_,(qO (CH (XC (caps:=[("word",1)]) ⟨rfl,by rfl,by rfl,by rfl,rfl,by rfl,by nofun⟩ rfl (aV T.B.range (qA (qv 0) qN)) (λ_ _ _ _ _ _=>(BG Tr (BG hX (qv 1) (qv 0)) Ak))))),?_⟩;right;refine⟨by ext,by rw[V5];exact GK (by ext),λi ys M'=>M'=M/\ys=(HK i n).map D.int,⟨rfl,rfl⟩,?_,?_,?_⟩
 .rintro i ys M' ⟨rfl,rfl⟩;exact⟨trivial,by rw[Ab,tS];exact AJ _⟩
 .rintro i x ys M' hx ⟨rfl,rfl⟩;obtain⟨hi,rfl⟩:=Yi hx;walk_at "cap";refine⟨by ext,?_⟩;rw[Zn6,AI]
  have e:AD (n / 2^((0:Int)+(i:Int)).toNat) 1=n / 2^i%2:=by
   rw[show((0:Int)+(i:Int)).toNat=i by ext];exact PySem.W.kbt_mask (n / 2^i) 1
  rw[e];rfl
 .rintro ys M' ⟨rfl,rfl⟩ p hp;rw[V5];exact Dn.of (q p hp)
inductive FE where
 |and | or | xor | plus | minus | less | same | join
noncomputable def FE.nm:FE->Str
 |.and=>"and" |.or=>"or" |.xor=>"xor" |.plus=>"plus" |.minus=>"minus" |.less=>"less" |.same=>"same" |.join=>"join"
inductive Tm where
 |num (w n:Int) | box (x:Str) | late (x:Str) | door (x:Str)
 |not (t:Tm) | bin (o:FE) (t u:Tm) | pick (c t u:Tm) | part (t:Tm) (lo many:Int)
noncomputable def Tm.D:Tm->D
 |.num w n=>.tup [.str "num",.int w,.int n]
 |.box x=>.tup [.str "box",.str x]
 |.late x=>.tup [.str "late",.str x]
 |.door x=>.tup [.str "door",.str x]
 |.not t=>.tup [.str "not",t.D]
 |.bin o t u=>.tup [.str o.nm,t.D,u.D]
 |.pick c t u=>.tup [.str "pick",c.D,t.D,u.D]
 |.part t lo many=>.tup [.str "part",t.D,.int lo,.int many]
noncomputable def Tm.kids:Tm->List Tm
 |.not t=>[t]
 |.bin _ t u=>[t,u]
 |.pick c t u=>[c,t,u]
 |.part t _ _=>[t]
 |_=>[]
noncomputable def Tm.parts:Tm->Nat
 |.not t=>t.parts+1
 |.bin _ t u=>t.parts+u.parts+1
 |.pick c t u=>c.parts+t.parts+u.parts+1
 |.part t _ _=>t.parts+1
 |_=>1
noncomputable def Tm.deep:Tm->Nat
 |.not t=>t.deep+1
 |.bin _ t u=>max t.deep u.deep+1
 |.pick c t u=>max c.deep (max t.deep u.deep)+1
 |.part t _ _=>t.deep+1
 |_=>1
theorem FE.nm_inj {a b:FE}(h:a.nm=b.nm):a=b:=by
 cases a<;>cases b<;>first | rfl | exact absurd h (by nofun)
theorem FE.nm_ne {o:FE}:o.nm≠"num"/\o.nm≠"box"/\o.nm≠"late"/\o.nm≠"door"/\o.nm≠"not"/\o.nm≠"pick"/\o.nm≠"part":=by cases o<;>nofun
theorem Tm.D_inj:∀{t u:Tm},t.D=u.D->t=u
 |.num a b,.num c d,h=>by simp[Tm.D]at h;rw[h.1,h.2]
 |.box x,.box y,h=>by simp[Tm.D]at h;rw[h]
 |.late x,.late y,h=>by simp[Tm.D]at h;rw[h]
 |.door x,.door y,h=>by simp[Tm.D]at h;rw[h]
 |.not t,.not u,h=>by simp[Tm.D]at h;rw[Tm.D_inj h]
 |.bin o t u,.bin o' t' u',h=>by simp[Tm.D]at h;rw[FE.nm_inj h.1,Tm.D_inj h.2.1,Tm.D_inj h.2.2]
 |.pick c t u,.pick c' t' u',h=>by simp[Tm.D]at h;rw[Tm.D_inj h.1,Tm.D_inj h.2.1,Tm.D_inj h.2.2]
 |.part t a b,.part t' a' b',h=>by simp[Tm.D]at h;rw[Tm.D_inj h.1,h.2.1,h.2.2]
 |.num _ _,.box _,h | .num _ _,.late _,h | .num _ _,.door _,h | .num _ _,.not _,h | .num _ _,.pick _ _ _,h | .num _ _,.part _ _ _,h=>by simp[Tm.D]at h
 |.num _ _,.bin o _ _,h=>by simp[Tm.D]at h;exact absurd h.1.symm FE.nm_ne.1
 |.box _,.num _ _,h | .box _,.bin _ _ _,h | .box _,.pick _ _ _,h | .box _,.part _ _ _,h=>by simp[Tm.D]at h
 |.late _,.num _ _,h | .late _,.bin _ _ _,h | .late _,.pick _ _ _,h | .late _,.part _ _ _,h=>by simp[Tm.D]at h
 |.door _,.num _ _,h | .door _,.bin _ _ _,h | .door _,.pick _ _ _,h | .door _,.part _ _ _,h=>by simp[Tm.D]at h
 |.box _,.not _,h | .late _,.not _,h | .door _,.not _,h | .box _,.late _,h | .box _,.door _,h | .late _,.box _,h | .late _,.door _,h | .door _,.box _,h | .door _,.late _,h=>by simp[Tm.D]at h;exact absurd h.1 (by nofun)
 |.not _,.num _ _,h | .not _,.bin _ _ _,h | .not _,.pick _ _ _,h | .not _,.part _ _ _,h=>by simp[Tm.D]at h
 |.not _,.box _,h | .not _,.late _,h | .not _,.door _,h=>by simp[Tm.D]at h;exact absurd h.1 (by nofun)
 |.bin o _ _,.num _ _,h=>by simp[Tm.D]at h;exact absurd h.1 FE.nm_ne.1
 |.bin _ _ _,.box _,h | .bin _ _ _,.late _,h | .bin _ _ _,.door _,h | .bin _ _ _,.not _,h | .bin _ _ _,.pick _ _ _,h | .bin _ _ _,.part _ _ _,h=>by simp[Tm.D]at h
 |.pick _ _ _,.num _ _,h | .pick _ _ _,.box _,h | .pick _ _ _,.late _,h | .pick _ _ _,.door _,h | .pick _ _ _,.not _,h | .pick _ _ _,.bin _ _ _,h=>by simp[Tm.D]at h
 |.pick _ _ _,.part _ _ _,h=>by simp[Tm.D]at h;exact absurd h.1 (by nofun)
 |.part _ _ _,.num _ _,h | .part _ _ _,.box _,h | .part _ _ _,.late _,h | .part _ _ _,.door _,h | .part _ _ _,.not _,h | .part _ _ _,.bin _ _ _,h=>by simp[Tm.D]at h
 |.part _ _ _,.pick _ _ _,h=>by simp[Tm.D]at h;exact absurd h.1 (by nofun)
open Classical in
noncomputable def IG (x:D):Option Tm:=if h:∃t,t.D=x then some h.choose else none
theorem Zcw (t):IG t.D=some t:=by
 have h:∃u:Tm,u.D=t.D:=⟨t,rfl⟩;unfold IG;rw[dif_pos h,Tm.D_inj h.choose_spec]
theorem xw (h:IG x=some t):x=t.D:=by
 unfold IG at h;split at h
 .next e=>cases h;exact e.choose_spec.symm
 .cases h
theorem Oi {x:D}{k:Tm->Prop}(h:Cp (IG x) k):∃t,x=t.D/\k t:=by
 obtain⟨t,e,q⟩:=Cn h;exact⟨t,xw e,q⟩
theorem Tm.deep_pos (t:Tm):1<=t.deep:=by cases t<;>simp[Tm.deep]
theorem Tm.deep_kid {t k:Tm}(h:k∈t.kids):k.deep+1<=t.deep:=by
 cases t<;>simp[Tm.kids]at h<;>simp only[Tm.deep]
 .subst h;ext
 .rcases h with rfl|rfl<;>ext
 .rcases h with rfl|rfl|rfl<;>ext
 .subst h;ext
noncomputable def E5:List Tm->Nat
 |[]=>0
 |t::r=>t.parts+E5 r
noncomputable def FJ:List Tm->Nat
 |[]=>0
 |t::r=>max t.deep (FJ r)
theorem bi (t:Tm):∀l,E5 (l++[t])=E5 l+t.parts
 |[]=>by simp[E5]
 |x::r=>by rw[Ei,E5,E5,bi t r];ext
theorem yX (t:Tm):∀l,FJ (l++[t])=max (FJ l) t.deep
 |[]=>by simp[FJ]
 |x::r=>by rw[Ei,FJ,FJ,yX t r];ext
theorem Tm.parts_eq (t:Tm):t.parts=1+E5 t.kids:=by cases t<;>simp[Tm.parts,Tm.kids,E5]<;>ext
theorem Tm.deep_eq (t:Tm):t.deep=FJ t.kids+1:=by cases t<;>simp[Tm.deep,Tm.kids,FJ]<;>ext
theorem c9 (o:FE):Me.lookup o.nm=some 2:=by cases o<;>nofun
def gi:DW:=λds M Q=>Gx ds λx=>Cp (IG x) λt=>Q (.tup (t.kids.map Tm.D)) M
theorem bK:Od T T.x6 1 gi:=by
 refine Co.p1 T.x6.d.F ["term"] λx M Q hr nN h1=>?_;obtain⟨t,rfl,q⟩:=Oi h1;refine⟨_,(qO (CH (II nY (qv 0) (Tw Ak) (Tw (BG Hu Ak (Bg (oK T.T_HELD) (Qy T.m_HELD) (Bg BE (qv 0) Ak))))))),?_⟩;cases t<;>simp only[Tm.D]<;>right<;>(try simp only[c9])<;>(try grind)<;>exact Dn.of q
def Yw (n:Nat)(ds:List D)(M:Mp)(Q:DV):Prop:=Gx ds λx=>Cp (IG x) λt=>t.deep<=n/\Q (.tup [.int t.parts,.int t.deep]) M
attribute[local method_specs_simp]c9
attribute[local method_specs_simp]Zcw
attribute[local method_specs_simp ↓]gi Yw
theorem Zje {n:Nat}(G_size_of:Od T T.x7 (n+3) (Yw n)):Od T T.x7 (n+4) (Yw (n+1)):=by
 refine Co.p1 T.x7.d.F ["T", "parts", "deepest", "inner", "size"] λx M Q hr nN h1=>?_;obtain⟨t,rfl,hd,q⟩:=Oi h1;refine⟨_,(qC (CC 1 nN Ak) (qC (CC 2 nN Ak) (EW (KZ AK rfl (QV (Ay T.x6.d (bK T) nofun (qA (qv 0) qN))) (Nb (i:=3) nN rfl (B4 rfl)) (qC (CC 4 nN (Ay T.x7.d G_size_of nofun (qA (qv 3) qN))) (qC (CC 1 nN (BG Hu (qv 1) (Bg BE (qv 4) Ak))) (qO (CC 2 nN (Cv (nJ rfl) T.B.max boot_max (qA (qv 2) (qA (Bg BE (qv 4) Ak) qN)))))))) (qO (CH (CG (qA (qv 1) (qA (BG Hu (qv 2) Ak) qN)))))))),?_⟩;right;refine⟨λτ M'=>M'=M/\∃v3 v4,τ=[some t.D,some (.int t.parts),some (.int (t.deep-1)),v3,v4],?_,?_⟩
 .grind;refine⟨λk τ M'=>M'=M/\∃v3 v4,τ=[some t.D,some (.int (1+E5 (t.kids.take k):Nat)),some (.int (FJ (t.kids.take k):Nat)),v3,v4],⟨rfl,none,none,rfl⟩,λ_ _ _ _=>trivial,?_,?_⟩
  .intro k y τ M' hy hI';symm;obtain⟨e1',v3,v4,e2'⟩:=hI';cutsat;subst e1' e2';obtain⟨u,hu,rfl⟩:=Mc hy;have du:=Tm.deep_kid (Aw hu);have e1:t.kids.take (k+1)=t.kids.take k++[u]:=by rw[Ba,hu];rfl
   grind;rw[e1,bi,yX];refine⟨by ext,?_⟩;walk_at "eq";exact⟨by ext,by split<;>ext⟩
  .intro τ M' hI';symm;obtain⟨e1',v3,v4,e2'⟩:=hI';cutsat;subst e1' e2';refine⟨rfl,v3,v4,?_⟩;rw[Ab,Be,<- Tm.parts_eq];have:=Tm.deep_eq t;congr 4
   simp only[D.int.injEq,Ie];ext
 .intro τ M' hI';symm;obtain⟨e1',v3,v4,e2'⟩:=hI';cutsat;subst e1' e2';grind;rw[show(t.deep:Int)-1+1=t.deep by ext];exact Dn.of q
theorem wH (T:Tv P w K mg base):∀n,Od T T.x7 (n+3) (Yw n)
 |0=>by
  have no:∀ds M Q,¬Yw 0 ds M Q:=λds M Q h=>by
   obtain⟨x,rfl,h1⟩:=GN h;obtain⟨t,rfl,hd,q⟩:=Oi h1;have:=t.deep_pos;ext
  exact V9 no
 |n+1=>Zje T (wH T n)
def ar:DW:=λds M Q=>IZ ds λx y z=>E4 x λlo=>E4 y λmany=>E4 z λw=>(0<=lo/\1<=many/\lo+many<=w)/\Q .non M
theorem Zii:Od T T.x13 1 ar:=by
 refine Co.p3 T.x13.d.F ["low", "many", "width"] λx y z M Q hr nN h1=>?_;obtain⟨lo,rfl,h2⟩:=CY h1;obtain⟨many,rfl,h3⟩:=CY h2;symm;obtain⟨wd,e1',⟨a1,a2,a3⟩,q⟩:=CY h3;cutsat;subst e1';refine⟨_,(qO (ED ((Tu (AY Lp (qv 0) Ak) (Tu (AY Lp (qv 1) Ak) (VZ (AY Lq (BG Hu (qv 0) (qv 1)) (qv 2)))))).pt (qO Pe) qE)),?_⟩;right;refine CD (λc=>?_) λc=>CD (λc=>?_) λc=>CD (λc=>?_) λc=>Dn.of q
 .ext
 .ext
 .ext
def am:DW:=λds M Q=>Gx ds λx=>E4 x λw=>w<=64/\Q .non M
theorem Zij:Od T T.x14 1 am:=by
 refine Co.p1 T.x14.d.F ["width"] λx M Q hr nN h1=>?_;obtain⟨wd,rfl,a1,q⟩:=CY h1;refine⟨_,(qO (ED (AY Lq (qv 0) (Ir T.m_WIDEST)) (qO Pe) qE)),?_⟩;right;refine CD (λc=>?_) λc=>Dn.of q;ext
def db:DW:=λds M Q=>FI ds λx y=>E4 x λw=>E4 y λv=>w=v/\Q .non M
theorem YA:Od T T.x15 1 db:=by
 refine Co.p2 T.x15.d.F ["width", "other"] λx y M Q hr nN h1=>?_;obtain⟨wd,rfl,h2⟩:=CY h1;obtain⟨v,rfl,e,q⟩:=CY h2;subst e;refine⟨_,(qO (ED (AY XI (qv 0) (qv 1)) (qO Pe) qE)),?_⟩;right;exact Dn.of q
noncomputable def l1 (f:Int->Option Int)(l:List Int):Option Int:=if l.length=1 then f (l.headD 0)else none
noncomputable def l2 (f:Int->Int->Option Int)(l:List Int):Option Int:=if l.length=2 then f (l.headD 0) (l.tail.headD 0)else none
noncomputable def l3 (f:Int->Int->Int->Option Int)(l:List Int):Option Int:=if l.length=3 then f (l.headD 0) (l.tail.headD 0) (l.tail.tail.headD 0)else none
@[simp] theorem XS :l1 f [a]=f a:=rfl
@[simp] theorem XR :l2 f [a,b]=f a b:=rfl
@[simp] theorem XQ :l3 f [a,b,c]=f a b c:=rfl
noncomputable def FE.ov (o:FE)(a b:Int):Option Int:=if o.nm = "join" then(if a+b<=64 then some (a+b)else none)else if a=b then some (if o.nm = "less"\/o.nm = "same" then 1 else a)else none
@[simp] theorem qK :FE.ov .join a b=if a+b<=64 then some (a+b)else none:=rfl
@[simp] theorem qL :FE.ov .less a b=if a=b then some 1 else none:=rfl
@[simp] theorem qM :FE.ov .same a b=if a=b then some 1 else none:=rfl
theorem ku {o:FE}{a b:Int}(h1:o≠.join)(h2:o≠.less)(h3:o≠.same):o.ov a b=if a=b then some a else none:=by
 cases o<;>first | rfl | exact absurd rfl h1 | exact absurd rfl h2 | exact absurd rfl h3
@[simp] theorem Zwb :FE.ov .and a b=if a=b then some a else none:=rfl
@[simp] theorem Zwc :FE.ov .or a b=if a=b then some a else none:=rfl
@[simp] theorem Zwa :FE.ov .xor a b=if a=b then some a else none:=rfl
@[simp] theorem ZvN :FE.ov .plus a b=if a=b then some a else none:=rfl
@[simp] theorem Zvy :FE.ov .minus a b=if a=b then some a else none:=rfl
noncomputable def Tm.over:Tm->List Int->Option Int
 |.not _=>l1 some
 |.bin o _ _=>l2 o.ov
 |.pick _ _ _=>l3 λc a b=>if c=1/\a=b then some a else none
 |.part _ lo many=>l1 λa=>if 0<=lo/\1<=many/\lo+many<=a then some many else none
 |.num _ _=>λ_=>none
 |.box _=>λ_=>none
 |.late _=>λ_=>none
 |.door _=>λ_=>none
theorem kA {t u:Tm}{a b w:Int}(h:(Tm.bin .join t u).over [a,b]=some w):a+b<=64/\w=a+b:=by
 simp[Tm.over]at h;ext
theorem Yr {o:FE}{t u:Tm}{a b w:Int}(ho:o=.less\/o=.same)(h:(Tm.bin o t u).over [a,b]=some w):a=b/\w=1:=by
 rcases ho with rfl|rfl<;>simp[Tm.over]at h<;>ext
theorem UP {o:FE}{t u:Tm}{a b w:Int}(h1:o≠.join)(h2:o≠.less)(h3:o≠.same)(h:(Tm.bin o t u).over [a,b]=some w):a=b/\w=a:=by
 simp[Tm.over,ku h1 h2 h3]at h;ext
theorem kB {c t u:Tm}{d a b w:Int}(h:(Tm.pick c t u).over [d,a,b]=some w):d=1/\a=b/\w=a:=by
 simp[Tm.over]at h;ext
theorem aU {t:Tm}{lo many a w:Int}(h:(Tm.part t lo many).over [a]=some w):(0<=lo/\1<=many/\lo+many<=a)/\w=many:=by
 simp[Tm.over]at h;ext
theorem ZI {p:Prop}[Decidable p]{x:Option Int}{w:Int}(h:(if p then x else none)=some w):p:=Classical.byContradiction λc=>by rw[if_neg c]at h;cases h
theorem Tm.over_len {t:Tm}{ws:List Int}{w:Int}(h:t.over ws=some w):ws.length=t.kids.length/\t.kids≠[]:=by
 cases t with
 |not _=>exact⟨ZI h,λz=>nomatch z⟩
 |bin _ _ _=>exact⟨ZI h,λz=>nomatch z⟩
 |pick _ _ _=>exact⟨ZI h,λz=>nomatch z⟩
 |part _ _ _=>exact⟨ZI h,λz=>nomatch z⟩
 |_=>cases h
theorem ZbK (o:FE):(o.nm = "part")=False:=eq_false FE.nm_ne.2.2.2.2.2.2
theorem ZbJ (o:FE):(o.nm = "pick")=False:=eq_false FE.nm_ne.2.2.2.2.2.1
theorem ZdC (o:FE):(o.nm = "num")=False:=eq_false FE.nm_ne.1
theorem ZdD (o:FE):(o.nm = "box")=False:=eq_false FE.nm_ne.2.1
theorem ZbL (o:FE):(o.nm = "late")=False:=eq_false FE.nm_ne.2.2.1
theorem ZbM (o:FE):(o.nm = "door")=False:=eq_false FE.nm_ne.2.2.2.1
theorem ZmK:(("num":Str)=("box":Str))=False:=eq_false (by nofun)
theorem ZkV:(("num":Str)=("late":Str))=False:=eq_false (by nofun)
theorem ZkX:(("num":Str)=("door":Str))=False:=eq_false (by nofun)
theorem ZkT:(("num":Str)=("part":Str))=False:=eq_false (by nofun)
theorem ZkW:(("num":Str)=("join":Str))=False:=eq_false (by nofun)
theorem ZkS:(("num":Str)=("pick":Str))=False:=eq_false (by nofun)
theorem ZkU:(("num":Str)=("less":Str))=False:=eq_false (by nofun)
theorem ZkR:(("num":Str)=("same":Str))=False:=eq_false (by nofun)
theorem ZmN:(("box":Str)=("num":Str))=False:=eq_false (by nofun)
theorem Zld:(("box":Str)=("late":Str))=False:=eq_false (by nofun)
theorem Zlf:(("box":Str)=("door":Str))=False:=eq_false (by nofun)
theorem Zlb:(("box":Str)=("part":Str))=False:=eq_false (by nofun)
theorem Zle:(("box":Str)=("join":Str))=False:=eq_false (by nofun)
theorem Zla:(("box":Str)=("pick":Str))=False:=eq_false (by nofun)
theorem Zlc:(("box":Str)=("less":Str))=False:=eq_false (by nofun)
theorem Zl9:(("box":Str)=("same":Str))=False:=eq_false (by nofun)
theorem Zl5:(("late":Str)=("num":Str))=False:=eq_false (by nofun)
theorem Zl6:(("late":Str)=("box":Str))=False:=eq_false (by nofun)
theorem ZjK:(("late":Str)=("door":Str))=False:=eq_false (by nofun)
theorem ZjH:(("late":Str)=("part":Str))=False:=eq_false (by nofun)
theorem ZjJ:(("late":Str)=("join":Str))=False:=eq_false (by nofun)
theorem ZjG:(("late":Str)=("pick":Str))=False:=eq_false (by nofun)
theorem ZjI:(("late":Str)=("less":Str))=False:=eq_false (by nofun)
theorem ZjF:(("late":Str)=("same":Str))=False:=eq_false (by nofun)
theorem Zl7:(("door":Str)=("num":Str))=False:=eq_false (by nofun)
theorem Zl8:(("door":Str)=("box":Str))=False:=eq_false (by nofun)
theorem ZjP:(("door":Str)=("late":Str))=False:=eq_false (by nofun)
theorem ZjN:(("door":Str)=("part":Str))=False:=eq_false (by nofun)
theorem ZjQ:(("door":Str)=("join":Str))=False:=eq_false (by nofun)
theorem ZjM:(("door":Str)=("pick":Str))=False:=eq_false (by nofun)
theorem ZjO:(("door":Str)=("less":Str))=False:=eq_false (by nofun)
theorem ZjL:(("door":Str)=("same":Str))=False:=eq_false (by nofun)
theorem ZmL:(("not":Str)=("num":Str))=False:=eq_false (by nofun)
theorem ZmM:(("not":Str)=("box":Str))=False:=eq_false (by nofun)
theorem Zl2:(("not":Str)=("late":Str))=False:=eq_false (by nofun)
theorem Zl4:(("not":Str)=("door":Str))=False:=eq_false (by nofun)
theorem Zl0:(("not":Str)=("part":Str))=False:=eq_false (by nofun)
theorem Zl3:(("not":Str)=("join":Str))=False:=eq_false (by nofun)
theorem ZkZ:(("not":Str)=("pick":Str))=False:=eq_false (by nofun)
theorem Zl1:(("not":Str)=("less":Str))=False:=eq_false (by nofun)
theorem ZkY:(("not":Str)=("same":Str))=False:=eq_false (by nofun)
theorem ZkN:(("pick":Str)=("num":Str))=False:=eq_false (by nofun)
theorem ZkO:(("pick":Str)=("box":Str))=False:=eq_false (by nofun)
theorem Zjw:(("pick":Str)=("late":Str))=False:=eq_false (by nofun)
theorem Zjy:(("pick":Str)=("door":Str))=False:=eq_false (by nofun)
theorem Zju:(("pick":Str)=("part":Str))=False:=eq_false (by nofun)
theorem Zjx:(("pick":Str)=("join":Str))=False:=eq_false (by nofun)
theorem Zjv:(("pick":Str)=("less":Str))=False:=eq_false (by nofun)
theorem Zjt:(("pick":Str)=("same":Str))=False:=eq_false (by nofun)
theorem ZkP:(("part":Str)=("num":Str))=False:=eq_false (by nofun)
theorem ZkQ:(("part":Str)=("box":Str))=False:=eq_false (by nofun)
theorem ZjC:(("part":Str)=("late":Str))=False:=eq_false (by nofun)
theorem ZjE:(("part":Str)=("door":Str))=False:=eq_false (by nofun)
theorem ZjD:(("part":Str)=("join":Str))=False:=eq_false (by nofun)
theorem ZjA:(("part":Str)=("pick":Str))=False:=eq_false (by nofun)
theorem ZjB:(("part":Str)=("less":Str))=False:=eq_false (by nofun)
theorem Zjz:(("part":Str)=("same":Str))=False:=eq_false (by nofun)
def cx:DW:=λds M Q=>FI ds λx y=>Cp (IG x) λt=>MV M y λws=>(t.over ws).isSome/\Q .non M
attribute[local method_specs_simp]ZmK ZkV ZkX ZkT ZkW ZkS ZkU ZkR ZmN Zld Zlf Zlb Zle Zla Zlc Zl9 Zl5 Zl6 ZjK ZjH ZjJ ZjG ZjI ZjF Zl7 Zl8 ZjP ZjN ZjQ ZjM ZjO ZjL ZmL ZmM Zl2 Zl4 Zl0 Zl3 ZkZ Zl1 ZkY ZkN ZkO Zjw Zjy Zju Zjx Zjv Zjt ZkP ZkQ ZjC ZjE ZjD ZjA ZjB Zjz
attribute[local method_specs_simp]ZbK ZbJ ZdC ZdD ZbL ZbM
attribute[local method_specs_simp ↓]ar am db cx
theorem Zjn:Od T T.x12 2 cx:=by
 refine Co.p2 T.x12.d.F ["term", "widths", "form"] λx y M Q hr nN h1=>?_;obtain⟨t,rfl,h2⟩:=Oi h1;symm;obtain⟨ws,hl,hs,ho,q⟩:=hZ h2;cutsat;obtain⟨w,hw⟩:=Ls.mp ho;obtain⟨hz,hne⟩:=Tm.over_len hw;refine⟨_,(qC (CC 2 nN (Bg BE (qv 0) Ak)) (qO (ED (AY CS (qv 2) BX) (qO (Fb (Ay T.x13.d (Zii T) nofun (qA (Bg BE (qv 0) Ak) (qA (Bg BE (qv 0) Ak) (qA (Bg Hy (qv 1) Ak) qN)))))) (qO (ED (AY CS (qv 2) BX) (qO (Fb (Ay T.x14.d (Zij T) nofun (qA (BG Hu (Bg Hy (qv 1) Ak) (Bg Hy (qv 1) Ak)) qN)))) (qO (ED (AY CS (qv 2) BX) (qC (Fb (Ay T.x15.d (YA T) nofun (qA (Bg Hy (qv 1) Ak) (qA Ak qN)))) (qO (Fb (Ay T.x15.d (YA T) nofun (qA (Bg Hy (qv 1) Ak) (qA (Bg Hy (qv 1) Ak) qN)))))) (qO (ED (AY CS (Bg (oK T.T_HELD) (Qy T.m_HELD) (qv 2)) Ak) (qO (Fb (Ay T.x15.d (YA T) nofun (qA (Bg Hy (qv 1) Ak) (qA (Bg Hy (qv 1) Ak) qN))))) qE))))))))),?_⟩;cases t with
 |num _ _=>exact absurd rfl hne
 |box _=>exact absurd rfl hne
 |late _=>exact absurd rfl hne
 |door _=>exact absurd rfl hne
 |not t=>simp only[Tm.D];right;exact Dn.of q
 |bin o t u=>
  obtain⟨a,b,rfl⟩:∃a b,ws=[a,b]:=by
   match ws,hz with
   |[a,b],_=>exact⟨a,b,rfl⟩
  simp only[Tm.D];right;simp only[hl,AQ,Dx];grind;refine CD (λc=>?_) λc=>?_
  .cases FE.nm_inj (b:=.join) c;exact⟨(kA hw).1,Dn.of q⟩
  .have cj:o≠.join:=λe=>c (by rw[e];rfl);refine⟨?_,Dn.of q⟩;by_cases c1:o=.less\/o=.same
   .exact(Yr c1 hw).1
   .exact(UP cj (λe=>c1 (.inl e)) (λe=>c1 (.inr e)) hw).1
 |pick c t u=>
  obtain⟨d,a,b,rfl⟩:∃d a b,ws=[d,a,b]:=by
   match ws,hz with
   |[d,a,b],_=>exact⟨d,a,b,rfl⟩
  obtain⟨e1,e2,rfl⟩:=kB hw;simp only[Tm.D];right;simp only[hl,AQ,Dx];grind;exact⟨e1,e2,Dn.of q⟩
 |part t lo many=>
  obtain⟨a,rfl⟩:∃a,ws=[a]:=by
   match ws,hz with
   |[a],_=>exact⟨a,rfl⟩
  obtain⟨e1,rfl⟩:=aU hw;simp only[Tm.D];right;simp only[hl,AQ,Dx];grind;exact⟨e1,Dn.of q⟩
def dq:DW:=λds M Q=>FI ds λx y=>Cp (IG x) λt=>MV M y λws=>Cp (t.over ws) λw=>Q (.int w) M
attribute[local method_specs_simp ↓]dq
theorem Zid:Od T T.x16 1 dq:=by
 refine Co.p2 T.x16.d.F ["term", "widths", "form"] λx y M Q hr nN h1=>?_;obtain⟨t,rfl,h2⟩:=Oi h1;obtain⟨ws,hl,hs,ho⟩:=hZ h2;obtain⟨w,hw,q⟩:=Cn ho;obtain⟨hz,hne⟩:=Tm.over_len hw;refine⟨_,(qC (CC 2 nN (Bg BE (qv 0) Ak)) (qC (ED ((Tu (AY CS (qv 2) BX) (VZ (AY CS (qv 2) BX)))).pt (qO (CH Ak)) qE) (qC (ED (AY CS (qv 2) BX) (qO (CH (Bg Hy (qv 1) Ak))) qE) (qC (ED (AY CS (qv 2) BX) (qO (CH (BG Hu (Bg Hy (qv 1) Ak) (Bg Hy (qv 1) Ak)))) qE) (qC (ED (AY CS (qv 2) BX) (qO (CH (Bg BE (qv 0) Ak))) qE) (qO (CH (Bg Hy (qv 1) Ak)))))))),?_⟩;cases t with
 |num _ _=>exact absurd rfl hne
 |box _=>exact absurd rfl hne
 |late _=>exact absurd rfl hne
 |door _=>exact absurd rfl hne
 |not t=>
  obtain⟨a,rfl⟩:∃a,ws=[a]:=by
   match ws,hz with
   |[a],_=>exact⟨a,rfl⟩
  have e:a=w:=by simpa[Tm.over]using hw
  subst e;simp only[Tm.D];right;simp only[hl,AQ,Dx];grind;exact Dn.of q
 |bin o t u=>
  obtain⟨a,b,rfl⟩:∃a b,ws=[a,b]:=by
   match ws,hz with
   |[a,b],_=>exact⟨a,b,rfl⟩
  simp only[Tm.D];right;simp only[hl,AQ,Dx];grind;refine CD (λc=>?_) λc=>CD (λc2=>?_) λc2=>CD (λc3=>?_) λc3=>?_
  .cases FE.nm_inj (b:=.less) c;cases(Yr (.inl rfl) hw).2;exact Dn.of q
  .cases FE.nm_inj (b:=.same) c2;cases(Yr (.inr rfl) hw).2;exact Dn.of q
  .cases FE.nm_inj (b:=.join) c3;cases(kA hw).2;exact Dn.of q
  .cases(UP (λe=>c3 (by rw[e];rfl)) (λe=>c (by rw[e];rfl)) (λe=>c2 (by rw[e];rfl)) hw).2;exact Dn.of q
 |pick c t u=>
  obtain⟨d,a,b,rfl⟩:∃d a b,ws=[d,a,b]:=by
   match ws,hz with
   |[d,a,b],_=>exact⟨d,a,b,rfl⟩
  obtain⟨e1,e2,rfl⟩:=kB hw;simp only[Tm.D];right;simp only[hl,AQ,Dx];grind;exact Dn.of q
 |part t lo many=>
  obtain⟨a,rfl⟩:∃a,ws=[a]:=by
   match ws,hz with
   |[a],_=>exact⟨a,rfl⟩
  obtain⟨e1,rfl⟩:=aU hw;simp only[Tm.D];right;exact Dn.of q
attribute[local method_specs_simp ↓]gc dh
def bd:DW:=λds M Q=>FI ds λx y=>E4 x λw=>E4 y λn=>(1<=w/\w<=64/\0<=n/\n<2^w.toNat)/\Q (.int w) M
theorem Zhf:Od T T.x10 3 bd:=by
 refine Co.p2 T.x10.d.F ["width", "word"] λx y M Q hr nN h1=>?_;obtain⟨wd,rfl,h2⟩:=CY h1;symm;obtain⟨n,e1',⟨a1,a2,a3,a4⟩,q⟩:=CY h2;cutsat;subst e1';refine⟨_,(qC (Fb (Ay T.x2.d (lN T) nofun (qA (qv 0) qN))) (qC (Fb (Ay T.x3.d (zN T) nofun (qA (qv 0) (qA (qv 1) qN)))) (qO (CH (qv 0))))),?_⟩;right;refine⟨⟨a1,a2⟩,⟨a1,a3,a4⟩,?_⟩;exact Dn.of q
noncomputable def Fj (ws:List (Str×Int)):List (B7×D):=ws.map λp=>(.inr p.1,.int p.2)
noncomputable def MN:List (B7×D)->Option (List (Str×Int))
 |[]=>some []
 |(.inr z,.int n)::r=>(MN r).map ((z,n)::·)
 |_::_=>none
theorem iP:∀ws,MN (Fj ws)=some ws
 |[]=>rfl
 |(z,n)::r=>by
  show(MN (Fj r)).map ((z,n)::·)=_;rw[iP r];rfl
theorem jM:∀{AR:List (B7×D)}{ws:List (Str×Int)},MN AR=some ws->AR=Fj ws
 |[],ws,h=>by cases h;rfl
 |(.inr z,.int n)::r,ws,h=>by
  rw[MN]at h;cases e:MN r with
  |none=>rw[e]at h;cases h
  |some us=>rw[e]at h;cases h;rw[jM e];rfl
 |(.inl z,_)::r,ws,h=>by cases h
 |(.inr z,.str _)::r,ws,h=>by cases h
 |(.inr z,.bl _)::r,ws,h=>by cases h
 |(.inr z,.non)::r,ws,h=>by cases h
 |(.inr z,.tup _)::r,ws,h=>by cases h
 |(.inr z,.lst _)::r,ws,h=>by cases h
 |(.inr z,.dic _)::r,ws,h=>by cases h
 |(.inr z,.ref _)::r,ws,h=>by cases h
theorem jL (z:Str):∀ws,Du (Fj ws) (.inr z)=(ws.lookup z).map D.int
 |[]=>rfl
 |(y,n)::r=>by
  by_cases h:y=z
  .subst h;simp[Du,Fj,BK]
  .have h2:(z == y)=false:=by simpa using λe=>h e.symm
   have h3:Du (Fj ((y,n)::r)) (.inr z)=Du (Fj r) (.inr z):=by simp[Du,Fj,Ct,h]
   rw[h3,jL z r,BK,h2]
def JJ (M:Mp)(x:D)(k:List (Str×Int)->Prop):Prop:=Cp (DU M x) λAR=>Cp (MN AR) k
theorem UA {M:Mp}{x:D}{k:List (Str×Int)->Prop}(h:JJ M x k):∃ws,DU M x=some (Fj ws)/\k ws:=by
 obtain⟨AR,e,h1⟩:=Cn h;obtain⟨ws,e2,q⟩:=Cn h1;rw[jM e2]at e;exact⟨ws,e,q⟩
theorem X8 {M:Mp}{x:D}{ws:List (Str×Int)}{k:List (Str×Int)->Prop}(e:DU M x=some (Fj ws)):JJ M x k=k ws:=by unfold JJ;rw[e,BW,iP,BW]
theorem Zch :JJ M (.dic (Fj ws)) k=k ws:=X8 rfl
def fj:DW:=λds M Q=>FI ds λx y=>JJ M x λws=>Gh y λz=>Cp (ws.lookup z) λn=>Q (.int n) M
theorem lP:Od T T.x11 1 fj:=by
 refine Co.p2 T.x11.d.F ["widths", "name"] λx y M Q hr nN h1=>?_;obtain⟨ws,hx,h2⟩:=UA h1;obtain⟨z,rfl,h3⟩:=Ea h2;obtain⟨n,hz,q⟩:=Cn h3;refine⟨_,(qC (ED (AY (ς (Kj hr)) (qv 1) (qv 0) (by with_unfolding_all rfl)) (qO Pe) qE) (qO (CH (Fl (Kj hr) (qv 0) (qv 1) (λ_ _=>rfl))))),?_⟩;right;simp only[hx,BW,jE,jL,hz,G0,Ow,if_true,Jg,HC,if_false];exact Dn.of q
inductive Wd (bs ds:List (Str×Int)):Tm->Int->Prop
 |num {w n:Int}:(1<=w/\w<=64/\0<=n/\n<2^w.toNat)->Wd bs ds (.num w n) w
 |box {x:Str} {w:Int}:bs.lookup x=some w->Wd bs ds (.box x) w
 |late {x:Str} {w:Int}:bs.lookup x=some w->Wd bs ds (.late x) w
 |door {x:Str} {w:Int}:ds.lookup x=some w->Wd bs ds (.door x) w
 |over {t:Tm} {ws:List Int} {w:Int}:(∀(i:Nat) (k:Tm) (a:Int),t.kids[i]? = some k->ws[i]? = some a->Wd bs ds k a)->t.over ws=some w->Wd bs ds t w
noncomputable def Tm.form:Tm->Str
 |.num _ _=>"num" |.box _=>"box" |.late _=>"late" |.door _=>"door" |.not _=>"not" |.bin o _ _=>o.nm | .pick _ _ _=>"pick" |.part _ _ _=>"part"
theorem lF (t:Tm){M:Mp}{Q:DV}:LZ t.D (.int 0) M Q=Q (.str t.form) M:=by cases t<;>rfl
theorem Tm.form_ne {t:Tm}(h:t.kids≠[]):t.form≠"num"/\t.form≠"box"/\t.form≠"late"/\t.form≠"door":=by
 cases t with
 |num _ _=>exact absurd rfl h
 |box _=>exact absurd rfl h
 |late _=>exact absurd rfl h
 |door _=>exact absurd rfl h
 |bin o _ _=>exact⟨FE.nm_ne.1,FE.nm_ne.2.1,FE.nm_ne.2.2.1,FE.nm_ne.2.2.2.1⟩
 |_=>refine⟨?_,?_,?_,?_⟩<;>dsimp only[Tm.form]<;>nofun
theorem Tm.kids_le (t:Tm):t.kids.length<=3:=by cases t<;>simp[Tm.kids]
def Yz (n:Nat)(ds:List D)(M:Mp)(Q:DV):Prop:=IZ ds λx y z=>Cp (IG x) λt=>JJ M y λbs=>JJ M z λds=>t.deep<=n/\∃w,Wd bs ds t w/\Q (.int w) M
attribute[local method_specs_simp]Zch lF
attribute[local method_specs_simp ↓]bd fj Yz
theorem ZgD {n:Nat}(G_checked_width:Od T T.x9 (n+4) (Yz n)):Od T T.x9 (n+5) (Yz (n+1)):=by
 refine Co.p3 T.x9.d.F ["term", "boxes", "doors", "form", "widths"] λx y z M Q hr nN h1=>?_;obtain⟨t,rfl,h2⟩:=Oi h1;obtain⟨bs,hb,h3⟩:=UA h2;symm;obtain⟨ds,hd,hn,wd,hw,q⟩:=UA h3;cutsat;have bW:∀{k:List (Str×Int)->Prop},JJ M y k=k bs:=X8 hb;have dW:∀{k:List (Str×Int)->Prop},JJ M z k=k ds:=X8 hd;refine⟨_,(qC (CC 3 nN (Bg BE (qv 0) Ak)) (qC (ED (AY CS (qv 3) BX) (qO (CH (Ay T.x10.d (Zhf T) nofun (qA (Bg BE (qv 0) Ak) (qA (Bg BE (qv 0) Ak) qN))))) qE) (qC (ED ((Tu (AY CS (qv 3) BX) (VZ (AY CS (qv 3) BX)))).pt (qO (CH (Ay T.x11.d (lP T) nofun (qA (qv 1) (qA (Bg BE (qv 0) Ak) qN))))) qE) (qC (ED (AY CS (qv 3) BX) (qO (CH (Ay T.x11.d (lP T) nofun (qA (qv 2) (qA (Bg BE (qv 0) Ak) qN))))) qE) (qC (sY (caps:=[("boxes",1),("doors",2)]) (i:=4) nN rfl rfl ⟨rfl,by rfl,by rfl,by rfl,rfl,by rfl,by nofun⟩ rfl (QV (Ay T.x6.d (bK T) nofun (qA (qv 0) qN))) (λ_ _ _ _ _ _=>(Ay T.x9.d G_checked_width nofun (qA (qv 0) (qA (qv 1) (qA (qv 2) qN)))))) (qC (Fb (Ay T.x12.d (Zjn T) nofun (qA (qv 0) (qA (qv 4) qN)))) (qO (CH (Ay T.x16.d (Zid T) nofun (qA (qv 0) (qA (qv 4) qN))))))))))),?_⟩;cases hw with
 |num a=>simp only[Tm.D];right;exact⟨a,Dn.of q⟩
 |box a=>simp only[Tm.D];right;simp only[bW,a,BW,X9];exact Dn.of q
 |late a=>simp only[Tm.D];right;simp only[bW,a,BW,X9];exact Dn.of q
 |door a=>simp only[Tm.D];right;simp only[dW,a,BW,X9];exact Dn.of q
 | @over _ ws _ kid ho=>
  obtain⟨hz,hne⟩:=Tm.over_len ho;obtain⟨n1,n2,n3,n4⟩:=Tm.form_ne hne;have n1':=eq_false n1;have n2':=eq_false n2;have n3':=eq_false n3;have n4':=eq_false n4;right;simp only[lF,n1',n2',n3',n4'];grind;refine⟨GK (by rw[Ab,<- hz];have:=Tm.kids_le t;ext),λi ys M'=>M'=M/\ys=(ws.take i).map D.int,⟨rfl,rfl⟩,?_,?_,?_⟩
  .rintro i ys M' ⟨rfl,rfl⟩;exact⟨trivial,by rw[Ab,AZ];ext⟩
  .rintro i x ys M' hx ⟨rfl,rfl⟩;obtain⟨k,hk,rfl⟩:=Mc hx;have hi:i<ws.length:=by rw[hz];exact(Ai.mp hk).1
   have hwi:=Ag hi;have dk:=Tm.deep_kid (Aw hk);walk_at "cap";simp only[bW,dW];refine⟨by ext,ws[i],kid i k _ hk hwi,?_⟩;rw[Ba,hwi,AI];rfl
  .rintro ys M' ⟨rfl,rfl⟩;rw[Ab,<- hz,Be];grind;simp only[ho];exact⟨rfl,Dn.of q⟩
theorem b8 (T:Tv P w K mg base):∀n,Od T T.x9 (n+4) (Yz n)
 |0=>by
  have no:∀ds M Q,¬Yz 0 ds M Q:=λds M Q h=>by
   symm;obtain⟨x,y,z,e1',h1⟩:=O6 h;cutsat;subst e1';obtain⟨t,rfl,h2⟩:=Oi h1;obtain⟨bs,hb,h3⟩:=UA h2;obtain⟨ds,hd,hn,_⟩:=UA h3;have:=t.deep_pos;ext
  exact V9 no
 |n+1=>ZgD T (b8 T n)
def xZ:DW:=λds M Q=>IZ ds λx y z=>Cp (IG x) λt=>JJ M y λbs=>JJ M z λds=>(t.parts<=100/\t.deep<=12)/\∃w,Wd bs ds t w/\Q (.int w) M
theorem wP:Od T T.x8 17 xZ:=by
 refine Co.p3 T.x8.d.F ["T", "boxes", "doors", "size"] λx y z M Q hr nN h1=>?_;obtain⟨t,rfl,h2⟩:=Oi h1;obtain⟨bs,hb,h3⟩:=UA h2;symm;obtain⟨ds,hd,⟨hp,hn⟩,wd,hw,q⟩:=UA h3;cutsat;have bW:∀{k:List (Str×Int)->Prop},JJ M y k=k bs:=X8 hb;have dW:∀{k:List (Str×Int)->Prop},JJ M z k=k ds:=X8 hd;refine⟨_,(qC (CC 3 nN (Ay T.x7.d (wH T 12) nofun (qA (qv 0) qN))) (qC (ED (AY Lq (Bg BE (qv 3) Ak) (Ir T.m_MOST_PARTS)) (qO Pe) qE) (qC (ED (AY Lq (Bg BE (qv 3) Ak) (Ir T.m_MOST_DEEP)) (qO Pe) qE) (qO (CH (Ay T.x9.d (b8 T 12) nofun (qA (qv 0) (qA (qv 1) (qA (qv 2) qN))))))))),?_⟩;right;refine⟨hn,CD (λc=>by ext) λc=>CD (λc=>by ext) λc2=>?_⟩;simp only[bW,dW];exact⟨hn,wd,hw,Dn.of q⟩
noncomputable def Tm.leaves:Tm->List Tm
 |.not t=>t.leaves
 |.bin _ t u=>t.leaves++u.leaves
 |.pick c t u=>c.leaves++t.leaves++u.leaves
 |.part t _ _=>t.leaves
 |t=>[t]
noncomputable def Cc:List Tm->List Tm
 |[]=>[]
 |t::r=>t.leaves++Cc r
theorem lL (t:Tm):∀l:List Tm,Cc (l++[t])=Cc l++t.leaves
 |[]=>by simp[Cc]
 |x::r=>by rw[Ei,Cc,Cc,lL t r,Bs]
theorem b7:∀a b:List Tm,Cc (a++b)=Cc a++Cc b
 |[],b=>rfl
 |x::r,b=>by rw[Ei,Cc,Cc,b7 r b,Bs]
theorem Tm.parts_of_kid {t k:Tm}(h:k∈t.kids):k.parts+1<=t.parts:=by
 cases t<;>simp[Tm.kids]at h<;>simp only[Tm.parts]
 .subst h;ext
 .rcases h with rfl|rfl<;>ext
 .rcases h with rfl|rfl|rfl<;>ext
 .subst h;ext
theorem Tm.leaves_eq {t:Tm}(h:t.kids≠[]):t.leaves=Cc t.kids:=by
 cases t<;>first | exact absurd rfl h | simp[Tm.leaves,Tm.kids,Cc]
theorem Tm.leaves_leaf {t:Tm}(h:t.kids=[]):t.leaves=[t]:=by
 cases t<;>first | rfl | exact absurd h (by simp[Tm.kids])
theorem Tm.leaves_len:∀t:Tm,t.leaves.length<=t.parts
 |.not t=>by have:=t.leaves_len;simp only[Tm.leaves,Tm.parts];ext
 |.bin _ t u=>by have:=t.leaves_len;have:=u.leaves_len;simp only[Tm.leaves,Tm.parts,As];ext
 |.pick c t u=>by have:=c.leaves_len;have:=t.leaves_len;have:=u.leaves_len;simp only[Tm.leaves,Tm.parts,As];ext
 |.part t _ _=>by have:=t.leaves_len;simp only[Tm.leaves,Tm.parts];ext
 |.num _ _ | .box _ | .late _ | .door _=>by simp[Tm.leaves,Tm.parts]
def YC (n:Nat)(ds:List D)(M:Mp)(Q:DV):Prop:=Gx ds λx=>Cp (IG x) λt=>t.deep<=n/\t.parts<=1000/\∀p,M p=none->Q (.ref p) (put M p (.lst (t.leaves.map Tm.D)))
attribute[local method_specs_simp ↓]YC
theorem Zhe (G_leaves_of:Od T T.x18 (n+3) (YC n)):Od T T.x18 (n+4) (YC (n+1)):=by
 refine Co.p1 T.x18.d.F ["term", "inner_terms", "leaves", "inner"] λx M Q hr nN h1=>?_;symm;obtain⟨t,e1',hd,hp,q⟩:=Oi h1;cutsat;subst e1';refine⟨_,(qC (CC 1 nN (Ay T.x6.d (bK T) nofun (qA (qv 0) qN))) (qC (ED (AY CS (Cv Ma T.B.len CK (qA (qv 1) qN)) Ak) (qO (CH (JG (qA (qv 0) qN)))) qE) (qC (CC 2 nN (JG qN)) (EW (KZ AK rfl (QV (qv 1)) (Nb (i:=3) nN rfl (B4 rfl)) (qO (Fb (Kf AN Cz Cy Sr (qv 2) (qA (Ln (Ay T.x18.d G_leaves_of nofun (qA (qv 3) qN))) qN))))) (qO (CH (qv 2))))))),?_⟩;right;by_cases hk:t.kids=[]
 .rw[hk,if_pos (by simp)];rw[Tm.leaves_leaf hk]at q;intro p hp;exact Dn.of (q p hp)
 rw[if_neg (by simpa using hk)];intro p hM;have hl:=t.leaves_len;rw[Tm.leaves_eq hk]at q hl;refine⟨λτ M'=>M'=put M p (.lst ((Cc t.kids).map Tm.D))/\∃v3,τ=[some t.D,some (.tup (t.kids.map Tm.D)),some (.ref p),v3],?_,?_⟩
 .grind;refine⟨λk τ M'=>M'=put M p (.lst ((Cc (t.kids.take k)).map Tm.D))/\∃v3,τ=[some t.D,some (.tup (t.kids.map Tm.D)),some (.ref p),v3],⟨rfl,none,rfl⟩,λ_ _ _ _=>trivial,?_,?_⟩
  .rintro k y τ M' hy ⟨rfl,v3,rfl⟩;obtain⟨u,hu,rfl⟩:=Mc hy;have du:=Tm.deep_kid (Aw hu);have e1:t.kids.take (k+1)=t.kids.take k++[u]:=by rw[Ba,hu];rfl
   grind;have pu:=Tm.parts_of_kid (Aw hu);refine⟨by ext,by ext,λp1 hp1=>?_⟩
   have e2:Cc t.kids=Cc (t.kids.take k)++u.leaves++Cc (t.kids.drop (k+1)):=by
    rw[<- lL,<- e1,<- b7,HQ]
   rw[e2]at hl;simp only[As]at hl;rw[Dc];dsimp only;rw[V0 hp1,ZK];refine⟨by rw[Ab,Ab];exact GK (by ext),?_,_,rfl⟩;rw[e1,lL,AI]
  .rintro τ M' ⟨rfl,v3,rfl⟩;refine⟨?_,v3,rfl⟩;rw[Ab,Be]
 .rintro τ M' ⟨rfl,v3,rfl⟩;grind;exact Dn.of (q p hM)
theorem yZ (T:Tv P w K mg base):∀n:Nat,Od T T.x18 (n+3) (YC n)
 |0=>by
  have no:∀ds M Q,¬YC 0 ds M Q:=λds M Q h=>by
   obtain⟨x,rfl,h1⟩:=GN h;symm;obtain⟨t,e1',hd,hp,q⟩:=Oi h1;cutsat;subst e1';have:=t.deep_pos;ext
  exact V9 no
 |n+1=>Zhe T (yZ T n)
theorem ET.fil {α:Type}{ks:List α}{g:α->D}{f:α->Option D}{S:Mp->Prop}{caps:List (Str×Nat)}{tt:K0}{te:D3}{τ:GA}{M:Mp}{Q:List D->Mp->Prop}(hz:ks.length<=An)(hS:S M)
  (h:∀k∈ks,∀R:Bool->Mp->Prop,R (f k).isSome M->tt (L9 τ caps (some (g k))) M R) (h2:∀k∈ks,∀d,f k=some d->∀R:DV,R d M->te (L9 τ caps (some (g k))) M R) (q:Q (ks.filterMap f) M):ET (ks.map g) S caps tt te τ M Q:=by
 refine⟨by rw[Ab];exact hz,λi ys M'=>M'=M/\ys=(ks.take i).filterMap f,⟨rfl,rfl⟩,?_,?_,?_⟩
 .rintro i ys M' ⟨rfl,rfl⟩;exact⟨hS,A3 (DZ _ _) (by rw[AZ];ext)⟩
 .rintro i x ys M' hx ⟨rfl,rfl⟩;rw[AH]at hx;cases e:ks[i]? with
  |none=>rw[e]at hx;cases hx
  |some k=>
   rw[e]at hx;cases hx;have et:ks.take (i+1)=ks.take i++[k]:=by rw[Ba,e];rfl
   refine h k (Aw e) _ ?_;cases fk:f k with
   |none=>rw[if_neg (by simp)];refine⟨rfl,?_⟩;rw[et,HS];simp[fk]
   |some d=>rw[if_pos (by rfl)];refine h2 k (Aw e) d fk _ ⟨rfl,?_⟩;rw[et,HS];simp[fk]
 .rintro ys M' ⟨rfl,rfl⟩;rw[Ab,Be];exact q
theorem xI:((Al "box":Str)=Al "late")=False:=eq_false (by nofun)
theorem kP:((Al "box":Str)=Al "door")=False:=eq_false (by nofun)
theorem wD:((Al "box":Str)=Al "num")=False:=eq_false (by nofun)
theorem xK:((Al "late":Str)=Al "box")=False:=eq_false (by nofun)
theorem kU:((Al "late":Str)=Al "door")=False:=eq_false (by nofun)
theorem xL:((Al "late":Str)=Al "num")=False:=eq_false (by nofun)
theorem kQ:((Al "door":Str)=Al "box")=False:=eq_false (by nofun)
theorem kT:((Al "door":Str)=Al "late")=False:=eq_false (by nofun)
theorem xJ:((Al "door":Str)=Al "num")=False:=eq_false (by nofun)
theorem wE:((Al "num":Str)=Al "box")=False:=eq_false (by nofun)
theorem xN:((Al "num":Str)=Al "late")=False:=eq_false (by nofun)
theorem xM:((Al "num":Str)=Al "door")=False:=eq_false (by nofun)
noncomputable def Tm.nameOf (form:Str):Tm->Option Str
 |.box x=>if form = "box" then some x else none
 |.late x=>if form = "late" then some x else none
 |.door x=>if form = "door" then some x else none
 |_=>none
theorem Pf:∀ss:List Str,EB (ss.map D.str)=some ss
 |[]=>rfl
 |s::ss=>by rw[AQ,EB,Pf ss];rfl
def HM (f:Str):Prop:=f = "box"\/f = "late"\/f = "door"
def xW:DW:=λds M Q=>FI ds λx f=>∃ls:List Tm,(∀l∈ls,l.kids=[])/\x=.lst (ls.map Tm.D)/\ls.length<=1000/\Gh f λform=>HM form/\(fm (ls.filterMap (Tm.nameOf form))).length<64/\∀p,M p=none->Q (.ref p) (put M p (.lst ((IH (ls.filterMap (Tm.nameOf form))).map D.str)))
theorem kS:Od T T.x19 1 xW:=by
 refine Co.p2 T.x19.d.F ["leaves", "form"] λx f M Q hr nN h=>?_;symm;obtain⟨ls,hk,e1',hl,h2⟩:=h;cutsat;subst e1';symm;obtain⟨form,e1',hn,h64,q⟩:=Ea h2;cutsat;subst e1';refine⟨_,(qO (CH (mQ rfl T.B.sorted T.B.set (Jm (caps:=[("form",1)]) ⟨rfl,by rfl,by rfl,by rfl,rfl,by rfl,by nofun⟩ rfl (J0 (qv 0)) (λ_ _ _ _ _ _=>(Bg BE (qv 0) Ak)) (λ_ _ _ _ _ _=>(AY CS (Bg BE (qv 0) Ak) (qv 1))))))),?_⟩;right;refine ET.fil (f:=λl=>(Tm.nameOf form l).map D.str) (GK hl) trivial ?_ ?_ ?_
 .intro k hkm R hR;have hkk:=hk k hkm;cases k<;>(try (simp[Tm.kids]at hkk;done))
  all_goals
   simp only[Tm.D];walk_at "cap";rcases hn with rfl|rfl|rfl<;>simpa[Tm.nameOf,xI,kP,wD,xK,kU,xL,kQ,kT,xJ,wE,xN,xM]using hR
 .intro k hkm d hd R hR;have hkk:=hk k hkm;cases k<;>(try (simp[Tm.kids]at hkk;done))
  all_goals
   simp only[Tm.D];walk_at "cap";rcases hn with rfl|rfl|rfl<;>simp[Tm.nameOf,xI,kP,wD,xK,kU,xL,kQ,kT,xJ,wE,xN,xM]at hd<;>(try (subst hd))<;>(try exact hR)
 .have e1:(ls.filterMap λl=>(Tm.nameOf form l).map D.str)=(ls.filterMap (Tm.nameOf form)).map D.str:=by
   rw[PD]
  rw[e1,Pf];have:=DZ (Tm.nameOf form) ls;refine⟨by unfold Bi;ext,h64,?_⟩;intro p hp;exact Dn.of (q p hp)
attribute[local method_specs_simp ↓]xW
theorem Tm.leaves_kids:∀(t:Tm),∀l∈t.leaves,l.kids=[]
 |.not t,l,h=>t.leaves_kids l h
 |.bin _ t u,l,h=>(AT.mp h).elim (t.leaves_kids l) (u.leaves_kids l)
 |.pick c t u,l,h=>(AT.mp h).elim (λh=>(AT.mp h).elim (c.leaves_kids l) (t.leaves_kids l)) (u.leaves_kids l)
 |.part t _ _,l,h=>t.leaves_kids l h
 |.num _ _,l,h | .box _,l,h | .late _,l,h | .door _,l,h=>by cases AL.mp h;rfl
noncomputable def Tm.names (form:Str)(t:Tm):List Str:=t.leaves.filterMap (Tm.nameOf form)
noncomputable def MG (form:Str)(t:Tm):MO:=.lst ((IH (t.names form)).map D.str)
def vD:DW:=λds M Q=>Gx ds λx=>Cp (IG x) λt=>t.deep<=12/\t.parts<=1000/\(∀f,HM f->(fm (t.names f)).length<64) /\
 ∀p0 p1 p2,M p0=none->M p1=none->M p2=none->p1≠p0->p2≠p0->p2≠p1->Q (.tup [.ref p0,.ref p1,.ref p2]) (put (put (put M p0 (MG "box" t)) p1 (MG "late" t)) p2 (MG "door" t))
theorem aP:Od T T.x17 16 vD:=by
 refine Co.p1 T.x17.d.F ["T", "leaves"] λx M Q hr nN h1=>?_;symm;obtain⟨t,e1',hd,hp,h64,q⟩:=Oi h1;cutsat;subst e1';refine⟨_,(qC (CC 1 nN (Ln (Ay T.x18.d (yZ T 12) nofun (qA (qv 0) qN)))) (qO (CH (CG (qA (Ay T.x19.d (kS T) nofun (qA (qv 1) (qA BX qN))) (qA (Ay T.x19.d (kS T) nofun (qA (qv 1) (qA BX qN))) (qA (Ay T.x19.d (kS T) nofun (qA (qv 1) (qA BX qN))) qN))))))),?_⟩;right;have hl:=A3 t.leaves_len hp;refine⟨hd,hp,λp hM=>?_⟩;rw[Dc,V0 hM];dsimp only;refine⟨t.leaves,t.leaves_kids,rfl,hl,.inl rfl,h64 _ (.inl rfl),λp0 m0=>?_⟩;refine⟨t.leaves,t.leaves_kids,rfl,hl,.inr (.inl rfl),h64 _ (.inr (.inl rfl)),λp1 m1=>?_⟩;refine⟨t.leaves,t.leaves_kids,rfl,hl,.inr (.inr rfl),h64 _ (.inr (.inr rfl)),λp2 m2=>?_⟩;have n1:p1≠p0:=λe=>by rw[e,Dc]at m1;cases m1
 have n2:p2≠p1:=λe=>by rw[e,Dc]at m2;cases m2
 have m2':=jS m2;have n3:p2≠p0:=λe=>by rw[e,Dc]at m2';cases m2'
 (try grind)
 exact Dn.of (q p0 p1 p2 m0 (jS m1) (jS m2') n1 n3 n2)
theorem aG (ha:0<=a)(hb:0<=b):AD a b=2*AD (a / 2) (b / 2)+(a%2)*(b%2):=by
 obtain⟨m,rfl⟩:∃m:Nat,a=(m:Int):=⟨a.toNat,by ext⟩;obtain⟨n,rfl⟩:∃n:Nat,b=(n:Int):=⟨b.toNat,by ext⟩;rw[Ib ha hb,Ib (by ext) (by ext)];have e1:((m:Int) / 2).toNat=m / 2:=by ext
 have e2:((n:Int) / 2).toNat=n / 2:=by ext
 rw[e1,e2,Bt,Bt];have h1:(m &&& n) / 2=m / 2 &&& n / 2:=Nat.and_div_two;have h2:(m &&& n)%2=(m%2) &&& (n%2):=by have:=Nat.and_mod_two_pow (a:=m) (b:=n) (n:=1);simpa using this
 have h3:((m%2) &&& (n%2):Nat)=(m%2)*(n%2):=by
  have a1:m%2=0\/m%2=1:=by ext
  have a2:n%2=0\/n%2=1:=by ext
  rcases a1 with a1|a1<;>rcases a2 with a2|a2<;>rw[a1,a2]<;>rfl
 have h4:(m &&& n)=2*(m / 2 &&& n / 2)+(m%2)*(n%2):=by
  have:=Nat.div_add_mod (m &&& n) 2;rw[h1,h2,h3]at this;ext
 rw[h4]
 push_cast
 rfl
theorem Of (a:Int):a%2=0\/a%2=1:=by ext
theorem Zn9 (ha:0<=a)(hb:0<=b):AD a b%2=(a%2)*(b%2)/\AD a b / 2=AD (a / 2) (b / 2):=by
 have h:=aG ha hb;rcases Of a with e|e<;>rcases Of b with e' | e'<;>rw[e,e']at h<;>rw[e,e']<;>ext
theorem Zoi (ha:0<=a)(hb:0<=b):AM a b%2=max (a%2) (b%2)/\AM a b / 2=AM (a / 2) (b / 2):=by
 have h:=aG ha hb;rw[FR,FR];rcases Of a with e|e<;>rcases Of b with e' | e'<;>rw[e,e']at h<;>rw[e,e']<;>ext
theorem Zmn (ha:0<=a)(hb:0<=b):Bd a b%2=(a%2+b%2)%2/\Bd a b / 2=Bd (a / 2) (b / 2):=by
 have h:=aG ha hb;unfold Bd;rw[FR,FR];rcases Of a with e|e<;>rcases Of b with e' | e'<;>rw[e,e']at h<;>rw[e,e']<;>ext
theorem bH {f:Int->Int->Int}(hf0:f 0 0=0)(h:∀a b,0<=a->0<=b->f a b / 2=f (a / 2) (b / 2)):∀w a b,0<=a->a<2^w->0<=b->b<2^w->0<=f a b/\f a b<2^w
 |0,a,b,ha,ha2,hb,hb2=>by
  have e1:a=0:=by simp at ha2;ext
  have e2:b=0:=by simp at hb2;ext
  rw[e1,e2,hf0];simp
 |w+1,a,b,ha,ha2,hb,hb2=>by
  rw[F1]at ha2 hb2 ⊢;have:=bH hf0 h w (a / 2) (b / 2) (by ext) (by ext) (by ext) (by ext);rw[<- h a b ha hb]at this;ext
noncomputable def KW:List Int->Int
 |[]=>0
 |m::ms=>(if m=1 then 1 else 0)+2*KW ms
noncomputable def LA:List Int->Int
 |[]=>0
 |m::ms=>(if m=0 then 0 else 1)+2*LA ms
def Mk (m:Int):Prop:=m=0\/m=1\/m=2
def Lr (ms:List Int):Prop:=∀m∈ms,Mk m
theorem Tt:∀ms,0<=KW ms
 |[]=>Zh _
 |m::ms=>by
  have:=Tt ms;unfold KW;split<;>ext
theorem Tq:∀ms,0<=LA ms
 |[]=>Zh _
 |m::ms=>by
  have:=Tq ms;unfold LA;split<;>ext
theorem nT:∀ms,KW ms<2^ms.length
 |[]=>by decide
 |m::ms=>by
  have:=nT ms;rw[AO,F1];unfold KW;split<;>ext
theorem nQ:∀ms,LA ms<2^ms.length
 |[]=>by decide
 |m::ms=>by
  have:=nQ ms;rw[AO,F1];unfold LA;split<;>ext
theorem wa (m:Int)(ms:List Int):KW (m::ms)=(if m=1 then 1 else 0)+2*KW ms:=rfl
theorem vm (m:Int)(ms:List Int):LA (m::ms)=(if m=0 then 0 else 1)+2*LA ms:=rfl
noncomputable def andM (a b:Int):Int:=if a=0\/b=0 then 0 else if a=1/\b=1 then 1 else 2
noncomputable def orM (a b:Int):Int:=if a=1\/b=1 then 1 else if a=0/\b=0 then 0 else 2
theorem pY {b x:Int}(h:b=0\/b=1):(b+2*x)%2=b:=by rcases h with rfl | rfl<;>ext
theorem pX {b x:Int}(h:b=0\/b=1):(b+2*x) / 2=x:=by rcases h with rfl | rfl<;>ext
theorem i3 {c:Prop}[Decidable c]:(if c then(1:Int)else 0)=0\/(if c then(1:Int)else 0)=1:=by split<;>simp
theorem iw {c:Prop}[Decidable c]:(if c then(0:Int)else 1)=0\/(if c then(0:Int)else 1)=1:=by split<;>simp
theorem pU {a b x y:Int}(ha:a=0\/a=1)(hb:b=0\/b=1)(hx:0<=x)(hy:0<=y):AD (a+2*x) (b+2*y)=a*b+2*AD x y:=by
 have h:=aG (a:=a+2*x) (b:=b+2*y) (by rcases ha with rfl | rfl<;>ext) (by rcases hb with rfl | rfl<;>ext);rw[pY ha,pY hb,pX ha,pX hb]at h;ext
theorem Yb (ha:a=0\/a=1)(hb:b=0\/b=1)(hx:0<=x)(hy:0<=y):AM (a+2*x) (b+2*y)=(a+b-a*b)+2*AM x y:=by
 rw[FR,FR,pU ha hb hx hy];ext
theorem Sj {w u:Int}(hw:0<=w)(hu:0<=u):AD w (-u-1)=w-AD w u:=by
 unfold AD;rw[decide_eq_true hw,decide_eq_false (show¬ 0<=-u-1 by ext),decide_eq_true hu];show w-((w.toNat &&& (En (-u-1)).toNat:Nat):Int)=w-((w.toNat &&& u.toNat:Nat):Int);rw[show En (-u-1)=u by unfold En;ext]
theorem aH {a b x y:Int}(ha:a=0\/a=1)(hb:b=0\/b=1)(hx:0<=x)(hy:0<=y):AD (a+2*x) (-(b+2*y)-1)=(a-a*b)+2*AD x (-y-1):=by
 rw[Sj (by rcases ha with rfl | rfl<;>ext) (by rcases hb with rfl | rfl<;>ext),pU ha hb hx hy,Sj hx hy];ext
theorem oA (hx:0<=x)(hy:0<=y):0<=AD x y:=by
 unfold AD;rw[decide_eq_true hx,decide_eq_true hy];exact Int.ofNat_nonneg _
theorem aA (hx:0<=x)(hy:0<=y):AD x y<=y:=by
 obtain⟨m,rfl⟩:∃m:Nat,x=(m:Int):=⟨x.toNat,by ext⟩;obtain⟨n,rfl⟩:∃n:Nat,y=(n:Int):=⟨y.toNat,by ext⟩;unfold AD;rw[decide_eq_true hx,decide_eq_true hy];show((m &&& n:Nat):Int)<=n;exact WN.mpr Nat.and_le_right
theorem vn {x:Int}{w:Nat}(h0:0<=x)(h1:x<2^w):(-x-1)%2^w=2^w-1-x:=by
 rw[<- Int.add_emod_right (-x-1) (2^w)];rw[show -x-1+2^w=2^w-1-x by ext];exact Int.emod_eq_of_lt (by ext) (by ext)
noncomputable def bl (m:Int):Int:=if m=1 then 1 else 0
noncomputable def bh (m:Int):Int:=if m=0 then 0 else 1
theorem QK (m):bl m=0\/bl m=1:=i3
theorem QM (m):bh m=0\/bh m=1:=iw
theorem Sq (m:Int)(ms:List Int):KW (m::ms)=bl m+2*KW ms:=rfl
theorem So (m:Int)(ms:List Int):LA (m::ms)=bh m+2*LA ms:=rfl
noncomputable def sl (x y c:Int):Int:=(bl x+bl y+bl c)%2
noncomputable def ob (a b:Int):Int:=a+b-a*b
noncomputable def b2 (m:Int):Int:=if m=2 then 1 else 0
theorem mR:Mk 1:=.inr (.inl rfl)
theorem jT (hx:0<=x):∀n {y:Int},0<=y->y<2^n->AM (x*2^n) y=y+2^n*x
 |0,y,h0,h1=>by
  have:y=0:=by rw[WM]at h1;ext
  subst this;rw[FR,Zd,WM];ext
 |n+1,y,h0,h1=>by
  have e1:x*2^(n+1)=0+2*(x*2^n):=by rw[F1,<- Vy];ext
  have e2:y=y%2+2*(y / 2):=by ext
  have hp:=Wb n;rw[F1]at h1;have ih:=jT hx n (y:=y / 2) (by ext) (by ext);conv=>lhs;rw[e1,e2]
  rw[Yb (.inl rfl) (Of y) (T3 hx (by ext)) (by ext),ih,F1,WO (2^n) 2,Vy];ext
noncomputable def Np (ms:List Int):D:=.tup [.int ms.length,.int (KW ms),.int (LA ms)]
def YF (ms:List Int):Prop:=Lr ms/\1<=ms.length/\ms.length<=64
theorem Zj3 :LZ (Np ms) (.int 0) M Q=Q (.int ms.length) M:=rfl
theorem Zj2 :LZ (Np ms) (.int 1) M Q=Q (.int (KW ms)) M:=rfl
theorem Zj1 :LZ (Np ms) (.int 2) M Q=Q (.int (LA ms)) M:=rfl
theorem bn (x):En x=-x-1:=by unfold En;ext
theorem fZ (hx:0<=x):AM x 0=x:=by
 have:=jT hx 0 (y:=0) (by decide) (by decide);simpa using this
theorem QN {x:Int}(hx:0<=x):AD x (-0-1)=x:=by
 rw[Sj hx (by decide)];have h:=aA hx (show(0:Int)<=0 by decide);have h2:=oA hx (show(0:Int)<=0 by decide);ext
theorem ZJ (p):(0:Int)<=2^p:=NQ (Wb p)
theorem aF (p):(2:Int)^(p+1)=0+2*2^p:=by rw[F1];ext
theorem qD:∀(ms:List Int) (p:Nat),p<ms.length->KW (ms.set p 1)=AM (KW ms) (2^p)
 |m::ms,0,_=>by
  rw[CI,Sq,Sq,show(2:Int)^0=1+2*0 by decide,Yb (QK m) (.inr rfl) (Tt ms) (by decide),fZ (Tt ms)];show(1:Int)+2*KW ms=_;rcases QK m with e|e<;>rw[e]<;>ext
 |m::ms,p+1,h=>by
  rw[Ca,Sq,Sq,aF,Yb (QK m) (.inl rfl) (Tt ms) (ZJ p),qD ms p (Dr h)];ext
theorem jA (hv:v≠0):∀(ms:List Int) (p:Nat),p<ms.length->LA (ms.set p v)=AM (LA ms) (2^p)
 |m::ms,0,_=>by
  rw[CI,So,So,show(2:Int)^0=1+2*0 by decide,Yb (QM m) (.inr rfl) (Tq ms) (by decide),fZ (Tq ms),show bh v=1 from if_neg hv];rcases QM m with e|e<;>rw[e]<;>ext
 |m::ms,p+1,h=>by
  rw[Ca,So,So,aF,Yb (QM m) (.inl rfl) (Tq ms) (ZJ p),jA hv ms p (Dr h)];ext
theorem jD (hv:v≠1):∀(ms:List Int) (p:Nat),p<ms.length->KW (ms.set p v)=AD (KW ms) (-(2^p)-1)
 |m::ms,0,_=>by
  rw[CI,Sq,Sq,show(2:Int)^0=1+2*0 by decide,aH (QK m) (.inr rfl) (Tt ms) (by decide),QN (Tt ms),show bl v=0 from if_neg hv];ext
 |m::ms,p+1,h=>by
  rw[Ca,Sq,Sq,aF,aH (QK m) (.inl rfl) (Tt ms) (ZJ p),jD hv ms p (Dr h)];ext
theorem qW:∀(ms:List Int) (p:Nat),p<ms.length->LA (ms.set p 0)=AD (LA ms) (-(2^p)-1)
 |m::ms,0,_=>by
  rw[CI,So,So,show(2:Int)^0=1+2*0 by decide,aH (QM m) (.inr rfl) (Tq ms) (by decide),QN (Tq ms)];show(0:Int)+2*LA ms=_;ext
 |m::ms,p+1,h=>by
  rw[Ca,So,So,aF,aH (QM m) (.inl rfl) (Tq ms) (ZJ p),qW ms p (Dr h)];ext
theorem oS:∀n,KW (Ax n 2)=0
 |0=>rfl
 |n+1=>by rw[C0,Sq,oS n];rfl
theorem oJ:∀n,LA (Ax n 2)=2^n-1
 |0=>rfl
 |n+1=>by
  rw[C0,So,oJ n,F1];show(1:Int)+_=_;ext
abbrev Sn:=Int×Int×Int
noncomputable def Hh (s:Sn):L3.D:=.tup [.int s.1,.int s.2.1,.int s.2.2]
theorem Zj6 :LZ (Hh s) (.int 0) M Q=Q (.int s.1) M:=rfl
theorem Zj5 :LZ (Hh s) (.int 1) M Q=Q (.int s.2.1) M:=rfl
theorem Zj4 :LZ (Hh s) (.int 2) M Q=Q (.int s.2.2) M:=rfl
noncomputable def ON (a:Sn):Int:=Bd a.2.1 a.2.2
noncomputable def VI (w x u:Int):Sn:=(w,AD x (-u-1),AM x u)
noncomputable def Oe (s:Sn):Sn:=(s.1,(-s.2.2-1)%2^s.1.toNat,(-s.2.1-1)%2^s.1.toNat)
noncomputable def O5 (a b:Sn)(c:Int):Sn:=VI a.1 ((a.2.1+b.2.1+c)%2^a.1.toNat) (AM (AM (ON a) (ON b)) (Bd (Bd (Bd (a.2.1+b.2.1+c) a.2.1) b.2.1) (Bd (Bd (a.2.2+b.2.2+c) a.2.2) b.2.2))%2^a.1.toNat)
noncomputable def MX (a b:Sn):Sn:=(1,if a.2.2<b.2.1 then 1 else 0,if a.2.1<b.2.2 then 1 else 0)
noncomputable def Jj (a b:Sn):Sn:=if AD (Bd a.2.1 b.2.1) (-(AM (ON a) (ON b))-1)=0 then(1,if AM (ON a) (ON b)=0 then 1 else 0,1)else(1,0,0)
noncomputable def Jn (c a b:Sn):Sn:=if c.2.1=1 then a else if c.2.2=0 then b else(a.1,AD a.2.1 b.2.1,AM a.2.2 b.2.2)
noncomputable def MY (a b:Sn):Sn:=(a.1+b.1,AM (a.2.1*2^b.1.toNat) b.2.1,AM (a.2.2*2^b.1.toNat) b.2.2)
noncomputable def MU (s:Sn)(lo m:Int):Sn:=(m,s.2.1 / 2^lo.toNat%2^m.toNat,s.2.2 / 2^lo.toNat%2^m.toNat)
def JM (w:Int)(x:Int):Prop:=0<=x/\x<2^w.toNat
structure Rg (s:Sn):Prop where
 w:1<=s.1/\s.1<=64
 l:JM s.1 s.2.1
 h:JM s.1 s.2.2
theorem ZM {w x y:Int}(hx:JM w x)(hy:JM w y):JM w (AD x y):=bH (by decide) (λa b ha hb=>(Zn9 ha hb).2) w.toNat x y hx.1 hx.2 hy.1 hy.2
theorem X4 {w x y:Int}(hx:JM w x)(hy:JM w y):JM w (AM x y):=bH (by decide) (λa b ha hb=>(Zoi ha hb).2) w.toNat x y hx.1 hx.2 hy.1 hy.2
theorem pP {w x y:Int}(hx:JM w x)(hy:JM w y):JM w (Bd x y):=bH (by decide) (λa b ha hb=>(Zmn ha hb).2) w.toNat x y hx.1 hx.2 hy.1 hy.2
theorem UD (w x:Int):JM w (x%2^w.toNat):=⟨Ci _ (by have:=Wb w.toNat;ext),BP _ (Wb _)⟩
theorem nO {w x u:Int}(hw:1<=w/\w<=64)(hx:JM w x)(hu:JM w u):Rg (VI w x u):=by
 refine⟨hw,?_,X4 hx hu⟩;have a1:=oA hx.1 hu.1;have a2:=ZM hx hu;have e:=Sj hx.1 hu.1
 have a3:AD x u<=x:=by
  have:=aA hu.1 hx.1;rw[show AD x u=AD u x by rw[Ib hx.1 hu.1,Ib hu.1 hx.1,WF]];exact this
 have:=hx.2;show JM w (AD x (-u-1));rw[e];exact⟨by ext,by ext⟩
theorem oV (h:Rg s):Rg (Oe s):=⟨h.w,UD _ _,UD _ _⟩
theorem nK (h:Rg s):JM s.1 (ON s):=pP h.l h.h
theorem pI (ha:Rg a)(c:Int):Rg (O5 a b c):=nO ha.w (UD _ _) (UD _ _)
theorem iG (c:Prop)[Decidable c]:JM 1 (if c then 1 else 0):=by split<;>exact⟨by decide,by decide⟩
theorem vz (a b:Sn):Rg (MX a b):=⟨⟨by show(1:Int)<=1;decide,by show(1:Int)<=64;decide⟩,iG _,iG _⟩
theorem xn (a b:Sn):Rg (Jj a b):=by
 unfold Jj;split
 .exact⟨⟨by show(1:Int)<=1;decide,by show(1:Int)<=64;decide⟩,iG _,⟨by show(0:Int)<=1;decide,by show(1:Int)<2^(1:Int).toNat;decide⟩⟩
 .exact⟨⟨by show(1:Int)<=1;decide,by show(1:Int)<=64;decide⟩,⟨by show(0:Int)<=0;decide,by show(0:Int)<2^(1:Int).toNat;decide⟩,⟨by show(0:Int)<=0;decide,by show(0:Int)<2^(1:Int).toNat;decide⟩⟩
theorem iN (e:a.1=b.1)(ha:Rg a)(hb:Rg b){f g:Int->Int->Int}(hf:∀{w x y:Int},JM w x->JM w y->JM w (f x y))(hg:∀{w x y:Int},JM w x->JM w y->JM w (g x y)):Rg (a.1,f a.2.1 b.2.1,g a.2.2 b.2.2):=⟨ha.w,hf ha.l (e ▸ hb.l),hg ha.h (e ▸ hb.h)⟩
theorem wm (e:a.1=b.1)(ha:Rg a)(hb:Rg b):Rg (Jn c a b):=by
 unfold Jn;split
 .exact ha
 .split
  .exact hb
  .exact iN e ha hb ZM X4
theorem qY {v w x y:Int}(hv:1<=v)(hw:1<=w)(hx:JM v x)(hy:JM w y):JM (v+w) (AM (x*2^w.toNat) y):=by
 rw[jT hx.1 _ hy.1 hy.2];have p:=Wb w.toNat
 have e:(2:Int)^(v+w).toNat=2^w.toNat*2^v.toNat:=by rw[show(v+w).toNat=w.toNat+v.toNat by ext,Int.pow_add]
 have m0:=T3 (NQ p) hx.1;have m1:=Int.mul_le_mul_of_nonneg_left (show x+1<=2^v.toNat by have:=hx.2;ext) (NQ p);rw[Int.mul_add,Zg]at m1;have:=hy.1;have:=hy.2;refine⟨by ext,?_⟩;rw[e];ext
theorem vt {a b:Sn}(ha:Rg a)(hb:Rg b)(h:a.1+b.1<=64):Rg (MY a b):=⟨⟨by show 1<=a.1+b.1;have:=ha.w;have:=hb.w;ext,h⟩,qY ha.w.1 hb.w.1 ha.l hb.l,qY ha.w.1 hb.w.1 ha.h hb.h⟩
theorem uw {lo m:Int}(h:1<=m/\m<=64):Rg (MU s lo m):=⟨h,UD _ _,UD _ _⟩
def GW (s:Sn):Prop:=s.2.1=s.2.2
theorem sP (h:0<=x):Bd x x=0:=by
 have e:AD x x=x:=by rw[Ib h h,Nat.and_self];ext
 unfold Bd;rw[FR,e];ext
theorem VJ (h:Rg s)(k:GW s):ON s=0:=by unfold ON;rw[<- k];exact sP h.l.1
theorem nM {w x:Int}(h:0<=x):GW (VI w x 0):=by
 show AD x (-0-1)=AM x 0;rw[QN h,fZ h]
theorem oU (k:GW s):GW (Oe s):=by unfold GW Oe at *;rw[k]
theorem pH (ha:Rg a)(hb:Rg b)(hc:0<=c)(ka:GW a)(kb:GW b):GW (O5 a b c):=by
 unfold O5;rw[VJ ha ka,VJ hb kb,<- ka,<- kb]
 have nn:∀{x y:Int},0<=x->0<=y->0<=Bd x y:=λ{x y} hx hy=>by
  unfold Bd;have h1:=FR x y;have h2:=aA hx hy;have h3:=aA hy hx;rw[show AD y x=AD x y by rw[Ib hx hy,Ib hy hx,WF]]at h3;rw[h1];ext
 have n0:0<=a.2.1+b.2.1+c:=by have:=ha.l.1;have:=hb.l.1;ext
 rw[sP (nn (nn n0 ha.l.1) hb.l.1),show AM (AM 0 0) 0%2^a.1.toNat=0 by rw[show AM (AM 0 0) 0=(0:Int) by decide,Int.zero_emod]];exact nM (UD _ _).1
theorem vy (ka:GW a)(kb:GW b):GW (MX a b):=by
 show(if a.2.2<b.2.1 then(1:Int)else 0)=if a.2.1<b.2.2 then 1 else 0
 rw[ka,kb]
theorem xm (ha:Rg a)(hb:Rg b)(ka:GW a)(kb:GW b):GW (Jj a b):=by
 unfold Jj;rw[VJ ha ka,VJ hb kb,show AM 0 0=(0:Int) by decide];split
 .rfl
 .rfl
theorem wl (hc:Rg c)(h1:c.1=1)(kc:GW c)(ka:GW a)(kb:GW b):GW (Jn c a b):=by
 unfold Jn;split
 .exact ka
 .next n1=>
  rw[if_pos]
  .exact kb
  .have h:=hc.l;rw[h1]at h;have:c.2.1<2:=h.2;have:=h.1;rw[<- kc];ext
theorem vq (ka:GW a)(kb:GW b):GW (MY a b):=by unfold GW MY at *;dsimp only;rw[ka,kb]
theorem uv (k:GW s)(lo m:Int):GW (MU s lo m):=by unfold GW MU at *;dsimp only;rw[k]
noncomputable def RV (o:FE)(a b:Sn):Sn:=match o with
 |.and=>(a.1,AD a.2.1 b.2.1,AD a.2.2 b.2.2)
 |.or=>(a.1,AM a.2.1 b.2.1,AM a.2.2 b.2.2)
 |.xor=>VI a.1 (Bd a.2.1 b.2.1) (AM (ON a) (ON b))
 |.plus=>O5 a b 0
 |.minus=>O5 a (Oe b) 1
 |.less=>MX a b
 |.same=>Jj a b
 |.join=>MY a b
noncomputable def n0:Sn:=(1,0,0)
noncomputable def Tm.rv (t:Tm)(hs:List Sn):Sn:=match t with
 |.not _=>Oe (hs.headD n0)
 |.bin o _ _=>RV o (hs.headD n0) (hs.tail.headD n0)
 |.pick _ _ _=>Jn (hs.headD n0) (hs.tail.headD n0) (hs.tail.tail.headD n0)
 |.part _ lo m=>MU (hs.headD n0) lo m
 |_=>n0
structure YG where
 b:Str->Sn
 l:Str->Sn
 d:Str->Sn
noncomputable def Tm.rs (e:YG):Tm->Sn
 |.num w n=>(w,n,n)
 |.box x=>e.b x
 |.late x=>e.l x
 |.door x=>e.d x
 |.not t=>(Tm.not t).rv [t.rs e]
 |.bin o t u=>(Tm.bin o t u).rv [t.rs e,u.rs e]
 |.pick c t u=>(Tm.pick c t u).rv [c.rs e,t.rs e,u.rs e]
 |.part t lo m=>(Tm.part t lo m).rv [t.rs e]
theorem Tm.rs_kids {t:Tm}(h:t.kids≠[]):t.rs e=t.rv (t.kids.map (Tm.rs e)):=by cases t<;>first | exact absurd rfl h | rfl
theorem OG (h:l.length=n+1):∃a r,l=a::r/\r.length=n:=by cases l with
 |nil=>cases h
 |cons a r=>exact⟨a,r,rfl,GQ h⟩
theorem lm {t:Tm}{w:Int}(ho:t.over (hs.map (·.1))=some w)(hall:∀s∈hs,Rg s):(Rg (t.rv hs)/\(t.rv hs).1=w)/\((∀s∈hs,GW s)->GW (t.rv hs)):=by
 obtain⟨hl,-⟩:=Tm.over_len ho;rw[Ab]at hl;cases t with
 |not u=>
  obtain⟨a,r,rfl,e0⟩:=OG hl;cases AG e0;have ha:=hall a (by simp);have e:a.1=w:=by simpa[Tm.over]using ho
  exact⟨⟨oV ha,e⟩,λk=>oU (k a (by simp))⟩
 |part u lo m=>obtain⟨a,r,rfl,e0⟩:=OG hl;cases AG e0;have ha:=(hall a (by simp)).w;obtain⟨⟨b1,b2,b3⟩,e⟩:=aU ho;have b3:lo+m<=a.1:=b3;exact⟨⟨uw ⟨b2,by ext⟩,e.symm⟩,λk=>uv (k a (by simp)) _ _⟩
 |pick c u v=>
  obtain⟨c,r,rfl,e0⟩:=OG hl;obtain⟨a,r,rfl,e1⟩:=OG e0;obtain⟨b,r,rfl,e2⟩:=OG e1;cases AG e2;obtain⟨q1,q2,q3⟩:=kB ho;have q2:a.1=b.1:=q2;have q3:w=a.1:=q3;refine⟨⟨wm q2 (hall a (by simp)) (hall b (by simp)),?_⟩,λk=>wl (hall c (by simp)) q1 (k c (by simp)) (k a (by simp)) (k b (by simp))⟩;show(Jn c a b).1=w;unfold Jn;split
  .exact q3.symm
  .split
   .rw[<- q2];exact q3.symm
   .exact q3.symm
 |bin o u v=>
  obtain⟨a,r,rfl,e0⟩:=OG hl;obtain⟨b,r,rfl,e1⟩:=OG e0;cases AG e1;have ha:=hall a (by simp);have hb:=hall b (by simp);show(Rg (RV o a b)/\(RV o a b).1=w)/\_;have kk:∀{P:Prop},(GW a->GW b->P)->(∀s∈[a,b],GW s)->P:=λf k=>f (k a (by simp)) (k b (by simp));cases o with
  |join=>obtain⟨q1,q2⟩:=kA ho;exact⟨⟨vt ha hb q1,q2.symm⟩,kk vq⟩
  |less=>obtain⟨-,q2⟩:=Yr (.inl rfl) ho;exact⟨⟨vz a b,q2.symm⟩,kk vy⟩
  |same=>obtain⟨-,q2⟩:=Yr (.inr rfl) ho;refine⟨⟨xn a b,?_⟩,kk (xm ha hb)⟩;show(Jj a b).1=w;unfold Jj;split<;>exact q2.symm
  |and=>obtain⟨q1,q2⟩:=UP (by simp) (by simp) (by simp) ho;exact⟨⟨iN q1 ha hb ZM ZM,q2.symm⟩,kk λk1 k2=>by show AD a.2.1 b.2.1=AD a.2.2 b.2.2;rw[k1,k2]⟩
  |or=>obtain⟨q1,q2⟩:=UP (by simp) (by simp) (by simp) ho;exact⟨⟨iN q1 ha hb X4 X4,q2.symm⟩,kk λk1 k2=>by show AM a.2.1 b.2.1=AM a.2.2 b.2.2;rw[k1,k2]⟩
  |xor=>obtain⟨q1,q2⟩:=UP (by simp) (by simp) (by simp) ho;have q1:a.1=b.1:=q1;have x:=pP ha.l (q1 ▸ hb.l);refine⟨⟨nO ha.w x (X4 (nK ha) (q1 ▸ nK hb)),q2.symm⟩,kk λk1 k2=>?_⟩;show GW (VI a.1 (Bd a.2.1 b.2.1) (AM (ON a) (ON b)));rw[VJ ha k1,VJ hb k2,show AM 0 0=(0:Int) by decide];exact nM x.1
  |plus=>obtain⟨q1,q2⟩:=UP (by simp) (by simp) (by simp) ho;exact⟨⟨pI ha 0,q2.symm⟩,kk λk1 k2=>pH ha hb (by decide) k1 k2⟩
  |minus=>obtain⟨q1,q2⟩:=UP (by simp) (by simp) (by simp) ho;exact⟨⟨pI ha 1,q2.symm⟩,kk λk1 k2=>pH ha (oV hb) (by decide) k1 (oU k2)⟩
 |_=>cases ho
noncomputable def gA (lo hi:Int):Int:=if lo%2=hi%2 then lo%2 else 2
theorem TB (h:M p=none):JL (put M p o) p=M:=by
 funext b;unfold JL put;by_cases e:b=p
 .simp[e,h]
 .simp[e]
def bq:DW:=λds M Q=>Gx ds λx=>∃s,x=Hh s/\s.1=1/\∀p,M p=none->Q (.ref p) (put M p (.lst [.int (gA s.2.1 s.2.2)]))
attribute[local method_specs_simp]bn
attribute[local method_specs_simp ↓]Zj3 Zj2 Zj1 Zj6 Zj5 Zj4
attribute[local method_specs_simp ↓]vO bq
theorem ZkB:Od T T.x20 2 bq:=by
 refine Co.p1 T.x20.d.F ["span", "lows", "highs"] λx M Q hr nN h=>?_;obtain⟨s,rfl,hs,q⟩:=h;refine⟨_,(qC (CC 1 nN (Ln (Ay T.x5.d (wF T) nofun (qA (Bg BE (qv 0) Ak) (qA (Bg BE (qv 0) Ak) qN))))) (qC (CC 2 nN (Ln (Ay T.x5.d (wF T) nofun (qA (Bg BE (qv 0) Ak) (qA (Bg BE (qv 0) Ak) qN))))) (qO (CH (Uk (ns:=["high"]) (caps:=[]) ⟨⟨rfl,by rfl,by rfl,by rfl,rfl,by rfl,by nofun⟩,by rfl,by nofun⟩ rfl (nr T.B.zip (qA (qv 1) (qA (qv 2) qN))) (λ_ _ _ _ _ _=>(JH (AY CS (qv 0) (qv 1)) (qv 0) Ak)) (λ_ _ _ _ _ _=>(Nc (Md (show(["low", "high"]:List Str).Nodup by nofun) rfl (B4 rfl)) (Nc (Md (show(["low", "high"]:List Str).Nodup by nofun) rfl (B4 rfl)) UN)))))))),?_⟩;right;rw[hs];refine⟨by decide,λp hp=>?_⟩;rw[Dc];dsimp only;rw[TB hp];refine⟨by decide,λp' hp'=>?_⟩;rw[Dc];dsimp only;rw[TB hp'];refine LD.ints (λx y=>if x=y then x else 2) (GK (by rw[tS];decide)) trivial (λx y hxy R r=>?_) ?_
 .simp only[capT,AQ,Dx,Ei,FP];grind;split at r
  .next h=>rw[if_pos h];exact r
  .next h=>rw[if_neg h];exact r
 .intro p2 hp2;have e2:∀x,HK (1:Int).toNat x=[x%2]:=λx=>by rw[show(1:Int).toNat=0+1 from rfl,Zn5];rfl
  rw[e2,e2];exact Dn.of (q p2 hp2)
attribute[local method_specs_simp ↓]tH
def c7:DW:=λds M Q=>Gx ds λx=>E4 x λn=>(1<=n/\n<=64)/\Q (Np (Ax n.toNat 2)) M
theorem Zgx:Od T T.x21 2 c7:=by
 refine Co.p1 T.x21.d.F ["width"] λx M Q hr nN h1=>?_;symm;obtain⟨n,e1',⟨n1,n64⟩,q⟩:=CY h1;cutsat;subst e1';refine⟨_,(qO (CH (CG (qA (qv 0) (qA Ak (qA (Ay T.x4.d (UH T) nofun (qA (qv 0) (qA (Rm ZG Ak) qN))) qN)))))),?_⟩;unfold Np at q;rw[oS,oJ,Br,show((n.toNat:Nat):Int)=n by ext]at q;right;refine⟨⟨by ext,by ext⟩,?_⟩;have e:=vn (x:=0) (w:=n.toNat) (by decide) (Wb _);rw[show(-1:Int)=-0-1 by decide,e,Int.sub_zero];exact Dn.of q
def c8:DW:=λds M Q=>IZ ds λx y z=>∃(ms:List Int) (p:Nat) (m:Int),x=Np ms/\y=.int p/\z=.int m/\YF ms/\p<ms.length/\Mk m/\Q (Np (ms.set p m)) M
attribute[local method_specs_simp ↓]c8
section
set_option hygiene false in
local macro_rules | `(tactic| simp_arith [$xs,*])=>`(tactic| simp -failIfUnchanged -implicitDefEqProofs only[↓reduceIte,reduceCtorEq,WJ,WK,Vu,Vv,RI,MM,ML,Vs,Vx,Vt,Vw,WL,Hl,SK,Hl,method_specs_simp,$xs,*])
theorem Zjb:Od T T.x22 1 c8:=by
 refine Co.p3 T.x22.d.F ["span", "place", "mark", "bit", "low", "high"] λx y z M Q hr nN h=>?_;symm;obtain⟨ms,p,m,e1',e2',e3',hs,hp,hm,q⟩:=h;cutsat;subst e1' e2' e3';refine⟨_,(qC (CC 3 nN (BG VS Ak (qv 1))) (qC (CC 4 nN (JH (AY CS (qv 2) Ak) (BG Kg (Bg BE (qv 0) Ak) (qv 3)) (BG Tr (Bg BE (qv 0) Ak) (Rm VN (qv 3))))) (qC (CC 5 nN (JH (AY CS (qv 2) Ak) (BG Tr (Bg BE (qv 0) Ak) (Rm VN (qv 3))) (BG Kg (Bg BE (qv 0) Ak) (qv 3)))) (qO (CH (CG (qA (Bg BE (qv 0) Ak) (qA (qv 4) (qA (qv 5) qN))))))))),?_⟩;unfold Np at q;rw[List.length_set]at q;have p64:p<64:=by have:=hs.2.2;ext
 have cp:Ph 1 (p:Int):=⟨by ext,by ext,by decide⟩;rcases hm with rfl|rfl|rfl
 .rw[jD (by decide) ms p hp,qW ms p hp]at q;right;rw[Ng,Bt];exact⟨cp,Dn.of q⟩
 .rw[qD ms p hp,jA (by decide) ms p hp]at q;right;rw[Ng,Bt];exact⟨cp,Dn.of q⟩
 .rw[jD (by decide) ms p hp,jA (by decide) ms p hp]at q;right;rw[Ng,Bt];exact⟨cp,Dn.of q⟩
end
def yW:DW:=λds M Q=>Gx ds λx=>∃s,x=Hh s/\Q (.int (ON s)) M
theorem Wa:Od T T.x26 1 yW:=by
 refine Co.p1 T.x26.d.F ["span"] λx M Q hr nN h=>?_;obtain⟨s,rfl,q⟩:=h;refine⟨_,(qO (CH (BG Ts (Bg BE (qv 0) Ak) (Bg BE (qv 0) Ak)))),?_⟩;right;exact Dn.of q
attribute[local method_specs_simp ↓]yW
def zS:DW:=λds M Q=>FI ds λx y=>∃a b,x=Hh a/\y=Hh b/\Q (Hh (Jj a b)) M
theorem Zjf:Od T T.x31 2 zS:=by
 refine Co.p2 T.x31.d.F ["one", "other", "unknown"] λx y M Q hr nN h=>?_;symm;obtain⟨a,b,e1',e2',q⟩:=h;cutsat;subst e1' e2';refine⟨_,(qC (CC 2 nN (BG Kg (Ay T.x26.d (Wa T) nofun (qA (qv 0) qN)) (Ay T.x26.d (Wa T) nofun (qA (qv 1) qN)))) (qC (ED (AY XI (BG Tr (BG Ts (Bg BE (qv 0) Ak) (Bg BE (qv 1) Ak)) (Rm VN (qv 2))) Ak) (qO (CH (CG (X7 (.int (.int (.int .nil))))))) qE) (qO (CH (CG (qA Ak (qA (JH (AY CS (qv 2) Ak) Ak Ak) (qA Ak qN)))))))),?_⟩;right;refine⟨a,rfl,b,rfl,?_⟩
 (try grind)
 unfold Jj at q;refine CD (λc=>?_) λc=>?_
 .rw[if_neg c]at q;exact Dn.of q
 .rw[if_pos (Decidable.not_not.mp c)]at q;refine CD (λd=>?_) λd=>?_
  .rw[if_pos d]at q;exact Dn.of q
  .rw[if_neg d]at q;exact Dn.of q
def zY:DW:=λds M Q=>IZ ds λx y z=>∃i a b,x=.int i/\y=.int a/\z=.int b/\Q (Hh (VI i a b)) M
theorem wG:Od T T.x27 1 zY:=by
 refine Co.p3 T.x27.d.F ["width", "word", "unknown"] λx y z M Q hr nN h=>?_;symm;obtain⟨i,a,b,e1',e2',e3',q⟩:=h;cutsat;subst e1' e2' e3';refine⟨_,(qO (CH (CG (qA (qv 0) (qA (BG Tr (qv 1) (Rm VN (qv 2))) (qA (BG Kg (qv 1) (qv 2)) qN)))))),?_⟩;right;exact Dn.of q
attribute[local method_specs_simp ↓]zY
def xX:DW:=λds M Q=>IZ ds λx y z=>∃a b c,x=Hh a/\y=Hh b/\z=.int c/\(1<=a.1/\a.1<=64)/\Q (Hh (O5 a b c)) M
theorem wM:Od T T.x29 2 xX:=by
 refine Co.p3 T.x29.d.F ["one", "other", "carry", "low", "high", "low_carries", "high_carries", "unknown"] λx y z M Q hr nN h=>?_;symm;obtain⟨a,b,c,e1',e2',e3',hw,q⟩:=h;cutsat;subst e1' e2' e3';refine⟨_,(qC (CC 3 nN (BG Hu (BG Hu (Bg BE (qv 0) Ak) (Bg BE (qv 1) Ak)) (qv 2))) (qC (CC 4 nN (BG Hu (BG Hu (Bg BE (qv 0) Ak) (Bg BE (qv 1) Ak)) (qv 2))) (qC (CC 5 nN (BG Ts (BG Ts (qv 3) (Bg BE (qv 0) Ak)) (Bg BE (qv 1) Ak))) (qC (CC 6 nN (BG Ts (BG Ts (qv 4) (Bg BE (qv 0) Ak)) (Bg BE (qv 1) Ak))) (qC (CC 7 nN (BG Kg (BG Kg (Ay T.x26.d (Wa T) nofun (qA (qv 0) qN)) (Ay T.x26.d (Wa T) nofun (qA (qv 1) qN))) (BG Ts (qv 5) (qv 6)))) (qO (CH (Ay T.x27.d (wG T) nofun (qA (Bg BE (qv 0) Ak) (qA (Ay T.x4.d (UH T) nofun (qA (Bg BE (qv 0) Ak) (qA (qv 3) qN))) (qA (Ay T.x4.d (UH T) nofun (qA (Bg BE (qv 0) Ak) (qA (qv 7) qN))) qN))))))))))),?_⟩;right;refine⟨a,rfl,b,rfl,?_⟩
 (try grind)
 exact⟨⟨by ext,by ext⟩,⟨by ext,by ext⟩,_,_,_,rfl,rfl,rfl,Dn.of q⟩
def zG:DW:=λds M Q=>FI ds λx y=>∃a b,x=Hh a/\y=Hh b/\Q (Hh (MX a b)) M
theorem Zjl:Od T T.x30 1 zG:=by
 refine Co.p2 T.x30.d.F ["one", "other"] λx y M Q hr nN h=>?_;symm;obtain⟨a,b,e1',e2',q⟩:=h;cutsat;subst e1' e2';refine⟨_,(qO (CH (CG (qA Ak (qA (JH (AY Lp (Bg BE (qv 0) Ak) (Bg BE (qv 1) Ak)) Ak Ak) (qA (JH (AY Lp (Bg BE (qv 0) Ak) (Bg BE (qv 1) Ak)) Ak Ak) qN)))))),?_⟩;right;unfold MX Hh at q;by_cases c1:a.2.2<b.2.1<;>by_cases c2:a.2.1<b.2.2<;>simp only[c1,c2,if_true,if_false]at q ⊢<;>exact Dn.of q
def br:DW:=λds M Q=>Gx ds λx=>∃s,x=Hh s/\(1<=s.1/\s.1<=64)/\Q (Hh (Oe s)) M
theorem xP:Od T T.x28 2 br:=by
 refine Co.p1 T.x28.d.F ["span"] λx M Q hr nN h=>?_;obtain⟨s,rfl,hw,q⟩:=h;refine⟨_,(qO (CH (CG (qA (Bg BE (qv 0) Ak) (qA (Ay T.x4.d (UH T) nofun (qA (Bg BE (qv 0) Ak) (qA (Rm VN (Bg BE (qv 0) Ak)) qN))) (qA (Ay T.x4.d (UH T) nofun (qA (Bg BE (qv 0) Ak) (qA (Rm VN (Bg BE (qv 0) Ak)) qN))) qN)))))),?_⟩;right;exact⟨⟨by ext,by ext⟩,⟨by ext,by ext⟩,Dn.of q⟩
attribute[local method_specs_simp ↓]zS xX zG br
def be:DW:=λds M Q=>IZ ds λx y z=>∃o a b,x=.str o.nm/\y=Hh a/\z=Hh b/\(1<=a.1/\a.1<=64)/\(1<=b.1/\b.1<=64)/\o≠.join/\Q (Hh (RV o a b)) M
theorem Zhd:Od T T.x25 3 be:=by
 refine Co.p3 T.x25.d.F ["form", "one", "other"] λx y z M Q hr nN h=>?_;symm;obtain⟨o,a,b,e1',e2',e3',ha,hb,hj,q⟩:=h;cutsat;subst e1' e2' e3';refine⟨_,(qC (ED (AY CS (qv 0) BX) (qO (CH (CG (qA (Bg BE (qv 1) Ak) (qA (BG Tr (Bg BE (qv 1) Ak) (Bg BE (qv 2) Ak)) (qA (BG Tr (Bg BE (qv 1) Ak) (Bg BE (qv 2) Ak)) qN)))))) qE) (qC (ED (AY CS (qv 0) BX) (qO (CH (CG (qA (Bg BE (qv 1) Ak) (qA (BG Kg (Bg BE (qv 1) Ak) (Bg BE (qv 2) Ak)) (qA (BG Kg (Bg BE (qv 1) Ak) (Bg BE (qv 2) Ak)) qN)))))) qE) (qC (ED (AY CS (qv 0) BX) (qO (CH (Ay T.x27.d (wG T) nofun (qA (Bg BE (qv 1) Ak) (qA (BG Ts (Bg BE (qv 1) Ak) (Bg BE (qv 2) Ak)) (qA (BG Kg (Ay T.x26.d (Wa T) nofun (qA (qv 1) qN)) (Ay T.x26.d (Wa T) nofun (qA (qv 2) qN))) qN)))))) qE) (qC (ED (AY CS (qv 0) BX) (qO (CH (Ay T.x29.d (wM T) nofun (qA (qv 1) (qA (qv 2) (qA Ak qN)))))) qE) (qC (ED (AY CS (qv 0) BX) (qO (CH (Ay T.x29.d (wM T) nofun (qA (qv 1) (qA (Ay T.x28.d (xP T) nofun (qA (qv 2) qN)) (qA Ak qN)))))) qE) (qC (ED (AY CS (qv 0) BX) (qO (CH (Ay T.x30.d (Zjl T) nofun (qA (qv 1) (qA (qv 2) qN))))) qE) (qO (CH (Ay T.x31.d (Zjf T) nofun (qA (qv 1) (qA (qv 2) qN))))))))))),?_⟩;cases o<;>simp only[FE.nm]
 case and=>
  right;exact Dn.of q
 case or=>
  right;exact Dn.of q
 case xor=>
  right;rw[if_neg (by nofun),if_neg (by nofun)];exact⟨a,rfl,b,rfl,_,_,_,rfl,rfl,rfl,Dn.of q⟩
 case plus=>
  right;exact⟨a,b,0,rfl,rfl,rfl,ha,Dn.of q⟩
 case minus=>
  right;exact⟨b,rfl,hb,a,Oe b,1,rfl,rfl,rfl,ha,Dn.of q⟩
 case less=>
  right;exact⟨a,b,rfl,rfl,Dn.of q⟩
 case same=>
  right;exact⟨a,b,rfl,rfl,Dn.of q⟩
 case join=>exact absurd rfl hj
def zH:DW:=λds M Q=>IZ ds λx y z=>∃s lo m,x=Hh s/\y=.int lo/\z=.int m/\(0<=lo/\1<=m/\m<=64)/\Q (Hh (MU s lo m)) M
theorem Zjj:Od T T.x34 2 zH:=by
 refine Co.p3 T.x34.d.F ["span", "low", "many"] λx y z M Q hr nN h=>?_;symm;obtain⟨ms,lo,m,e1',e2',e3',⟨h0,h1,h2⟩,q⟩:=h;cutsat;subst e1' e2' e3';refine⟨_,(qO (CH (CG (qA (qv 2) (qA (Ay T.x4.d (UH T) nofun (qA (qv 2) (qA (BG hX (Bg BE (qv 0) Ak) (qv 1)) qN))) (qA (Ay T.x4.d (UH T) nofun (qA (qv 2) (qA (BG hX (Bg BE (qv 0) Ak) (qv 1)) qN))) qN)))))),?_⟩;right;exact⟨h0,⟨by ext,by ext⟩,h0,⟨by ext,by ext⟩,Dn.of q⟩
def zI:DW:=λds M Q=>IZ ds λx y z=>∃c a b,x=Hh c/\y=Hh a/\z=Hh b/\Q (Hh (Jn c a b)) M
theorem Zji:Od T T.x32 1 zI:=by
 refine Co.p3 T.x32.d.F ["chosen", "one", "other"] λx y z M Q hr nN h=>?_;symm;obtain⟨c,a,b,e1',e2',e3',q⟩:=h;cutsat;subst e1' e2' e3';refine⟨_,(qC (ED (AY CS (Bg BE (qv 0) Ak) Ak) (qO (CH (qv 1))) qE) (qC (ED (AY CS (Bg BE (qv 0) Ak) Ak) (qO (CH (qv 2))) qE) (qO (CH (CG (qA (Bg BE (qv 1) Ak) (qA (BG Tr (Bg BE (qv 1) Ak) (Bg BE (qv 2) Ak)) (qA (BG Kg (Bg BE (qv 1) Ak) (Bg BE (qv 2) Ak)) qN)))))))),?_⟩;right;unfold Jn at q;refine CD (λd=>?_) λd=>CD (λd2=>?_) λd2=>?_
 .rw[if_pos d]at q;exact Dn.of q
 .rw[if_neg d,if_pos d2]at q;exact Dn.of q
 .rw[if_neg d,if_neg d2]at q;exact Dn.of q
def zF:DW:=λds M Q=>FI ds λx y=>∃a b,x=Hh a/\y=Hh b/\Rg a/\Rg b/\Q (Hh (MY a b)) M
theorem Zjm:Od T T.x33 1 zF:=by
 refine Co.p2 T.x33.d.F ["one", "other"] λx y M Q hr nN h=>?_;symm;obtain⟨a,b,e1',e2',ha,hb,q⟩:=h;cutsat;subst e1' e2';refine⟨_,(qO (CH (CG (qA (BG Hu (Bg BE (qv 0) Ak) (Bg BE (qv 1) Ak)) (qA (BG Kg (BG VS (Bg BE (qv 0) Ak) (Bg BE (qv 1) Ak)) (Bg BE (qv 1) Ak)) (qA (BG Kg (BG VS (Bg BE (qv 0) Ak) (Bg BE (qv 1) Ak)) (Bg BE (qv 1) Ak)) qN)))))),?_⟩;right;have wb:=hb.w
 have c1:∀{x:Int},JM a.1 x->Ph x b.1:=λ{x} h=>by
  have h2:(2:Int)^a.1.toNat<=2^64:=wq (by have:=ha.w;ext);have h3:=Int.lt_of_lt_of_le h.2 h2;have:=h.1;exact⟨by ext,by ext,by ext⟩
 exact⟨c1 ha.l,c1 ha.h,Dn.of q⟩
attribute[local method_specs_simp ↓]be zH zI zF
def zT:DW:=λds M Q=>FI ds λx y=>∃(t:Tm) (hs:List Sn) (w:Int),x=t.D/\y=.lst (hs.map Hh)/\t.over (hs.map (·.1))=some w/\(∀h∈hs,Rg h)/\Q (Hh (t.rv hs)) M
theorem Zjd:Od T T.x24 4 zT:=by
 refine Co.p2 T.x24.d.F ["term", "held", "form"] λx y M Q hr nN h=>?_;symm;obtain⟨t,hs,wd,e1',e2',ho,hall,q⟩:=h;cutsat;subst e1' e2';refine⟨_,(qC (CC 2 nN (Bg BE (qv 0) Ak)) (qC (ED (AY CS (qv 2) BX) (qO (CH (Ay T.x28.d (xP T) nofun (qA (Bg Hy (qv 1) Ak) qN)))) qE) (qC (ED (AY CS (qv 2) BX) (qO (CH (Ay T.x34.d (Zjj T) nofun (qA (Bg Hy (qv 1) Ak) (qA (Bg BE (qv 0) Ak) (qA (Bg BE (qv 0) Ak) qN)))))) qE) (qC (ED (AY CS (qv 2) BX) (qO (CH (Ay T.x32.d (Zji T) nofun (qA (Bg Hy (qv 1) Ak) (qA (Bg Hy (qv 1) Ak) (qA (Bg Hy (qv 1) Ak) qN)))))) qE) (qC (ED (AY CS (qv 2) BX) (qO (CH (Ay T.x33.d (Zjm T) nofun (qA (Bg Hy (qv 1) Ak) (qA (Bg Hy (qv 1) Ak) qN))))) qE) (qO (CH (Ay T.x25.d (Zhd T) nofun (qA (qv 2) (qA (Bg Hy (qv 1) Ak) (qA (Bg Hy (qv 1) Ak) qN))))))))))),?_⟩;obtain⟨hz,hne⟩:=Tm.over_len ho;rw[Ab]at hz;cases t with
 |num _ _=>exact absurd rfl hne
 |box _=>exact absurd rfl hne
 |late _=>exact absurd rfl hne
 |door _=>exact absurd rfl hne
 |not t=>obtain⟨a,r,rfl,e0⟩:=OG hz;cases AG e0;simp only[Tm.D,AQ,Dx];right;exact⟨a,rfl,(hall a (by simp)).w,Dn.of q⟩
 |part t lo many=>obtain⟨a,r,rfl,e0⟩:=OG hz;cases AG e0;obtain⟨⟨b1,b2,b3⟩,_⟩:=aU ho;have b3:lo+many<=a.1:=b3;have h64:=(hall a (by simp)).w;simp only[Tm.D,AQ,Dx];right;exact⟨a,lo,many,rfl,rfl,rfl,⟨b1,b2,by ext⟩,Dn.of q⟩
 |pick c t u=>obtain⟨c,r,rfl,e0⟩:=OG hz;obtain⟨a,r,rfl,e1⟩:=OG e0;obtain⟨b,r,rfl,e2⟩:=OG e1;cases AG e2;simp only[Tm.D,AQ,Dx];right;exact⟨c,a,b,rfl,rfl,rfl,Dn.of q⟩
 |bin o t u=>
  obtain⟨a,r,rfl,e0⟩:=OG hz;obtain⟨b,r,rfl,e1⟩:=OG e0;cases AG e1;have hA:=hall a (by simp);have hB:=hall b (by simp);simp only[Tm.D,AQ,Dx];right;have hn:=FE.nm_ne (o:=o)
  (try rw[if_neg hn.2.2.2.2.1])
  (try rw[if_neg hn.2.2.2.2.2.2])
  (try rw[if_neg hn.2.2.2.2.2.1])
  by_cases hj:o=.join
  .subst hj;rw[if_pos (show FE.join.nm=Al "join" from rfl)];exact⟨a,b,rfl,rfl,hA,hB,Dn.of q⟩
  .rw[if_neg (show¬o.nm=Al "join" from λe=>hj (FE.nm_inj e))];exact⟨o,a,b,rfl,rfl,rfl,hA.w,hB.w,hj,Dn.of q⟩
theorem Tm.kid_leaf {t k l:Tm}(hk:k∈t.kids)(h:l∈k.leaves):l∈t.leaves:=by
 cases t<;>simp[Tm.kids,Tm.leaves]at hk ⊢
 .subst hk;exact h
 .rcases hk with rfl|rfl
  .exact .inl h
  .exact .inr h
 .rcases hk with rfl|rfl|rfl
  .exact .inl h
  .exact .inr (.inl h)
  .exact .inr (.inr h)
 .subst hk;exact h
structure DT (k0 k1 k2:List (B7×D))(bs es:List (Str×Int))(e:YG)(t:Tm):Prop where
 b:∀x,Tm.box x∈t.leaves->∃w,bs.lookup x=some w/\(Rg (e.b x)/\(e.b x).1=w)/\Du k0 (.inr x)=some (Hh (e.b x))
 l:∀x,Tm.late x∈t.leaves->∃w,bs.lookup x=some w/\(Rg (e.l x)/\(e.l x).1=w)/\Du k1 (.inr x)=some (Hh (e.l x))
 d:∀x,Tm.door x∈t.leaves->∃w,es.lookup x=some w/\(Rg (e.d x)/\(e.d x).1=w)/\Du k2 (.inr x)=some (Hh (e.d x))
theorem DT.kid {k0 k1 k2:List (B7×D)}{bs es:List (Str×Int)}{e:YG}{t k:Tm}(h:DT k0 k1 k2 bs es e t)(hk:k∈t.kids):DT k0 k1 k2 bs es e k:=⟨λx m=>h.b x (Tm.kid_leaf hk m),λx m=>h.l x (Tm.kid_leaf hk m),λx m=>h.d x (Tm.kid_leaf hk m)⟩
theorem uH {ks:List Tm}{ws:List Int}(hl:ws.length=ks.length)(h:∀(i:Nat) (k:Tm) (a:Int),ks[i]? = some k->ws[i]? = some a->(k.rs e).1=a):(ks.map (Tm.rs e)).map (·.1)=ws:=by
 apply Fw;intro i;rw[AH,AH];cases q:ks[i]? with
 |none=>have:=EJ.mp q;rw[EJ.mpr (by ext)];rfl
 |some k=>have hi:=(Ai.mp q).1;have e1:=Ag (by omega:i<ws.length);rw[e1];simp only[G0];rw[h i k _ q e1]
theorem iD {k0 k1 k2:List (B7×D)}{bs es:List (Str×Int)}{e:YG}{t:Tm}{w:Int}(hw:Wd bs es t w):DT k0 k1 k2 bs es e t->(Rg (t.rs e)/\(t.rs e).1=w)/\((∀x,GW (e.b x)/\GW (e.l x)/\GW (e.d x))->GW (t.rs e)):=by
 induction hw with
 |num c=>exact λ_=>⟨⟨⟨⟨c.1,c.2.1⟩,c.2.2,c.2.2⟩,rfl⟩,λ_=>rfl⟩
 | @box x w c=>intro h;obtain⟨w',a1,a2,_⟩:=h.b x (AL.mpr rfl);rw[c]at a1;cases a1;exact⟨a2,λk=>(k x).1⟩
 | @late x w c=>intro h;obtain⟨w',a1,a2,_⟩:=h.l x (AL.mpr rfl);rw[c]at a1;cases a1;exact⟨a2,λk=>(k x).2.1⟩
 | @door x w c=>intro h;obtain⟨w',a1,a2,_⟩:=h.d x (AL.mpr rfl);rw[c]at a1;cases a1;exact⟨a2,λk=>(k x).2.2⟩
 | @over t ws w kid ho ih=>
  intro h;obtain⟨hl,hne⟩:=Tm.over_len ho;have e1:=uH hl λi k a h1 h2=>(ih i k a h1 h2 (h.kid (Aw h1))).1.2
  have hm:∀s∈t.kids.map (Tm.rs e),Rg s/\((∀x,GW (e.b x)/\GW (e.l x)/\GW (e.d x))->GW s):=λs hs=>by
   obtain⟨k,hk,rfl⟩:=Ap.mp hs;obtain⟨i,hi⟩:=Bp.mp hk;have hi':=(Ai.mp hi).1;have z:=ih i k _ hi (Ag (by omega:i<ws.length)) (h.kid hk);exact⟨z.1.1,z.2⟩
  rw[Tm.rs_kids hne];obtain⟨r1,r2⟩:=lm (by rw[e1];exact ho) λs hs=>(hm s hs).1;exact⟨r1,λk=>r2 λs hs=>(hm s hs).2 k⟩
def Yx (n:Nat)(ds:List D)(M:Mp)(Q:DV):Prop:=FI ds λx y=>Cp (IG x) λt=>∃d0 d1 d2 k0 k1 k2 bs es e,y=.tup [d0,d1,d2]/\(DU M d0=some k0/\DU M d1=some k1/\DU M d2=some k2)/\t.deep<=n/\(∃w,Wd bs es t w)/\DT k0 k1 k2 bs es e t/\Q (Hh (t.rs e)) M
attribute[local method_specs_simp ↓]zT Yx
theorem ZgA {n:Nat}(G_span_of:Od T T.x23 (n+5) (Yx n)):Od T T.x23 (n+6) (Yx (n+1)):=by
 refine Co.p2 T.x23.d.F ["term", "spans", "form"] λx y M Q hr nN h1=>?_;symm;obtain⟨t,e1',d0,d1,d2,k0,k1,k2,bs,es,e,e2',⟨c0,c1,c2⟩,hn,⟨wd,hw⟩,dt,q⟩:=Oi h1;cutsat;subst e1' e2';refine⟨_,(qC (CC 2 nN (Bg BE (qv 0) Ak)) (qC (ED (AY CS (qv 2) BX) (qO (CH (CG (qA (Bg BE (qv 0) Ak) (qA (Bg BE (qv 0) Ak) (qA (Bg BE (qv 0) Ak) qN)))))) qE) (qC (ED (AY CS (qv 2) BX) (qO (CH (Fl (Kj hr) (Bg BE (qv 1) Ak) (Bg BE (qv 0) Ak) (λ_ _=>rfl)))) qE) (qC (ED (AY CS (qv 2) BX) (qO (CH (Fl (Kj hr) (Bg BE (qv 1) Ak) (Bg BE (qv 0) Ak) (λ_ _=>rfl)))) qE) (qC (ED (AY CS (qv 2) BX) (qO (CH (Fl (Kj hr) (Bg BE (qv 1) Ak) (Bg BE (qv 0) Ak) (λ_ _=>rfl)))) qE) (qO (CH (Ay T.x24.d (Zjd T) nofun (qA (qv 0) (qA (Gq (caps:=[("spans",1)]) ⟨rfl,by rfl,by rfl,by rfl,rfl,by rfl,by nofun⟩ rfl (QV (Ay T.x6.d (bK T) nofun (qA (qv 0) qN))) (λ_ _ _ _ _ _=>(Ay T.x23.d G_span_of nofun (qA (qv 0) (qA (qv 1) qN))))) qN)))))))))),?_⟩;by_cases hk:t.kids=[]
 .cases hw with
  |num c=>simp only[Tm.D];right;exact Dn.of q
  | @box x _ c=>obtain⟨w',a1,a2,a5⟩:=dt.b x (AL.mpr rfl);simp only[Tm.D];right;rw[c0,BW,a5];exact Dn.of q
  | @late x _ c=>obtain⟨w',a1,a2,a5⟩:=dt.l x (AL.mpr rfl);simp only[Tm.D];right;rw[c1,BW,a5];exact Dn.of q
  | @door x _ c=>obtain⟨w',a1,a2,a5⟩:=dt.d x (AL.mpr rfl);simp only[Tm.D];right;rw[c2,BW,a5];exact Dn.of q
  |over _ ho=>exact absurd hk (Tm.over_len ho).2
 .cases hw with
  |num c=>exact absurd rfl hk
  |box c=>exact absurd rfl hk
  |late c=>exact absurd rfl hk
  |door c=>exact absurd rfl hk
  | @over _ ws _ kid ho=>
   obtain⟨n1,n2,n3,n4⟩:=Tm.form_ne hk;have n1':=eq_false n1;have n2':=eq_false n2;have n3':=eq_false n3;have n4':=eq_false n4;have hk3:=Tm.kids_le t;obtain⟨hl,hne⟩:=Tm.over_len ho;have kd:∀i (k:Tm) (a:Int),t.kids[i]? = some k->ws[i]? = some a->Rg (k.rs e)/\(k.rs e).1=a:=λi k a h1 h2=>(iD (kid i k a h1 h2) (dt.kid (Aw h1))).1;have e1:=uH (e:=e) hl λi k a h1 h2=>(kd i k a h1 h2).2
   have kw:∀k∈t.kids,Rg (k.rs e)/\∃w,Wd bs es k w:=λk hkm=>by
    obtain⟨i,hi⟩:=Bp.mp hkm;have hi':=(Ai.mp hi).1;have e2:=Ag (by omega:i<ws.length);exact⟨(kd i k _ hi e2).1,_,kid i k _ hi e2⟩
   rw[Tm.rs_kids hne]at q;right;simp only[lF,n1',n2',n3',n4'];grind;refine ET.of (f:=λk=>Hh (k.rs e)) (GK (by ext)) trivial (λk hkm R r=>?_) ?_
   .have dk:=Tm.deep_kid hkm;walk_at "cap";exact⟨d0,d1,d2,k0,k1,k2,bs,es,e,rfl,⟨c0,c1,c2⟩,by ext,(kw k hkm).2,dt.kid hkm,r⟩
   (try grind)
   refine⟨t,t.kids.map (Tm.rs e),wd,rfl,by rw[BA];rfl,by rw[e1];exact ho,λm hm=>?_,Dn.of q⟩;obtain⟨k,hkm,rfl⟩:=Ap.mp hm;exact(kw k hkm).1
theorem wI (T:Tv P w K mg base):∀n,Od T T.x23 (n+5) (Yx n)
 |0=>by
  have no:∀ds M Q,¬Yx 0 ds M Q:=λds M Q h=>by
   obtain⟨x,y,rfl,h1⟩:=Lo h;symm;obtain⟨t,e1',d0,d1,d2,k0,k1,k2,bs,es,e,e2',_,hn,_⟩:=Oi h1;cutsat;subst e1' e2';have:=t.deep_pos;ext
  exact V9 no
 |n+1=>ZgA T (wI T n)
theorem ZF {M:Mp}{x:D}{xs:List D}(h:Bh M x=some xs):HH M x=some xs:=by
 cases x with
 |tup _=>cases h
 |_=>exact h
def de:DW:=λds M Q=>IZ ds λx y _=>Cp (Bh M x) λxs=>E4 y λn=>(xs.length:Int)<=n/\Q .non M
theorem bJ:Od T T.x36 1 de:=by
 refine Co.p3 T.x36.d.F ["things", "most", "called"] λx y z M Q hr nN h1=>?_;obtain⟨xs,hl,h2⟩:=Cn h1;obtain⟨n,rfl,hn,q⟩:=CY h2;refine⟨_,(qO (ED (AY Lq (Cv Ma T.B.len CK (qA (qv 0) qN)) (qv 1)) (qO Pe) qE)),?_⟩;right;rw[ZF hl,BW];exact CD (λc=>absurd c (by ext)) λ_=>Dn.of q
noncomputable def Go (ts:List Str):List (B7×D):=ts.map λz=>(.inr z,.bl true)
noncomputable def MQ:List (B7×D)->Option (List Str)
 |[]=>some []
 |(.inr z,.bl true)::r=>(MQ r).map (z::·)
 |_::_=>none
theorem iM:∀ts,MQ (Go ts)=some ts
 |[]=>rfl
 |z::r=>by
  show(MQ (Go r)).map (z::·)=_;rw[iM r];rfl
theorem jK:∀{AR:List (B7×D)}{ts:List Str},MQ AR=some ts->AR=Go ts
 |[],ts,h=>by cases h;rfl
 |(.inr z,.bl true)::r,ts,h=>by
  rw[MQ]at h;cases e:MQ r with
  |none=>rw[e]at h;cases h
  |some us=>rw[e]at h;cases h;rw[jK e];rfl
 |(.inl z,_)::r,ts,h=>by cases h
 |(.inr z,.bl false)::r,ts,h=>by cases h
 |(.inr z,.str _)::r,ts,h=>by cases h
 |(.inr z,.int _)::r,ts,h=>by cases h
 |(.inr z,.non)::r,ts,h=>by cases h
 |(.inr z,.tup _)::r,ts,h=>by cases h
 |(.inr z,.lst _)::r,ts,h=>by cases h
 |(.inr z,.dic _)::r,ts,h=>by cases h
 |(.inr z,.ref _)::r,ts,h=>by cases h
theorem pJ (z:Str):∀ts,((Go ts).any λkv=>decide (kv.1=.inr z))=decide (z∈ts)
 |[]=>rfl
 |y::r=>by
  show(decide ((FF y:B7)=.inr z) || (Go r).any λkv=>decide (kv.1=.inr z))=_;rw[pJ z r];by_cases e:y=z
  .subst e;simp
  .have e':¬z=y:=λq=>e q.symm;simp[e,e']
theorem pL (z:Str):∀ts,(Du (Go ts) (.inr z)).isSome=decide (z∈ts)
 |[]=>rfl
 |y::r=>by
  by_cases e:y=z
  .subst e;simp[Du,Go]
  .have h3:Du (Go (y::r)) (.inr z)=Du (Go r) (.inr z):=by simp[Du,Go,Ct,e]
   have e':¬z=y:=λq=>e q.symm;rw[h3,pL z r];simp[e']
theorem pK {z:Str}{ts:List Str}(h:z∉ts):Ht (Go ts) (.inr z) (.bl true)=Go (ts++[z]):=by
 unfold Ht;rw[pJ,decide_eq_false h];simp[Go]
theorem rJ (ts:List Str):(Go ts).length=ts.length:=by unfold Go;rw[Ab]
def R8 (M:Mp)(x:D)(k:List Str->Prop):Prop:=Cp (DU M x) λAR=>Cp (MQ AR) k
theorem j9 (h:R8 M x k):∃ts,DU M x=some (Go ts)/\k ts:=by
 obtain⟨AR,e,h1⟩:=Cn h;obtain⟨ts,e2,q⟩:=Cn h1;rw[jK e2]at e;exact⟨ts,e,q⟩
theorem nZ {M:Mp}{x:D}{ts:List Str}{k:List Str->Prop}(e:DU M x=some (Go ts)):R8 M x k=k ts:=by unfold R8;rw[e,BW,iM,BW]
def Oa (M:Mp)(x:D)(k:Ao->List Str->Prop):Prop:=JZ x λp=>Kz (M p) λAR=>Cp (MQ AR) λts=>k p ts
theorem ZH {M:Mp}{x:D}{k:Ao->List Str->Prop}(h:Oa M x k):∃p ts,x=.ref p/\M p=some (.dic (Go ts))/\k p ts:=by
 obtain⟨p,rfl,h1⟩:=Ik h;cases e:M p with
 |none=>rw[e]at h1;exact h1.elim
 |some o=>
  cases o with
  |lst _=>rw[e]at h1;exact h1.elim
  |dct _=>rw[e]at h1;exact h1.elim
  |obj _ _=>rw[e]at h1;exact h1.elim
  |dic AR=>rw[e]at h1;obtain⟨ts,e2,q⟩:=Cn h1;rw[jK e2]at e;exact⟨p,ts,rfl,e,q⟩
theorem VM {M:Mp}{p:Ao}{ts:List Str}{k:Ao->List Str->Prop}(e:M p=some (.dic (Go ts))):Oa M (.ref p) k=k p ts:=by
 unfold Oa;rw[QR,e,UI,iM,BW]
def df:DW:=λds M Q=>FI ds λx y=>Gh x λz=>R8 M y λts=>z∉ts/\Q .non M
theorem zM:Od T T.x39 1 df:=by
 refine Co.p2 T.x39.d.F ["name", "taken"] λx y M Q hr nN h1=>?_;obtain⟨z,rfl,h2⟩:=Ea h1;obtain⟨ts,ht,hz,q⟩:=j9 h2;refine⟨_,(qO (ED (AY (j7 (Kj hr)) (qv 0) (qv 1) (by with_unfolding_all rfl)) (qO Pe) qE)),?_⟩;right;simp only[ht,BW,jE,pL,decide_eq_false hz];exact Dn.of q
noncomputable def small (c:Nat):Bool:=decide (97<=c/\c<=122)
noncomputable def Gr (z:Str):Bool:=decide (1<=z.length/\z.length<=8) && z.cps.toList.all small
def ZD (z:Str):Prop:=(z.cps.all λc=>decide (c<128))=true
def vP:DW:=λds M Q=>Gx ds λx=>Gh x λz=>(ZD z/\z.length<=1000)/\Q (.bl (Gr z)) M
theorem Zmz:Od T T.x37 1 vP:=by
 refine Co.p1 T.x37.d.F ["text"] λx M Q hr nN h1=>?_;symm;obtain⟨z,e1',⟨ha,hz⟩,q⟩:=Ea h1;cutsat;subst e1';refine⟨_,(qO (CH (R5 (N9 QD QD Ak (Cv ξ T.B.len CK (qA (qv 0) qN)) (Ir T.m_LONGEST_NAME)) (N8 (Cv (ja rfl) T.B.all boot_all (qA (Gq (caps:=[]) ⟨rfl,by rfl,by rfl,by rfl,rfl,by rfl,by nofun⟩ rfl (np (qv 0)) (λ_ _ _ _ _ _=>(N9 sV sV BX (qv 0) BX))) qN)))))),?_⟩;right;refine⟨GK hz,CD (λc1=>CD (λc2=>⟨ha,?_⟩) λc2=>?_) λc1=>?_⟩
 .unfold Kw;refine ET.of (f:=λc=>.bl (small c)) (GK (by rw[BH];exact hz)) trivial (λc hc R r=>?_) ?_
  .walk_at "cap";rw[show(Al "a").cps.toList=[97] by nofun,show(Al "z").cps.toList=[122] by nofun];have l1:([c] < ([97]:List Nat))↔c<97:=by simp[NP]
   have l2:(([122]:List Nat) < [c])↔122<c:=by simp[NP]
   refine CD (λh=>?_) λh=>?_
   .rw[l1]at h;rw[show small c=!decide (([122]:List Nat) < [c]) by unfold small;rw[Dt];simp only[l2,decide_eq_true_eq,NS,Jg,decide_eq_false_iff_not];ext]at r;exact r
   .rw[l1]at h;rw[show small c=false by unfold small;rw[decide_eq_false_iff_not];ext]at r;exact r
  .rw[show(z.cps.toList.map λc=>D.bl (small c))=(z.cps.toList.map small).map D.bl by rw[BA];rfl,vQ,BW];refine Dn.of ?_;rw[Vl];rw[show Gr z=z.cps.toList.all small by unfold Gr;rw[decide_eq_true (by ext),MC]]at q;exact q
 .rw[show Gr z=false by unfold Gr;rw[decide_eq_false (by ext),Fd]]at q;exact Dn.of q
 .rw[show Gr z=false by unfold Gr;rw[decide_eq_false (by ext),Fd]]at q;exact Dn.of q
attribute[local method_specs_simp ↓]df vP
def ez:DW:=λds M Q=>FI ds λx y=>Gh x λz=>Oa M y λp ts=>((ZD z/\z.length<=1000)/\Gr z=true/\z∉ts/\ts.length<=100)/\Q .non (put M p (.dic (Go (ts++[z]))))
theorem lD:Od T T.x38 2 ez:=by
 refine Co.p2 T.x38.d.F ["name", "taken"] λx y M Q hr nN h1=>?_;obtain⟨z,rfl,h2⟩:=Ea h1;symm;obtain⟨p,ts,e1',ht,⟨ha,hn,hz,hl⟩,q⟩:=ZH h2;cutsat;subst e1';refine⟨_,(qC (ED (Lw (GL (Ay T.x37.d (Zmz T) nofun (qA (qv 0) qN)))) (qO Pe) qE) (qC (Fb (Ay T.x39.d (zM T) nofun (qA (qv 0) (qA (qv 1) qN)))) (qO (V2 (Kj hr) (qv 1) (qv 0) Um rfl)))),?_⟩;right;refine⟨ha,CD (λc=>by rw[hn]at c;cases c) λ_=>?_⟩;rw[nZ (mW ht),ht,UI,pK hz,rJ];exact⟨hz,BS (by ext),Dn.of q⟩
noncomputable def Fa (b:Str×Int×Int):D:=.tup [.str b.1,.int b.2.1,.int b.2.2]
noncomputable def G9 (d:Str×Int):D:=.tup [.str d.1,.int d.2]
def Kk (z:Str):Prop:=(ZD z/\z.length<=1000)/\Gr z=true
theorem ZfB :XX is (.tup xs) τ k=(xs.length=is.length/\k (Gp τ is xs)):=rfl
theorem Zfu :Gp τ (i::is) (x::xs)=Gp (τ.set i (some x)) is xs:=by rw[Gp]
theorem Zfv :Gp τ [] []=τ:=by unfold Gp;rfl
theorem UM {M:Mp}{p:Ao}{o:MO}{x:D}{xs:List D}(hp:∀ys,M p≠some (.lst ys))(h:Bh M x=some xs):Bh (put M p o) x=some xs:=by
 cases x with
 |ref q=>
  have hq:q≠p:=λe=>by
   subst e;cases e2:M q with
   |none=>simp[Bh,e2]at h
   |some u=>
    cases u with
    |lst ys=>exact hp ys e2
    |_=>simp[Bh,e2]at h
  unfold Bh at h ⊢;simp only[Dy hq];exact h
 |_=>exact h
theorem XE {M:Mp}{p q:Ao}{a b c d:MO}(h:q≠p):put (put (put (put M p a) q b) p c) q d=put (put M p c) q d:=by
 funext r;unfold put;by_cases e:r=q<;>by_cases e':r=p<;>simp[e,e']
theorem oW {ws:List (Str×Int)}{z:Str}{n:Int}(h:z∉ws.map (·.1)):Ht (Fj ws) (.inr z) (.int n)=Fj (ws++[(z,n)]):=by
 have e:((Fj ws).any λkv=>decide (kv.1=.inr z))=false:=by
  rw[Qk];intro kv hkv;obtain⟨p,hp,rfl⟩:=Ap.mp hkv;simp only[decide_eq_true_eq,Sum.inr.injEq];intro e;exact h (by rw[<- e];exact GZ hp)
 unfold Ht;rw[e];simp[Fj]
theorem bB {α:Type}{f:α->Str}{ts:List Str}{bs:List α}{k:Nat}{b:α}(h:(ts++bs.map f).Nodup)(hb:bs[k]? = some b):f b∉ts++(bs.take k).map f:=by
 obtain⟨hk,e⟩:=Ai.mp hb
 have e2:bs=bs.take k++b::bs.drop (k+1):=by
  rw[<- e,<- Gw hk,HQ]
 rw[e2,AI,AQ,<- Bs]at h;intro hm;have e3:(bs.take k++b::bs.drop (k+1)).take k=bs.take k:=by rw[<- e2]
 exact(BN.mp h).2.2 _ hm _ AF rfl
def mD (ts:List Str)(bs:List (Str×Int×Int)):Prop:=ts.length+bs.length<=100/\(∀b∈bs,Kk b.1/\1<=b.2.1/\b.2.1<=64/\0<=b.2.2/\b.2.2<2^b.2.1.toNat)/\(ts++bs.map (·.1)).Nodup
def fv:DW:=λds M Q=>FI ds λx y=>∃bs,Bh M x=some (bs.map Fa)/\Oa M y λp ts=>mD ts bs/\∀q,M q=none->Q (.ref q) (put (put M p (.dic (Go (ts++bs.map (·.1))))) q (.dic (Fj (bs.map λb=>(b.1,b.2.1)))))
attribute[local method_specs_simp]ZfB Zfu Zfv CI Ca
attribute[local method_specs_simp ↓]ez fv
theorem ZfH:Od T T.x40 3 fv:=by
 refine Co.p2 T.x40.d.F ["boxes", "taken", "widths", "name", "width", "first"] λx y M Q hr nN h=>?_;obtain⟨bs,hl,h1⟩:=h;symm;obtain⟨p,ts,e1',ht,⟨hb,hall,hnd⟩,q⟩:=ZH h1;cutsat;subst e1';refine⟨_,(qC (CC 2 nN Jl) (EW (KZ AK rfl (J0 (qv 0)) (VX (is:=[3,4,5]) rfl (Nc (Md nN rfl (B4 rfl)) (Nc (Md nN rfl (B4 rfl)) (Nc (Md nN rfl (B4 rfl)) UN)))) (qC (Fb (Ay T.x38.d (lD T) nofun (qA (qv 3) (qA (qv 1) qN)))) (qC (Fb (Ay T.x2.d (lN T) nofun (qA (qv 4) qN))) (qC (Fb (Ay T.x3.d (zN T) nofun (qA (qv 4) (qA (qv 5) qN)))) (qO (V2 (Kj hr) (qv 2) (qv 3) (qv 4) rfl)))))) (qO (CH (qv 2))))),?_⟩;right;intro a ha;have hap:a≠p:=λe=>by rw[e,ht]at ha;cases ha
 have hlM:∀o o',Bh (put (put M p o) a o') x=some (bs.map Fa):=λo o'=>UM (λys e=>by rw[Dy hap,ha]at e;cases e) (UM (λys e=>by rw[ht]at e;cases e) hl)
 have e0:put M a (.dic [])=put (put M p (.dic (Go ts))) a (.dic []):=by
  funext r;unfold put;by_cases e:r=a<;>by_cases e':r=p<;>simp[e,e',ht]
 rw[e0];refine⟨λτ M'=>∃v3 v4 v5,τ=[some x,some (.ref p),some (.ref a),v3,v4,v5]/\M'=put (put M p (.dic (Go (ts++bs.map (·.1))))) a (.dic (Fj (bs.map λb=>(b.1,b.2.1)))),?_,?_⟩
 .grind;simp only[hlM,BW];refine⟨λk τ M'=>∃v3 v4 v5,τ=[some x,some (.ref p),some (.ref a),v3,v4,v5]/\M'=put (put M p (.dic (Go (ts++(bs.take k).map (·.1))))) a (.dic (Fj ((bs.take k).map λb=>(b.1,b.2.1)))),⟨none,none,none,rfl,by simp[Fj]⟩,?_,?_,?_⟩
  .intro k τ M' hI';symm;obtain⟨v3,v4,v5,e1',e2'⟩:=hI';cutsat;subst e1' e2';exact hlM _ _
  .intro k d τ M' hd hI';symm;obtain⟨v3,v4,v5,e1',e2'⟩:=hI';cutsat;subst e1' e2';obtain⟨b,hbk,rfl⟩:=Mc hd;symm;obtain⟨⟨nm1,nm2⟩,w1,w2,f1,f2⟩:=hall b (Aw hbk);cutsat;have et:bs.take (k+1)=bs.take k++[b]:=by rw[Ba,hbk];rfl
   have hk:(bs.take k).length<=bs.length:=by rw[AZ];ext
   simp only[Fa];grind;have hnot:=bB hnd hbk;rw[VM (by rw[Dy (λe=>hap e.symm),Dc])];refine⟨⟨nm1,nm2,hnot,by rw[As,Ab];ext⟩,⟨w1,w2⟩,⟨w1,f1,f2⟩,?_⟩;rw[Dy hap,Dc,UI];refine⟨BS (by unfold Fj;rw[Ab,Ab];ext),_,_,_,rfl,?_⟩;rw[oW (by rw[BA];exact λhm=>hnot (AU _ hm)),XE hap,et,AI,AI,<- Bs];rfl
  .intro τ M' hI';symm;obtain⟨v3,v4,v5,e1',e2'⟩:=hI';cutsat;subst e1' e2';rw[Ab,Be];exact⟨v3,v4,v5,rfl,rfl⟩
 .intro τ M' hI';symm;obtain⟨v3,v4,v5,e1',e2'⟩:=hI';cutsat;subst e1' e2';grind;exact Dn.of (q a ha)
def mB (ts:List Str)(bs:List (Str×Int)):Prop:=ts.length+bs.length<=100/\(∀b∈bs,Kk b.1/\1<=b.2/\b.2<=64)/\(ts++bs.map (·.1)).Nodup
def f8:DW:=λds M Q=>FI ds λx y=>∃bs,Bh M x=some (bs.map G9)/\Oa M y λp ts=>mB ts bs/\∀q,M q=none->Q (.ref q) (put (put M p (.dic (Go (ts++bs.map (·.1))))) q (.dic (Fj bs)))
attribute[local method_specs_simp ↓]f8
theorem ZfG:Od T T.x41 3 f8:=by
 refine Co.p2 T.x41.d.F ["doors", "taken", "widths", "name", "width"] λx y M Q hr nN h=>?_;obtain⟨bs,hl,h1⟩:=h;symm;obtain⟨p,ts,e1',ht,⟨hb,hall,hnd⟩,q⟩:=ZH h1;cutsat;subst e1';refine⟨_,(qC (CC 2 nN Jl) (EW (KZ AK rfl (J0 (qv 0)) (VX (is:=[3,4]) rfl (Nc (Md nN rfl (B4 rfl)) (Nc (Md nN rfl (B4 rfl)) UN))) (qC (Fb (Ay T.x38.d (lD T) nofun (qA (qv 3) (qA (qv 1) qN)))) (qC (Fb (Ay T.x2.d (lN T) nofun (qA (qv 4) qN))) (qO (V2 (Kj hr) (qv 2) (qv 3) (qv 4) rfl))))) (qO (CH (qv 2))))),?_⟩;right;intro a ha;have hap:a≠p:=λe=>by rw[e,ht]at ha;cases ha
 have hlM:∀o o',Bh (put (put M p o) a o') x=some (bs.map G9):=λo o'=>UM (λys e=>by rw[Dy hap,ha]at e;cases e) (UM (λys e=>by rw[ht]at e;cases e) hl)
 have e0:put M a (.dic [])=put (put M p (.dic (Go ts))) a (.dic []):=by
  funext r;unfold put;by_cases e:r=a<;>by_cases e':r=p<;>simp[e,e',ht]
 rw[e0];refine⟨λτ M'=>∃v3 v4,τ=[some x,some (.ref p),some (.ref a),v3,v4]/\M'=put (put M p (.dic (Go (ts++bs.map (·.1))))) a (.dic (Fj bs)),?_,?_⟩
 .grind;simp only[hlM,BW];refine⟨λk τ M'=>∃v3 v4,τ=[some x,some (.ref p),some (.ref a),v3,v4]/\M'=put (put M p (.dic (Go (ts++(bs.take k).map (·.1))))) a (.dic (Fj (bs.take k))),⟨none,none,rfl,by simp[Fj]⟩,?_,?_,?_⟩
  .intro k τ M' hI';symm;obtain⟨v3,v4,e1',e2'⟩:=hI';cutsat;subst e1' e2';exact hlM _ _
  .intro k d τ M' hd hI';symm;obtain⟨v3,v4,e1',e2'⟩:=hI';cutsat;subst e1' e2';obtain⟨b,hbk,rfl⟩:=Mc hd;obtain⟨⟨nm1,nm2⟩,w1,w2⟩:=hall b (Aw hbk);have et:bs.take (k+1)=bs.take k++[b]:=by rw[Ba,hbk];rfl
   have hk:(bs.take k).length<=bs.length:=by rw[AZ];ext
   simp only[G9];grind;have hnot:=bB hnd hbk;rw[VM (by rw[Dy (λe=>hap e.symm),Dc])];refine⟨⟨nm1,nm2,hnot,by rw[As,Ab];ext⟩,⟨w1,w2⟩,?_⟩;rw[Dy hap,Dc,UI];refine⟨BS (by unfold Fj;rw[Ab];ext),_,_,rfl,?_⟩;rw[oW (by exact λhm=>hnot (AU _ hm)),XE hap,et,AI,<- Bs];rfl
  .intro τ M' hI';symm;obtain⟨v3,v4,e1',e2'⟩:=hI';cutsat;subst e1' e2';rw[Ab,Be];exact⟨v3,v4,rfl,rfl⟩
 .intro τ M' hI';symm;obtain⟨v3,v4,e1',e2'⟩:=hI';cutsat;subst e1' e2';grind;exact Dn.of (q a ha)
noncomputable def Kv (w:Str×Tm):D:=.tup [.str w.1,w.2.D]
def Ol (bs es:List (Str×Int))(t:Tm)(n:Int):Prop:=(t.parts<=100/\t.deep<=12)/\Wd bs es t n
structure Q0 (bs es:List (Str×Int))(g:Tm)(wr:List (Str×Tm)):Prop where
 g:Ol bs es g 1
 l:wr.length<=6
 w:∀w∈wr,∃n,bs.lookup w.1=some n/\Ol bs es w.2 n
 nd:(wr.map (·.1)).Nodup
def QB (y:D)(k:List (Str×Int)->Prop):Prop:=Cp (XZ y) λAR=>Cp (MN AR) k
theorem nU {y:D}{k:List (Str×Int)->Prop}(h:QB y k):∃ws,y=.dic (Fj ws)/\k ws:=by
 obtain⟨AR,e,h1⟩:=Cn h;obtain⟨ws,e2,q⟩:=Cn h1;rw[jM e2]at e;cases y with
 |dic ds=>cases e;exact⟨ws,rfl,q⟩
 |_=>cases e
theorem Zhz :QB (.dic (Fj ws)) k=k ws:=by unfold QB XZ;rw[BW,iP,BW]
def dg:DW:=λds M Q=>Te ds λr y bx dx=>∃(nm:Str) (g:Tm) (wx:D) (wr:List (Str×Tm)),r=.tup [.str nm,g.D,wx]/\Bh M wx=some (wr.map Kv)/\Oa M y λp ts=>QB bx λbs=>QB dx λes=>(Kk nm/\nm∉ts/\ts.length<=100/\Q0 bs es g wr)/\Q .non (put M p (.dic (Go (ts++[nm]))))
attribute[local method_specs_simp]Zhz
attribute[local method_specs_simp ↓]de xZ dg
theorem Zih:Od T T.x42 18 dg:=by
 refine Co.p4 T.x42.d.F ["rule", "taken", "box_widths", "door_widths", "written", "box", "term", "width"] λx y z v M Q hr nN h=>?_;symm;obtain⟨nm,g,wx,wr,e1',hl,h1⟩:=h;cutsat;subst e1';symm;obtain⟨p,ts,e1',ht,h2⟩:=ZH h1;cutsat;subst e1';obtain⟨bs,rfl,h3⟩:=nU h2;symm;obtain⟨es,e1',⟨hn,hnt,hlen,rok⟩,q⟩:=nU h3;cutsat;subst e1';refine⟨_,(qC (Fb (Ay T.x38.d (lD T) nofun (qA (Bg BE (qv 0) Ak) (qA (qv 1) qN)))) (qC (Fb (Ay T.x15.d (YA T) nofun (qA (Ay T.x8.d (wP T) nofun (qA (Bg BE (qv 0) Ak) (qA (qv 2) (qA (qv 3) qN)))) (qA Ak qN)))) (qC (Fb (Ay T.x36.d (bJ T) nofun (qA (Bg BE (qv 0) Ak) (qA (Ir T.m_MOST_WRITES) (qA BX qN))))) (qC (CC 4 nN Jl) (qO (KZ AK rfl (J0 (Bg BE (qv 0) Ak)) (VX (is:=[5,6]) rfl (Nc (Md nN rfl (B4 rfl)) (Nc (Md nN rfl (B4 rfl)) UN))) (qC (CC 7 nN (Ay T.x11.d (lP T) nofun (qA (qv 2) (qA (qv 5) qN)))) (qC (Fb (Ay T.x39.d (zM T) nofun (qA (qv 5) (qA (qv 4) qN)))) (qC (V2 (Kj hr) (qv 4) (qv 5) Um rfl) (qO (Fb (Ay T.x15.d (YA T) nofun (qA (Ay T.x8.d (wP T) nofun (qA (qv 6) (qA (qv 2) (qA (qv 3) qN)))) (qA (qv 7) qN)))))))))))))),?_⟩;right;rw[VM ht];have hlM:∀o,Bh (put M p o) wx=some (wr.map Kv):=λo=>UM (λys e=>by rw[ht]at e;cases e) hl;rw[hlM,BW];refine⟨⟨hn.1,hn.2,hnt,hlen⟩,rok.g.1,1,rok.g.2,rfl,by rw[Ab];have:=rok.l;ext,λa ha=>?_⟩;generalize hM2:put M p (.dic (Go (ts++[nm])))=M2 at ha ⊢;have hl2:Bh M2 wx=some (wr.map Kv):=by rw[<- hM2];exact hlM _
 have hl3:∀o,Bh (put M2 a o) wx=some (wr.map Kv):=λo=>UM (λys e=>by rw[ha]at e;cases e) hl2;rw[hM2]at q;rw[hl3,BW];refine⟨λk τ M'=>∃v5 v6 v7,τ=[some (D.tup [D.str nm,g.D,wx]),some (D.ref p),some (D.dic (Fj bs)),some (D.dic (Fj es)),some (D.ref a),v5,v6,v7]/\M'=put M2 a (.dic (Go ((wr.take k).map (·.1)))),⟨none,none,none,rfl,rfl⟩,?_,?_,?_⟩
 .intro k τ M' hI';symm;obtain⟨v5,v6,v7,e1',e2'⟩:=hI';cutsat;subst e1' e2';exact hl3 _
 .intro k d τ M' hd hI';symm;obtain⟨v5,v6,v7,e1',e2'⟩:=hI';cutsat;subst e1' e2';obtain⟨b,hbk,rfl⟩:=Mc hd;obtain⟨n,hb,tok⟩:=rok.w b (Aw hbk);have et:wr.take (k+1)=wr.take k++[b]:=by rw[Ba,hbk];rfl
  have hk:(wr.take k).length<=6:=by rw[AZ];have:=rok.l;ext
  have hnot:b.1∉(wr.take k).map (·.1):=by
   have:=bB (ts:=[]) (f:=λb:Str×Tm=>b.1) (by simpa using rok.nd) hbk;simpa using this
  simp only[Kv];grind;simp only[hb,BW]
  (try grind)
  rw[nZ (mW Dc)];refine⟨hnot,?_⟩;rw[pK hnot,QX,rJ,Ab];refine⟨BS (by ext),tok.1,n,tok.2,rfl,_,_,_,rfl,?_⟩;rw[et,AI];rfl
 .intro τ M' hI';symm;obtain⟨v5,v6,v7,e1',e2'⟩:=hI';cutsat;subst e1' e2';exact QQ (Sub.put ha) q
structure Wk where
 bs:List (Str×Int×Int)
 ds:List (Str×Int)
 rs:List (Str×Tm×List (Str×Tm))
noncomputable def L0 (r:Str×Tm×List (Str×Tm)):D:=.tup [.str r.1,r.2.1.D,.tup (r.2.2.map Kv)]
noncomputable def Wk.D (w:Wk):D:=.tup [.tup (w.bs.map Fa),.tup (w.ds.map G9),.tup (w.rs.map L0)]
noncomputable def Wk.ws (w:Wk):List (Str×Int):=w.bs.map λb=>(b.1,b.2.1)
structure Wk.Ok (w:Wk):Prop where
 b:w.bs.length<=12/\∀b∈w.bs,Kk b.1/\1<=b.2.1/\b.2.1<=64/\0<=b.2.2/\b.2.2<2^b.2.1.toNat
 d:w.ds.length<=6/\∀d∈w.ds,Kk d.1/\1<=d.2/\d.2<=64
 r:w.rs.length<=8/\∀r∈w.rs,Kk r.1/\Q0 w.ws w.ds r.2.1 r.2.2
 nd:(w.bs.map (·.1)++w.ds.map (·.1)++w.rs.map (·.1)).Nodup
def mO (M:Mp)(x:D)(r:Str×Tm×List (Str×Tm)):Prop:=∃wx,x=.tup [.str r.1,r.2.1.D,wx]/\Bh M wx=some (r.2.2.map Kv)
def rG:DW:=λds M Q=>IZ ds λx y z=>∃(w:Wk) (xs:List D),w.Ok/\Bh M x=some (w.bs.map Fa)/\Bh M y=some (w.ds.map G9)/\Bh M z=some xs/\xs.length=w.rs.length/\(∀(i:Nat) x r,xs[i]? = some x->w.rs[i]? = some r->mO M x r)/\Q w.D M
theorem up:Od T T.x35 19 rG:=by
 refine Co.p3 T.x35.d.F ["boxes", "doors", "rules", "taken", "box_widths", "door_widths", "rule"] λx y z M Q hr nN h=>?_;symm;obtain⟨wk,xs,ok,h1,h2,h3,hlen,hr1,q⟩:=h;cutsat;refine⟨_,(qC (Fb (Ay T.x36.d (bJ T) nofun (qA (qv 0) (qA (Ir T.m_MOST_BOXES) (qA BX qN))))) (qC (Fb (Ay T.x36.d (bJ T) nofun (qA (qv 1) (qA (Ir T.m_MOST_DOORS) (qA BX qN))))) (qC (Fb (Ay T.x36.d (bJ T) nofun (qA (qv 2) (qA (Ir T.m_MOST_RULES) (qA BX qN))))) (EW (CC 3 nN Jl) (EW (CC 4 nN (Ln (Ay T.x40.d (ZfH T) nofun (qA (qv 0) (qA (qv 3) qN))))) (EW (CC 5 nN (Ln (Ay T.x41.d (ZfG T) nofun (qA (qv 1) (qA (qv 3) qN))))) (EW (KZ AK rfl (J0 (qv 2)) (Nb (i:=6) nN rfl (B4 rfl)) (qO (Fb (Ay T.x42.d (Zih T) nofun (qA (qv 6) (qA (qv 3) (qA (qv 4) (qA (qv 5) qN)))))))) (qO (CH (CG (qA (Ee Yg T.B.tuple IB (qA (qv 0) qN)) (qA (Ee Yg T.B.tuple IB (qA (qv 1) qN)) (qA (Ee Yg T.B.tuple IB (qA (Gq (caps:=[]) ⟨rfl,by rfl,by rfl,by rfl,rfl,by rfl,by nofun⟩ rfl (J0 (qv 2)) (λ_ _ _ _ _ _=>(CG (qA (Bg BE (qv 0) Ak) (qA (Bg BE (qv 0) Ak) (qA (Ee Yg T.B.tuple IB (qA (Bg BE (qv 0) Ak) qN)) qN)))))) qN)) qN))))))))))))),?_⟩;right;rw[h1,BW,h2,BW,h3,BW];have hb:=ok.b;have hd:=ok.d;have hrr:=ok.r;have hnd:=ok.nd;refine⟨by rw[Ab];ext,by rw[Ab];ext,by ext,?_⟩;refine⟨λτ M'=>∃p,M p=none/\τ=[some x,some y,some z,some (.ref p),none,none,none]/\M'=put M p (.dic (Go [])),?_,?_⟩
 .grind;exact λp hp=>⟨p,hp,rfl,rfl⟩
 intro τ M' hI';symm;obtain⟨p,hp,e1',e2'⟩:=hI';cutsat;subst e1' e2';have keep:∀{x:D} {xs:List D} (o:MO),Bh M x=some xs->Bh (put M p o) x=some xs:=λo h=>UM (λys e=>by rw[hp]at e;cases e) h;refine⟨λτ M'=>τ=[some x,some y,some z,some (.ref p),some (.dic (Fj wk.ws)),none,none]/\M'=put M p (.dic (Go (wk.bs.map (·.1)))),?_,?_⟩
 .grind;refine⟨wk.bs,keep _ h1,?_⟩;rw[VM Dc];refine⟨⟨by simp;ext,hb.2,by rw[Bs]at hnd;simpa using(BN.mp hnd).1⟩,λa ha=>?_⟩;rw[QX,Dc];dsimp only
  have ha':put M p (.dic (Go ([]++wk.bs.map (·.1)))) a=none:=by
   have hap:a≠p:=λe=>by rw[e,Dc]at ha;cases ha
   rw[Dy hap]at ha ⊢;exact ha
  rw[TB ha',FP];exact⟨rfl,rfl⟩
 rintro τ M' ⟨rfl,rfl⟩;refine⟨λτ M'=>τ=[some x,some y,some z,some (.ref p),some (.dic (Fj wk.ws)),some (.dic (Fj wk.ds)),none]/\M'=put M p (.dic (Go (wk.bs.map (·.1)++wk.ds.map (·.1)))),?_,?_⟩
 .grind;refine⟨wk.ds,keep _ h2,?_⟩;rw[VM Dc];refine⟨⟨by simp;ext,hd.2,(BN.mp hnd).1⟩,λa ha=>?_⟩;rw[QX,Dc];dsimp only
  have ha':put M p (.dic (Go (wk.bs.map (·.1)++wk.ds.map (·.1)))) a=none:=by
   have hap:a≠p:=λe=>by rw[e,Dc]at ha;cases ha
   rw[Dy hap]at ha ⊢;exact ha
  rw[TB ha'];exact⟨rfl,rfl⟩
 rintro τ M' ⟨rfl,rfl⟩;refine⟨λτ M'=>∃v6,τ=[some x,some y,some z,some (.ref p),some (.dic (Fj wk.ws)),some (.dic (Fj wk.ds)),v6]/\M'=put M p (.dic (Go (wk.bs.map (·.1)++wk.ds.map (·.1)++wk.rs.map (·.1)))),?_,?_⟩
 .grind;rw[keep _ h3,BW];refine⟨λk τ M'=>∃v6,τ=[some x,some y,some z,some (.ref p),some (.dic (Fj wk.ws)),some (.dic (Fj wk.ds)),v6]/\M'=put M p (.dic (Go (wk.bs.map (·.1)++wk.ds.map (·.1)++(wk.rs.take k).map (·.1)))),⟨none,rfl,by simp⟩,?_,?_,?_⟩
  .rintro k τ M' ⟨v6,rfl,rfl⟩;exact keep _ h3
  .rintro k d τ M' hdk ⟨v6,rfl,rfl⟩;have hk:k<wk.rs.length:=by rw[<- hlen];exact(Ai.mp hdk).1
   have hrk:=Ag hk;generalize wk.rs[k]=r at hrk;obtain⟨wx,rfl,hwx⟩:=hr1 k d r hdk hrk;obtain⟨nok,rok⟩:=hrr.2 r (Aw hrk);have et:wk.rs.take (k+1)=wk.rs.take k++[r]:=by rw[Ba,hrk];rfl
   have hkl:(wk.rs.take k).length<=8:=by rw[AZ];ext
   have hnot:=bB (f:=λb:Str×Tm×List (Str×Tm)=>b.1) hnd hrk;grind;refine⟨r.1,r.2.1,wx,r.2.2,rfl,keep _ hwx,?_⟩;rw[VM Dc];refine⟨⟨nok,hnot,by simp;ext,rok⟩,some (.tup [.str r.1,r.2.1.D,wx]),rfl,?_⟩;rw[QX,et,AI,<- Bs];rfl
  .rintro τ M' ⟨v6,rfl,rfl⟩;rw[hlen,Be];exact⟨v6,rfl,rfl⟩
 rintro τ M' ⟨v6,rfl,rfl⟩;grind;rw[ZF (keep _ h1),BW,ZF (keep _ h2),BW,keep _ h3,BW];have hsub:=Sub.put (o:=.dic (Go (wk.bs.map (·.1)++wk.ds.map (·.1)++wk.rs.map (·.1)))) hp;have h3':=keep (.dic (Go (wk.bs.map (·.1)++wk.ds.map (·.1)++wk.rs.map (·.1)))) h3
 have hr2:∀(i:Nat) x r,xs[i]? = some x->wk.rs[i]? = some r->mO (put M p (.dic (Go (wk.bs.map (·.1)++wk.ds.map (·.1)++wk.rs.map (·.1))))) x r:=λi x r hx hr=>by
  obtain⟨wx,e,hw⟩:=hr1 i x r hx hr;exact⟨wx,e,keep _ hw⟩
 generalize put M p (.dic (Go (wk.bs.map (·.1)++wk.ds.map (·.1)++wk.rs.map (·.1))))=Mx at hsub h3' hr2 ⊢;refine⟨GK (by ext),λi ys M''=>M''=Mx/\ys=(wk.rs.take i).map L0,⟨rfl,rfl⟩,?_,?_,?_⟩
 .rintro i ys M'' ⟨rfl,rfl⟩;exact⟨h3',by rw[Ab,AZ];ext⟩
 .rintro i d ys M'' hdi ⟨rfl,rfl⟩;have hi:i<wk.rs.length:=by rw[<- hlen];exact(Ai.mp hdi).1
  have hri:=Ag hi;generalize wk.rs[i]=r at hri;obtain⟨wx,rfl,hwx⟩:=hr2 i d r hdi hri;walk_at "cap";rw[ZF hwx,BW];rw[Ba,hri,AI];rfl
 .rintro ys M'' ⟨rfl,rfl⟩;rw[hlen,Be];exact QQ hsub q
noncomputable def DP (z:Str)(r:Str×Tm×List (Str×Tm)):Bool:=decide (r.1=z)
def b5:DW:=λds M Q=>FI ds λx y=>Gh y λz=>∃(wk:Wk) (r:Str×Tm×List (Str×Tm)),x=wk.D/\wk.rs.find? (DP z)=some r/\Q (L0 r) M
theorem UW:Od T T.x43 1 b5:=by
 refine Co.p2 T.x43.d.F ["works", "name", "rule"] λx y M Q hr nN h1=>?_;symm;obtain⟨z,e1',wk,r,e2',hf,q⟩:=Ea h1;cutsat;subst e1' e2';refine⟨_,(EW (KZ AK rfl (QV (Bg BE (qv 0) Ak)) (Nb (i:=2) nN rfl (B4 rfl)) (qO (ED (AY CS (Bg BE (qv 2) Ak) (qv 1)) (qO (CH (qv 2))) qE))) (qO Pe)),?_⟩
 (try simp only[N6,N4,N5])
 refine⟨λ_ _=>False,?_,λ_ _ h=>h.elim⟩;simp only[Wk.D];grind;refine⟨λk τ M'=>∃v,τ=[some (.tup [.tup (wk.bs.map Fa),.tup (wk.ds.map G9),.tup (wk.rs.map L0)]),some (.str z),v]/\M'=M/\(wk.rs.drop k).find? (DP z)=some r,⟨none,rfl,rfl,hf⟩,λ_ _ _ _=>trivial,?_,?_⟩
 .intro k d τ M' hd hI';symm;obtain⟨v,e1',e2',hk⟩:=hI';cutsat;subst e1' e2';obtain⟨r',hr',rfl⟩:=Mc hd
  have e:wk.rs.drop k=r'::wk.rs.drop (k+1):=by
   obtain⟨hkl,e⟩:=Ai.mp hr';rw[<- e];exact Gw hkl
  rw[e,Ct]at hk;simp only[L0];grind;refine CD (λc=>?_) λc=>?_
  .rw[show DP z r'=true from decide_eq_true c]at hk;cases hk;exact Dn.of q
  .rw[show DP z r'=false from decide_eq_false c]at hk;exact⟨_,rfl,hk⟩
 .intro τ M' hI';symm;obtain⟨v,e1',e2',hk⟩:=hI';cutsat;subst e1' e2';rw[Ab,Kl]at hk;cases hk
def gj:DW:=λds M Q=>Gx ds λx=>∃wk:Wk,x=wk.D/\wk.Ok/\Q (.lst (wk.rs.map λr=>.str r.1)) M
theorem bL:Od T T.x44 1 gj:=by
 refine Co.p1 T.x44.d.F ["works"] λx M Q hr nN h=>?_;obtain⟨wk,rfl,ok,q⟩:=h;refine⟨_,(qO (CH (Gq (caps:=[]) ⟨rfl,by rfl,by rfl,by rfl,rfl,by rfl,by nofun⟩ rfl (QV (Bg BE (qv 0) Ak)) (λ_ _ _ _ _ _=>(Bg BE (qv 0) Ak))))),?_⟩;simp only[Wk.D];have hr8:=ok.r.1;right;refine ET.of (ks:=wk.rs) (g:=L0) (f:=λr=>.str r.1) (GK (by ext)) trivial (λb hb R r=>?_) ?_
 .simp only[L0];walk_at "cap";exact r
 exact Dn.of q
theorem wB:∀(ps acc:List (B7×D)),((acc++ps).map (·.1)).Nodup->IK acc ps=acc++ps
 |[],acc,_=>by rw[CL];rfl
 |p::ps,acc,h=>by
  have hn:Ht acc p.1 p.2=acc++[p]:=by
   unfold Ht;rw[if_neg];intro hc;rw[C8]at hc;obtain⟨kv,hkv,he⟩:=hc;rw[AI,Fq]at h;exact h.2.2 kv.1 (Ap.mpr ⟨kv,hkv,rfl⟩) p.1 (by simp) (of_decide_eq_true he)
  have ih:=wB ps (acc++[p]) (by rw[Bs];exact h);unfold IK at ih ⊢;rw[DR,hn,ih,Bs];rfl
theorem bA (ps)(h:(ps.map (·.1)).Nodup):IK [] ps=ps:=wB ps [] h
theorem jX (ws)(h:(ws.map (·.1)).Nodup):((Fj ws).map (·.1)).Nodup:=by
 unfold Fj;rw[BA];have:Fc ((λx:B7×D=>x.1) ∘ λp:Str×Int=>((.inr p.1:B7),D.int p.2)) ws=(ws.map (·.1)).map FF:=by rw[BA];rfl
 rw[this];unfold Ez at h ⊢;rw[Cq];exact h.imp λhab e=>hab (DN e)
def zU:DW:=λds M Q=>Gx ds λx=>∃wk:Wk,x=wk.D/\wk.Ok/\Q (.tup [.dic (Fj wk.ws),.dic (Fj wk.ds)]) M
theorem Zjc:Od T T.x45 1 zU:=by
 refine Co.p1 T.x45.d.F ["works"] λx M Q hr nN h=>?_;obtain⟨wk,rfl,ok,q⟩:=h;refine⟨_,(qO (CH (CG (qA (Ee (aI rfl) T.B.dict LO (qA (Gq (caps:=[]) ⟨rfl,by rfl,by rfl,by rfl,rfl,by rfl,by nofun⟩ rfl (QV (Bg BE (qv 0) Ak)) (λ_ _ _ _ _ _=>(CG (qA (Bg BE (qv 0) Ak) (qA (Bg BE (qv 0) Ak) qN))))) qN)) (qA (Ee (aI rfl) T.B.dict LO (qA (Gq (caps:=[]) ⟨rfl,by rfl,by rfl,by rfl,rfl,by rfl,by nofun⟩ rfl (QV (Bg BE (qv 0) Ak)) (λ_ _ _ _ _ _=>(CG (qA (Bg BE (qv 0) Ak) (qA (Bg BE (qv 0) Ak) qN))))) qN)) qN))))),?_⟩;simp only[Wk.D];have hb:=ok.b.1;have hd:=ok.d.1
 have n1:(wk.ws.map (·.1)).Nodup:=by
  have:=ok.nd;rw[Bs,Fq]at this;have e:wk.ws.map (·.1)=wk.bs.map (·.1):=by unfold Wk.ws;rw[BA];rfl
  rw[e];exact this.1
 have n2:(wk.ds.map (·.1)).Nodup:=by
  have:=ok.nd;rw[Fq]at this;exact(BN.mp this.1).2.1
 right;refine ET.of (ks:=wk.bs) (g:=Fa) (f:=λb=>.tup [.str b.1,.int b.2.1]) (GK (by ext)) trivial (λb hb R r=>?_) ?_
 .simp only[Fa];walk_at "cap";exact r
 refine⟨Fj wk.ws,?_,GK (by unfold Fj Wk.ws;rw[Ab,Ab];ext),?_⟩
 .simp[Bh,G7,Fj,Wk.ws,kD]
 rw[bA _ (jX _ n1)]
 (try grind)
 refine ET.of (ks:=wk.ds) (g:=G9) (f:=λb=>.tup [.str b.1,.int b.2]) (GK (by ext)) trivial (λb hb R r=>?_) ?_
 .simp only[G9];walk_at "cap";exact r
 refine⟨Fj wk.ds,?_,GK (by unfold Fj;rw[Ab];ext),?_⟩
 .simp[Bh,G7,Fj,kD]
 rw[bA _ (jX _ n2)];exact Dn.of q
theorem qF (hp:M p=none)(h:Bh M x=some xs):Bh (put M p o) x=some xs:=by
 cases x with
 |ref q=>
  have hq:q≠p:=λe=>by subst e;simp[Bh,hp]at h
  unfold Bh at h ⊢;simp only[Dy hq];exact h
 |_=>exact h
theorem vh (hp:M p=none)(h:DU M x=some AR):DU (put M p o) x=some AR:=by
 cases x with
 |ref q=>
  have hq:q≠p:=λe=>by subst e;simp[DU,hp]at h
  unfold DU at h ⊢;simp only[Dy hq];exact h
 |_=>exact h
noncomputable def gW (s z:Str)(w:Int)(k:Nat):D:=.tup [.str s,.str z,.int (w-1-k)]
noncomputable def KL (s z:Str)(w:Int):List D:=(Bu w.toNat).map (gW s z w)
noncomputable def EL (s:Str)(ws:List (Str×Int))(ss:List Str):List D:=ss.flatMap λz=>KL s z ((ws.lookup z).getD 0)
theorem tR (h:∀z∈ss,∃w,ws.lookup z=some w/\1<=w/\w<=64):(EL s ws ss).length<=ss.length*64:=by
 induction ss with
 |nil=>exact Ek _
 |cons z ss ih=>obtain⟨w,e,h1,h2⟩:=h z AF;have:=ih λz hz=>h z (AE _ hz);unfold EL at this ⊢;rw[List.flatMap_cons,As,e,AO,KL,Ab,Ce];simp only[Option.getD_some];ext
def cr:DW:=λds M Q=>IZ ds λx y z=>Gh x λs=>∃(ss:List Str) (ws:List (Str×Int)),Bh M y=some (ss.map D.str)/\DU M z=some (Fj ws)/\ss.length<=12/\(∀z∈ss,∃w,ws.lookup z=some w/\1<=w/\w<=64)/\∀p,M p=none->Q (.ref p) (put M p (.lst (EL s ws ss)))
attribute[local method_specs_simp ↓]cr
theorem Wg:Od T T.x49 1 cr:=by
 refine Co.p3 T.x49.d.F ["sort", "names", "widths", "bits", "name"] λx y z M Q hr nN h1=>?_;symm;obtain⟨so,e1',ss,ws,hy,hz,l12,hw,q⟩:=Ea h1;cutsat;subst e1';refine⟨_,(qC (CC 3 nN (JG qN)) (EW (KZ AK rfl (J0 (qv 1)) (Nb (i:=4) nN rfl (Hb rfl)) (qO (Fb (Kf AN Cz Cy Sr (qv 3) (qA (Gq (caps:=[("sort",0),("name",4)]) ⟨rfl,by rfl,by rfl,by rfl,rfl,by rfl,by nofun⟩ rfl (Zo5 T.B.range (qA (BG Na (Fl (Kj hr) (qv 2) (qv 4) (λ_ _=>rfl)) Ak) (qA (Rm ZG Ak) (qA (Rm ZG Ak) qN)))) (λ_ _ _ _ _ _=>(CG (qA (qv 1) (qA (qv 2) (qA (qv 0) qN)))))) qN))))) (qO (CH (qv 3))))),?_⟩;right;intro p hp;refine⟨λτ M'=>∃v4,M'=put M p (.lst (EL so ws ss))/\τ=[some (.str so),some y,some z,some (.ref p),v4],?_,?_⟩
 .grind;rw[qF hp hy,BW];refine⟨λk τ M'=>∃v4,M'=put M p (.lst (EL so ws (ss.take k)))/\τ=[some (.str so),some y,some z,some (.ref p),v4],⟨none,rfl,rfl⟩,λ_ _ _ ⟨_,h,_⟩=>(by rw[h];exact qF hp hy),?_,?_⟩
  .rintro k d τ M' hd ⟨v4,rfl,rfl⟩;obtain⟨nm,hn,rfl⟩:=Mc hd;obtain⟨wd,hl,w1,w64⟩:=hw nm (Aw hn);grind;rw[vh hp hz,BW,jL,hl,G0,BW];grind
   have rn:PM (wd-1) (-1)=wd.toNat:=by
    unfold PM;rw[if_pos (by ext)];ext
   have lt:=tR (s:=so) (ss:=ss.take k) λz hz=>hw z (Gm hz);rw[AZ]at lt;have k12:=(Ai.mp hn).1;refine⟨⟨by ext,by ext⟩,?_⟩;rw[rn];unfold MS;refine ET.of (f:=λk:Nat=>gW so nm wd k) (GK (by rw[Ce];ext)) trivial (λi hi R q2=>?_) ?_
   .walk_at "cap";unfold gW at q2;rw[show wd-1+(i:Int)*-1=wd-1-i by ext];exact q2
   .rw[ZK];refine⟨GK (by rw[Ab,Ce];ext),_,?_,rfl⟩;unfold EL;rw[Ba,hn,O1];simp[hl,KL]
  .rintro τ M' ⟨v4,rfl,rfl⟩;rw[Ab,Be];exact⟨v4,rfl,rfl⟩
 rintro τ M' ⟨v4,rfl,rfl⟩;grind;exact Dn.of (q p hp)
def bg:DW:=λds M Q=>FI ds λx y=>∃xs ys,Bh M x=some (xs.map D.str)/\Bh M y=some (ys.map D.str)/\xs.length<=12/\ys.length<=12/\Q (.lst ((KR xs ys).map D.str)) M
theorem aT:Od T T.x47 1 bg:=by
 refine Co.p2 T.x47.d.F ["names", "others"] λx y M Q hr nN h=>?_;symm;obtain⟨xs,ys,hx,hy,l1,l2,q⟩:=h;cutsat;refine⟨_,(qO (CH (XD (.inl rfl) rfl T.B.sorted T.B.set (qv 0) (qv 1)))),?_⟩;have sb:(30:Nat)<Bi:=by decide
 have f1:=UF xs;have f2:=UF ys;right;rw[hx,BW,Pf,BW];refine⟨by ext,by ext,?_⟩
 (try grind)
 rw[hy,BW,Pf,BW];refine⟨by ext,by ext,?_⟩
 (try grind)
 rw[show R6 .BitAnd xs ys=KR xs ys from if_pos rfl];exact Dn.of q
def xY:DW:=λds M Q=>FI ds λx y=>∃xs ys,Bh M x=some (xs.map D.str)/\Bh M y=some (ys.map D.str)/\xs.length<=12/\ys.length<=12/\Q (.lst ((Lv xs ys).map D.str)) M
theorem wO:Od T T.x48 1 xY:=by
 refine Co.p2 T.x48.d.F ["names", "others"] λx y M Q hr nN h=>?_;symm;obtain⟨xs,ys,hx,hy,l1,l2,q⟩:=h;cutsat;refine⟨_,(qO (CH (XD (.inr rfl) rfl T.B.sorted T.B.set (qv 0) (qv 1)))),?_⟩;have sb:(30:Nat)<Bi:=by decide
 have f1:=UF xs;have f2:=UF ys;right;rw[hx,BW,Pf,BW];refine⟨by ext,by ext,?_⟩
 (try grind)
 rw[hy,BW,Pf,BW];refine⟨by ext,by ext,?_⟩
 (try grind)
 rw[show R6 .BitXor xs ys=Lv xs ys from if_neg (by decide)];exact Dn.of q
theorem Tm.leaf_kid {t l:Tm}(hk:t.kids≠[])(h:l∈t.leaves):∃k∈t.kids,l∈k.leaves:=by
 cases t<;>simp[Tm.kids,Tm.leaves]at hk h ⊢
 .exact h
 .exact h
 .exact h
 .exact h
theorem Wd.leaf {w:Int}(h:Wd bs es t w):∀l∈t.leaves,∃a,Wd bs es l a:=by
 induction h with
 |num h=>intro l hl;cases AL.mp hl;exact⟨_,.num h⟩
 |box h=>intro l hl;cases AL.mp hl;exact⟨_,.box h⟩
 |late h=>intro l hl;cases AL.mp hl;exact⟨_,.late h⟩
 |door h=>intro l hl;cases AL.mp hl;exact⟨_,.door h⟩
 | @over t ws w hk ho ih=>
  intro l hl;obtain⟨e1,e2⟩:=Tm.over_len ho;obtain⟨k,mk,lk⟩:=Tm.leaf_kid e2 hl;obtain⟨i,hi,hik⟩:=List.getElem_of_mem mk;have hi2:i<ws.length:=by ext
  exact ih i k ws[i] (by rw[Ag hi,hik]) (Ag hi2) l lk
theorem UL:∀(xs ys:List Str),xs.Nodup->(∀x∈xs,x∈ys)->xs.length<=ys.length
 |[],_,_,_=>Ek _
 |x::xs,ys,nd,h=>by
  rw[El]at nd;have:=UL xs (ys.erase x) nd.2 λy hy=>(List.mem_erase_of_ne (by rintro rfl;exact nd.1 hy)).mpr (h y (AE _ hy));rw[List.length_erase_of_mem (h x AF)]at this;have:=List.length_pos_of_mem (h x AF);rw[AO];ext
theorem Gy :x∈IH xs↔x∈xs:=by
 unfold IH;rw[PC];exact UE xs x
theorem Su (xs):(IH xs).Nodup:=(D5 _ _).nodup_iff.mpr (X5 xs)
theorem V6 {xs zs:List Str}(h:∀x∈xs,x∈zs):(IH xs).length<=zs.length:=UL _ _ (Su xs) λx hx=>h x (Gy.mp hx)
theorem V8 {ws:List (Str×Int)}(h:ws.lookup x=some n):x∈ws.map (·.1):=by
 induction ws with
 |nil=>cases h
 |cons p ws ih=>
  rw[Bx]at h;split at h
  .next e=>exact A5.mpr (.inl (eq_of_beq e))
  .exact AE _ (ih h)
theorem uB {w:Int}(h:Wd bs es t w)(hx:x∈t.names "box"\/x∈t.names "late"):∃n,bs.lookup x=some n:=by
 rcases hx with hx|hx<;>(
  obtain⟨l,hl,hn⟩:=CO.mp hx;obtain⟨a,ha⟩:=h.leaf l hl;have lk:=t.leaves_kids l hl;cases ha with
  |num _=>simp[Tm.nameOf]at hn
  |box e=>simp[Tm.nameOf]at hn;(try obtain⟨_,rfl⟩:=hn);(try subst hn);exact⟨_,e⟩
  |late e=>simp[Tm.nameOf]at hn;(try obtain⟨_,rfl⟩:=hn);(try subst hn);exact⟨_,e⟩
  |door e=>simp[Tm.nameOf,kP,kU]at hn
  | over _ ho=>exact absurd lk (Tm.over_len ho).2)
theorem ZmD {w:Int}(h:Wd bs es t w)(hx:x∈t.names "door"):∃n,es.lookup x=some n:=by
 obtain⟨l,hl,hn⟩:=CO.mp hx;obtain⟨a,ha⟩:=h.leaf l hl;have lk:=t.leaves_kids l hl;cases ha with
 |num _=>simp[Tm.nameOf]at hn
 |box e=>simp[Tm.nameOf,kQ]at hn
 |late e=>simp[Tm.nameOf,kT]at hn
 |door e=>simp[Tm.nameOf]at hn;(try obtain⟨_,rfl⟩:=hn);(try subst hn);exact⟨_,e⟩
 |over _ ho=>exact absurd lk (Tm.over_len ho).2
theorem aK {wk:Wk}(ok:wk.Ok)(h:wk.rs.find? (DP z)=some r):r∈wk.rs/\Q0 wk.ws wk.ds r.2.1 r.2.2:=by
 have hm:=DI h;exact⟨hm,(ok.r.2 r hm).2⟩
noncomputable def Hj (g:Tm):List Str:=IH (g.names "box")
noncomputable def MW (g:Tm):List Str:=IH (g.names "late")
noncomputable def GR (g:Tm):List Str:=IH (g.names "door")
noncomputable def Sh (ws ds:List (Str×Int))(g1 g2:Tm):List D:=
 EL "box" ws (KR (Hj g1) (Hj g2))++EL "door" ds (KR (GR g1) (GR g2))++EL "box" ws (Lv (Hj g1) (Hj g2))++EL "door" ds (Lv (GR g1) (GR g2))++EL "one" ws (MW g1)++EL "other" ws (MW g2)
structure Fg (wk:Wk)(g:Tm):Prop where
 t:g.deep<=12/\g.parts<=100
 b:∀x,x∈g.names "box"\/x∈g.names "late"->x∈wk.ws.map (·.1)/\∃n,wk.ws.lookup x=some n/\1<=n/\n<=64
 d:∀x∈g.names "door",x∈wk.ds.map (·.1)/\∃n,wk.ds.lookup x=some n/\1<=n/\n<=64
 l:(Hj g).length<=12/\(MW g).length<=12/\(GR g).length<=12
theorem sL {ws:List (Str×Int)}(h:ws.lookup x=some n):(x,n)∈ws:=by
 induction ws with
 |nil=>cases h
 |cons p ws ih=>
  rw[Bx]at h;split at h
  .next e=>cases h;rw[eq_of_beq e];exact AF
  .exact AE _ (ih h)
theorem Fg.of {wk:Wk}(ok:wk.Ok){g:Tm}(h:Ol wk.ws wk.ds g 1):Fg wk g:=by
 have hb:∀x,x∈g.names "box"\/x∈g.names "late"->x∈wk.ws.map (·.1)/\∃n,wk.ws.lookup x=some n/\1<=n/\n<=64:=λx hx=>by
  obtain⟨n,e⟩:=uB h.2 hx;refine⟨V8 e,n,e,?_⟩;have:=sL e;unfold Wk.ws at this;obtain⟨b,hb,e2⟩:=Ap.mp this;cases e2;exact⟨(ok.b.2 b hb).2.1,(ok.b.2 b hb).2.2.1⟩
 have hd:∀x∈g.names "door",x∈wk.ds.map (·.1)/\∃n,wk.ds.lookup x=some n/\1<=n/\n<=64:=λx hx=>by
  obtain⟨n,e⟩:=ZmD h.2 hx;exact⟨V8 e,n,e,(ok.d.2 _ (sL e)).2⟩
 have l1:=ok.b.1;have l2:=ok.d.1;have lw:(wk.ws.map (·.1)).length<=12:=by unfold Wk.ws;rw[Ab,Ab];exact l1
 have ld:(wk.ds.map (·.1)).length<=12:=by rw[Ab];ext
 exact⟨⟨h.1.2,h.1.1⟩,hb,hd,A3 (V6 λx hx=>(hb x (.inl hx)).1) lw,A3 (V6 λx hx=>(hb x (.inr hx)).1) lw,A3 (V6 λx hx=>(hd x hx).1) ld⟩
theorem Fg.few (h:Fg wk g):∀f,HM f->(fm (g.names f)).length<64:=by
 obtain⟨l1,l2,l3⟩:=h.l;unfold Hj at l1;unfold MW at l2;unfold GR at l3;rw[jJ]at l1 l2 l3;rintro f (rfl|rfl|rfl)<;>ext
def UX (M:Mp)(g:Tm)(v:D):Prop:=∃a0 a1 a2,v=.tup [.ref a0,.ref a1,.ref a2]/\M a0=some (MG "box" g)/\M a1=some (MG "late" g)/\M a2=some (MG "door" g)
theorem UX.sub (h:UX M g v)(s:Sub M M'):UX M' g v:=by
 obtain⟨a0,a1,a2,e,h0,h1,h2⟩:=h;exact⟨a0,a1,a2,e,s _ _ h0,s _ _ h1,s _ _ h2⟩
theorem pF (m0:M p0=none)(m1:M p1=none)(m2:M p2=none)(n1:¬p1=p0)(n2:¬p2=p0)(n3:¬p2=p1):Sub M (put (put (put M p0 (MG "box" g)) p1 (MG "late" g)) p2 (MG "door" g))/\UX (put (put (put M p0 (MG "box" g)) p1 (MG "late" g)) p2 (MG "door" g)) g (.tup [.ref p0,.ref p1,.ref p2]):=by
 refine⟨Sub.puts (Sub.puts (Sub.put m0) m1) m2,p0,p1,p2,rfl,?_,?_,?_⟩
 .rw[Dy (Bm n2),Dy (Bm n1),Dc]
 .rw[Dy (Bm n3),Dc]
 .rw[Dc]
theorem V7 (l:ss.length<=12)(h:∀z∈ss,∃w,ws.lookup z=some w/\1<=w/\w<=64):(EL s ws ss).length<=768:=by
 have:=tR (s:=s) h;ext
theorem IF (h:M p=some (.lst xs)):KQ M (.ref p)=some "list":=by simp[KQ,h]
theorem oI (h:M p=some (.lst xs))(hy:Bh M y=some ys):Gf (.ref p) [y] M Q=(xs.length+ys.length<=An/\Q .non (put M p (.lst (xs++ys)))):=by
 unfold Gf;rw[QR,ZL,h];simp only[hy,BW]
theorem yu {M2 M3:Mp}(hs:Sub M2 M3)(hp:M2 p=none)(h:M3 p=some (.lst row))(hp':M3 p'=none)(h1:row.length<=5000)(h2:bs.length<=768)(q:∀M4,Sub M2 M4->M4 p=some (.lst (row++bs))->Q .non M4):Gf (.ref p) [.ref p'] (put M3 p' (.lst bs)) Q:=by
 have hM2:M2 p'=none:=by
  cases e:M2 p' with
  |none=>rfl
  |some o=>rw[hs p' o e]at hp';cases hp'
 have ne:p≠p':=λe=>by rw[e,hp']at h;cases h
 rw[oI (by rw[Dy ne];exact h) (OM Dc)];have:(6000:Nat)<=An:=by decide
 exact⟨by ext,q _ (Sub.puts (Sub.puts hs hM2) hp) Dc⟩
section
variable (wk:Wk)(g1 g2:Tm)
noncomputable abbrev nH:=EL "box" wk.ws (KR (Hj g1) (Hj g2))
noncomputable abbrev nG:=nH wk g1 g2++EL "door" wk.ds (KR (GR g1) (GR g2))
noncomputable abbrev nF:=nG wk g1 g2++EL "box" wk.ws (Lv (Hj g1) (Hj g2))
noncomputable abbrev nE:=nF wk g1 g2++EL "door" wk.ds (Lv (GR g1) (GR g2))
noncomputable abbrev nA:=nE wk g1 g2++EL "one" wk.ws (MW g1)
noncomputable abbrev i9:=nA wk g1 g2++EL "other" wk.ws (MW g2)
end
noncomputable abbrev sQ (wk:Wk)(a b:Str)(u v x:Option D:=none):GA:=[some wk.D,some (.str a),some (.str b),some (.tup [.dic (Fj wk.ws),.dic (Fj wk.ds)]),u,v,x]
abbrev Vc (M2 M:Mp)(p:Ao)(row:List D)(n:Nat):Prop:=Sub M2 M/\M2 p=none/\M p=some (.lst row)/\row.length<=n
abbrev Pk (wk:Wk)(a b:Str)(a0 a1 a2 b0 b1 b2:Ao)(M2:Mp)(row:List D)(n:Nat)(τ:GA)(M:Mp):Prop:=∃p,Vc M2 M p row n/\τ=sQ wk a b (some (.tup [.ref a0,.ref a1,.ref a2])) (some (.tup [.ref b0,.ref b1,.ref b2])) (some (.ref p))
theorem Yd {M2 M3:Mp}(j:Vc M2 M3 p row n)(hn:n<=5000)(hp':M3 p'=none)(h2:bs.length<=768)(q:∀M4,Vc M2 M4 p (row++bs) (n+768)->Q .non M4):Gf (.ref p) [.ref p'] (put M3 p' (.lst bs)) Q:=yu j.1 j.2.1 j.2.2.1 hp' (A3 j.2.2.2 hn) h2 λM4 h h'=>q M4 ⟨h,j.2.1,h',by rw[As];exact Nat.add_le_add j.2.2.2 h2⟩
def cq:DW:=λds M Q=>IZ ds λx y z=>Gh y λa=>Gh z λb=>∃(wk:Wk) (r1 r2:Str×Tm×List (Str×Tm)),x=wk.D/\wk.Ok/\wk.rs.find? (DP a)=some r1/\wk.rs.find? (DP b)=some r2/\∀p,M p=none->Q (.ref p) (put M p (.lst (Sh wk.ws wk.ds r1.2.1 r2.2.1)))
attribute[local method_specs_simp]sQ
attribute[local method_specs_simp ↓]zU vD bg b5 xY cq
theorem Zik:Od T T.x46 17 cq:=by
 refine Co.p3 T.x46.d.F ["works", "one", "other", "widths", "mine", "yours", "row"] λx y z M Q hr nN h1=>?_;obtain⟨a,rfl,h2⟩:=Ea h1;symm;obtain⟨b,e1',wk,r1,r2,e2',ok,f1,f2,q⟩:=Ea h2;cutsat;subst e1' e2';have o1:=(aK ok f1).2.g;have o2:=(aK ok f2).2.g;refine⟨_,(EW (CC 3 nN (Ay T.x45.d (Zjc T) nofun (qA (qv 0) qN))) (EW (CC 4 nN (Ay T.x17.d (aP T) nofun (qA (Bg BE (Ay T.x43.d (UW T) nofun (qA (qv 0) (qA (qv 1) qN))) Ak) qN))) (EW (CC 5 nN (Ay T.x17.d (aP T) nofun (qA (Bg BE (Ay T.x43.d (UW T) nofun (qA (qv 0) (qA (qv 2) qN))) Ak) qN))) (EW (CC 6 nN (Ay T.x49.d (Wg T) nofun (qA BX (qA (Ay T.x47.d (aT T) nofun (qA (Bg BE (qv 4) Ak) (qA (Bg BE (qv 5) Ak) qN))) (qA (Bg BE (qv 3) Ak) qN))))) (EW (Fb (Kf AN Cz Cy Sr (qv 6) (qA (Ay T.x49.d (Wg T) nofun (qA BX (qA (Ay T.x47.d (aT T) nofun (qA (Bg BE (qv 4) Ak) (qA (Bg BE (qv 5) Ak) qN))) (qA (Bg BE (qv 3) Ak) qN)))) qN))) (EW (Fb (Kf AN Cz Cy Sr (qv 6) (qA (Ay T.x49.d (Wg T) nofun (qA BX (qA (Ay T.x48.d (wO T) nofun (qA (Bg BE (qv 4) Ak) (qA (Bg BE (qv 5) Ak) qN))) (qA (Bg BE (qv 3) Ak) qN)))) qN))) (EW (Fb (Kf AN Cz Cy Sr (qv 6) (qA (Ay T.x49.d (Wg T) nofun (qA BX (qA (Ay T.x48.d (wO T) nofun (qA (Bg BE (qv 4) Ak) (qA (Bg BE (qv 5) Ak) qN))) (qA (Bg BE (qv 3) Ak) qN)))) qN))) (EW (Fb (Kf AN Cz Cy Sr (qv 6) (qA (Ay T.x49.d (Wg T) nofun (qA BX (qA (Bg BE (qv 4) Ak) (qA (Bg BE (qv 3) Ak) qN)))) qN))) (EW (Fb (Kf AN Cz Cy Sr (qv 6) (qA (Ay T.x49.d (Wg T) nofun (qA BX (qA (Bg BE (qv 5) Ak) (qA (Bg BE (qv 3) Ak) qN)))) qN))) (qO (CH (qv 6)))))))))))),?_⟩
 (try simp only[N6,N4,N5])
 refine⟨λτ M'=>M'=M/\τ=sQ wk a b,?_,?_⟩
 .grind;exact⟨wk,rfl,ok,rfl⟩
 rintro τ M' ⟨rfl,rfl⟩;have k1:=Fg.of ok o1;have k2:=Fg.of ok o2;refine⟨λτ M1=>∃u,(Sub M' M1/\UX M1 r1.2.1 u)/\τ=sQ wk a b (some u),?_,?_⟩
 .grind;refine⟨wk,r1,rfl,f1,?_⟩;simp only[L0];grind;refine⟨k1.t.1,A3 k1.t.2 (by decide),k1.few,λp0 p1 p2 m0 m1 m2 n1 n2 n3=>?_⟩;obtain⟨h1,h2⟩:=pF (g:=r1.2.1) m0 m1 m2 n1 n2 n3;exact⟨_,⟨h1,h2⟩,rfl⟩
 intro τ M1 hI';symm;obtain⟨u1,⟨sb1,six1⟩,e1'⟩:=hI';cutsat;subst e1';refine⟨λτ M2=>∃u,(Sub M' M2/\UX M2 r1.2.1 u1/\UX M2 r2.2.1 u)/\τ=sQ wk a b (some u1) (some u),?_,?_⟩
 .grind;refine⟨wk,r2,rfl,f2,?_⟩;simp only[L0];grind;refine⟨k2.t.1,A3 k2.t.2 (by decide),k2.few,λp0 p1 p2 m0 m1 m2 n1 n2 n3=>?_⟩;obtain⟨h1,h2⟩:=pF (g:=r2.2.1) m0 m1 m2 n1 n2 n3;exact⟨_,⟨sb1.trans h1,six1.sub h1,h2⟩,rfl⟩
 intro τ M2 hI';symm;obtain⟨u2,⟨sb2,⟨a0,a1,a2,e1',A0,A1,A2⟩,⟨b0,b1,b2,e2',B0,B1,B2⟩⟩,e3'⟩:=hI';cutsat;subst e1' e2' e3';have mS:∀{x:Str} {xs ys:List Str},x∈KR xs ys->x∈xs:=λh=>(Bw.mp (Gy.mp h)).1;have hS:∀{xs ys:List Str},xs.length<=12->(KR xs ys).length<=12:=λh=>A3 (V6 λx hx=>(Bw.mp hx).1) h
 have mU:∀{x:Str} {xs ys:List Str},x∈Lv xs ys->x∈xs\/x∈ys:=λh=>by
  rcases AT.mp (Gy.mp h)with h|h
  .exact .inr (Bw.mp h).1
  .exact .inl (Bw.mp h).1
 have lU1:=A3 (V6 (zs:=wk.ws.map (·.1)) λx hx=>(mU (Gy.mpr hx)).elim (λh=>(k1.b _ (.inl (Gy.mp h))).1) λh=>(k2.b _ (.inl (Gy.mp h))).1) (by unfold Wk.ws;rw[Ab,Ab];exact ok.b.1);have lU2:(Lv (GR r1.2.1) (GR r2.2.1)).length<=12:=A3 (V6 (zs:=wk.ds.map (·.1)) λx hx=>(mU (Gy.mpr hx)).elim (λh=>(k1.d _ (Gy.mp h)).1) λh=>(k2.d _ (Gy.mp h)).1) (by rw[Ab];have:=ok.d.1;ext);have dB:∀{g x},Fg wk g->x∈Hj g->∃n,wk.ws.lookup x=some n/\1<=n/\n<=64:=λk hx=>(k.b _ (.inl (Gy.mp hx))).2;have dL:∀{g x},Fg wk g->x∈MW g->∃n,wk.ws.lookup x=some n/\1<=n/\n<=64:=λk hx=>(k.b _ (.inr (Gy.mp hx))).2;have dD:∀{g x},Fg wk g->x∈GR g->∃n,wk.ds.lookup x=some n/\1<=n/\n<=64:=λk hx=>(k.d _ (Gy.mp hx)).2;have e0:=λz hz=>dB k1 (mS (x:=z) (xs:=Hj r1.2.1) (ys:=Hj r2.2.1) hz);have e1:=λz hz=>dD k1 (mS (x:=z) (xs:=GR r1.2.1) (ys:=GR r2.2.1) hz);have e2:=λz hz=>(mU (x:=z) (xs:=Hj r1.2.1) (ys:=Hj r2.2.1) hz).elim (dB k1) (dB k2);have e3:=λz hz=>(mU (x:=z) (xs:=GR r1.2.1) (ys:=GR r2.2.1) hz).elim (dD k1) (dD k2);refine⟨Pk wk a b a0 a1 a2 b0 b1 b2 M2 (nH wk r1.2.1 r2.2.1) 768,?_,?_⟩
 .grind;refine⟨Hj r1.2.1,Hj r2.2.1,OM A0,OM B0,k1.l.1,k2.l.1,?_⟩
  (try grind)
  exact⟨_,wk.ws,rfl,rfl,hS k1.l.1,e0,λp hp=>⟨p,⟨Sub.put hp,hp,Dc,V7 (hS k1.l.1) e0⟩,rfl⟩⟩
 rintro τ M3 ⟨p,j,rfl⟩;refine⟨Pk wk a b a0 a1 a2 b0 b1 b2 M2 (nG wk r1.2.1 r2.2.1) 1536,?_,?_⟩
 .grind;refine⟨IF j.2.2.1,GR r1.2.1,GR r2.2.1,OM (j.1 _ _ A2),OM (j.1 _ _ B2),k1.l.2.2,k2.l.2.2,?_⟩
  (try grind)
  exact⟨_,wk.ds,rfl,rfl,hS k1.l.2.2,e1,λp' h=>Yd j (by decide) h (V7 (hS k1.l.2.2) e1) λM4 h=>⟨p,h,rfl⟩⟩
 clear j;rintro τ M3 ⟨p,j,rfl⟩;refine⟨Pk wk a b a0 a1 a2 b0 b1 b2 M2 (nF wk r1.2.1 r2.2.1) 2304,?_,?_⟩
 .grind;refine⟨IF j.2.2.1,Hj r1.2.1,Hj r2.2.1,OM (j.1 _ _ A0),OM (j.1 _ _ B0),k1.l.1,k2.l.1,?_⟩
  (try grind)
  exact⟨_,wk.ws,rfl,rfl,lU1,e2,λp' h=>Yd j (by decide) h (V7 lU1 e2) λM4 h=>⟨p,h,rfl⟩⟩
 clear j;rintro τ M3 ⟨p,j,rfl⟩;refine⟨Pk wk a b a0 a1 a2 b0 b1 b2 M2 (nE wk r1.2.1 r2.2.1) 3072,?_,?_⟩
 .grind;refine⟨IF j.2.2.1,GR r1.2.1,GR r2.2.1,OM (j.1 _ _ A2),OM (j.1 _ _ B2),k1.l.2.2,k2.l.2.2,?_⟩
  (try grind)
  exact⟨_,wk.ds,rfl,rfl,lU2,e3,λp' h=>Yd j (by decide) h (V7 lU2 e3) λM4 h=>⟨p,h,rfl⟩⟩
 clear j;rintro τ M3 ⟨p,j,rfl⟩;refine⟨Pk wk a b a0 a1 a2 b0 b1 b2 M2 (nA wk r1.2.1 r2.2.1) 3840,?_,?_⟩
 .grind;exact⟨IF j.2.2.1,MW r1.2.1,wk.ws,OM (j.1 _ _ A1),rfl,k1.l.2.1,λz=>dL k1,λp' h=>Yd j (by decide) h (V7 k1.l.2.1 λz=>dL k1) λM4 h=>⟨p,h,rfl⟩⟩
 clear j;rintro τ M3 ⟨p,j,rfl⟩;refine⟨Pk wk a b a0 a1 a2 b0 b1 b2 M2 (i9 wk r1.2.1 r2.2.1) 4608,?_,?_⟩
 .grind;exact⟨IF j.2.2.1,MW r2.2.1,wk.ws,OM (j.1 _ _ B1),rfl,k2.l.2.1,λz=>dL k2,λp' h=>Yd j (by decide) h (V7 k2.l.2.1 λz=>dL k2) λM4 h=>⟨p,h,rfl⟩⟩
 clear j;intro τ M3 hI';symm;obtain⟨p,⟨sb3,hp,hM,-⟩,e1'⟩:=hI';cutsat;subst e1';grind;refine QQ (M:=put M' p (.lst (Sh wk.ws wk.ds r1.2.1 r2.2.1))) (λx o e=>?_) (q p ?_)
 .by_cases c:x=p
  .subst c;rw[Dc]at e;rw[<- e];exact hM
  .rw[Dy c]at e;exact sb3 _ _ (sb2 _ _ e)
 .cases e:M' p with
  |none=>rfl
  |some o=>rw[sb2 p o e]at hp;cases hp
noncomputable def bD (b:Str×Str×Nat):D:=.tup [.str b.1,.str b.2.1,.int b.2.2]
structure KA where
 o:Ao
 q:Ao
 m:Ao
 d:Ao
 b:Ao
 e:Ao
 f:Ao
 g:Ao
def K1 (s:Str):Prop:=s = "box"\/s = "door"\/s = "one"\/s = "other"
noncomputable def KA.at (A:KA)(s:Str):Ao:=if s = "box" then A.b else if s = "door" then A.e else if s = "one" then A.f else A.g
noncomputable def Lx (row:List (Str×Str×Nat))(ks:List Int)(s z:Str)(w:Nat):List Int:=(Bu w).map λp=>ks.getD (row.idxOf (s,z,p)) 2
noncomputable def HU (row:List (Str×Str×Nat))(ks:List Int)(E:Str->List (Str×Nat))(s:Str):List (B7×D):=(E s).map λn=>(.inr n.1,Np (Lx row ks s n.1 n.2))
noncomputable def Ji (A:KA):List (B7×D):=[(.inr "box",.ref A.b),(.inr "door",.ref A.e),(.inr "one",.ref A.f),(.inr "other",.ref A.g)]
noncomputable def Nt (A:KA):List (Str×D):=[("row",.ref A.q),("marks",.ref A.m),("spans",.ref A.d)]
theorem oR (A:KA):BK (Al "row") (Nt A)=some (.ref A.q):=by
 unfold Nt;rw[Bx,show((Al "row":Str) == ("row":Str))=true by nofun]
theorem QY (A:KA):BK (Al "marks") (Nt A)=some (.ref A.m):=by
 unfold Nt;rw[Bx,show((Al "marks":Str) == ("row":Str))=false by nofun,Bx,show((Al "marks":Str) == ("marks":Str))=true by nofun]
theorem Yq (A:KA):BK (Al "spans") (Nt A)=some (.ref A.d):=by
 unfold Nt;rw[Bx,show((Al "spans":Str) == ("row":Str))=false by nofun,Bx,show((Al "spans":Str) == ("marks":Str))=false by nofun,Bx,show((Al "spans":Str) == ("spans":Str))=true by nofun]
theorem Rt {M:Mp}{p:Ao}{AR:List (B7×D)}(h:M p=some (.dic AR)):DU M (.ref p)=some AR:=by simp[DU,h]
structure FX (C:Ao)(M:Mp)(A:KA)(E:Str->List (Str×Nat))(row:List (Str×Str×Nat))(ms ks:List Int):Prop where
 o:M A.o=some (.obj C (Nt A))
 q:M A.q=some (.lst (row.map bD))
 m:M A.m=some (.lst (ms.map D.int))
 d:M A.d=some (.dic (Ji A))
 s:∀s,K1 s->M (A.at s)=some (.dic (HU row ks E s))
 nd:[A.b,A.e,A.f,A.g].Nodup
 qm:A.q≠A.m
structure Op (E:Str->List (Str×Nat))(row:List (Str×Str×Nat)):Prop where
 nd:row.Nodup
 k:∀b∈row,K1 b.1/\∃w,(b.2.1,w)∈E b.1/\b.2.2<w
 e:∀s,((E s).map (·.1)).Nodup/\(E s).length<=12/\∀n∈E s,1<=n.2/\n.2<=64
 l:row.length<=5000
def Jp (A:KA)(M M':Mp):Prop:=∀p,p∉[A.m,A.b,A.e,A.f,A.g]->M' p=M p
theorem Jp.refl (A:KA)(M:Mp):Jp A M M:=λ_ _=>rfl
theorem Jp.trans {A:KA}{M M1 M2:Mp}(h:Jp A M M1)(g:Jp A M1 M2):Jp A M M2:=λp hp=>(g p hp).trans (h p hp)
theorem iF (A:KA)(s:Str):A.at s∈[A.m,A.b,A.e,A.f,A.g]:=by
 unfold KA.at
 split
 .simp
 .split
  .simp
  .split<;>simp
theorem UB (A:KA):A.at "box" = A.b:=if_pos rfl
theorem UJ (A:KA):A.at "door" = A.e:=by unfold KA.at;rw[if_neg (by nofun),if_pos rfl]
theorem UC (A:KA):A.at "one" = A.f:=by unfold KA.at;rw[if_neg (by nofun),if_neg (by nofun),if_pos rfl]
theorem UO (A:KA):A.at "other" = A.g:=by unfold KA.at;rw[if_neg (by nofun),if_neg (by nofun),if_neg (by nofun)]
theorem oB {A:KA}(nd:[A.b,A.e,A.f,A.g].Nodup)(hs:K1 s)(ht:K1 t)(h:A.at s=A.at t):s=t:=by
 simp only[El,BD,AS,or_false,not_or]at nd;obtain⟨⟨n1,n2,n3⟩,⟨n4,n5⟩,n6,-⟩:=nd;rcases hs with rfl|rfl|rfl|rfl<;>rcases ht with rfl|rfl|rfl|rfl<;>simp only[UB,UJ,UC,UO]at h<;>first|rfl|exact absurd h ‹_› | exact absurd h.symm ‹_›
theorem uf (A:KA):((Ji A).map (·.1)).Nodup:=by
 show([.inr "box",.inr "door",.inr "one",.inr "other"]:List B7).Nodup;nofun
theorem VT {A:KA}{s:Str}(h:K1 s):Du (Ji A) (.inr s)=some (.ref (A.at s)):=by
 refine Wj (uf A) ?_;rcases h with rfl|rfl|rfl|rfl<;>simp only[UB,UJ,UC,UO,Ji]<;>simp
def TH (i:Nat)(m:Int)(ks ks':List Int):Prop:=ks'.getD i 2=m/\∀j,j≠i->ks'.getD j 2=ks.getD j 2
theorem Z0 (row:List (Str×Str×Nat))(ks:List Int)(s z:Str)(w:Nat):(Lx row ks s z w).length=w:=by unfold Lx;rw[Ab,Ce]
theorem jr {row:List (Str×Str×Nat)}(nd:row.Nodup)(h:row[i]? = some b):row.idxOf b=i:=by
 obtain⟨hi,e⟩:=Ai.mp h;have hl:=Lj (Aw h);have e2:=PF hl;exact(Jz nd).mp (e2.trans e.symm)
theorem oM {row:List (Str×Str×Nat)}(h:row[i]? = some b)(ne:c≠b):row.idxOf c≠i:=λe=>by
 obtain⟨hi,e1⟩:=Ai.mp h;have hl:row.idxOf c<row.length:=by ext
 have e2:=PF hl;exact ne (by rw[<- e1,<- e2];congr 1)
theorem we (nd:row.Nodup)(c:TH i m ks ks'){p w:Nat}(h:row[i]? = some (s,z,p))(hp:p<w):Lx row ks' s z w=(Lx row ks s z w).set p m:=by
 refine Fw λj=>?_;unfold Lx;rw[Qj,AH,AH,Ab,Ce];by_cases e:p=j
 .subst e;rw[if_pos rfl,if_pos hp,EO hp];show some (ks'.getD (row.idxOf (s,z,p)) 2)=_;rw[jr nd h,c.1]
 .rw[if_neg e];rcases G1 j w with hj|hj
  .rw[EO hj];show some (ks'.getD (row.idxOf (s,z,j)) 2)=some (ks.getD (row.idxOf (s,z,j)) 2);rw[c.2 _ (oM h λe2=>e (by cases e2;rfl))]
  .rw[Bz (by rw[Ce];exact hj)];rfl
theorem sM {row:List (Str×Str×Nat)}{ks ks':List Int}{i:Nat}{m:Int}(c:TH i m ks ks'){s z:Str}{p:Nat}(h:row[i]? = some (s,z,p)){s' z':Str}(ne:¬(s'=s/\z'=z))(w:Nat):Lx row ks' s' z' w=Lx row ks s' z' w:=by
 unfold Lx;refine Dq λj _=>?_;exact c.2 _ (oM h λe2=>ne (by cases e2;exact⟨rfl,rfl⟩))
theorem Zns (c:TH i m ks ks')(h:row[i]? = some (s,z,p))(ne:s'≠s):HU row ks' E s'=HU row ks E s':=by
 unfold HU;refine Dq λn _=>?_;rw[sM c h (λe=>ne e.1)]
theorem jI {w:Nat}(nd:((E s).map (·.1)).Nodup)(h:(z,w)∈E s):Du (HU row ks E s) (.inr z)=some (Np (Lx row ks s z w)):=by
 refine Wj ?_ (Ap.mpr ⟨(z,w),h,rfl⟩);unfold HU;rw[BA];have e:Fc ((λx:B7×D=>x.1) ∘ λn:Str×Nat=>((.inr n.1:B7),Np (Lx row ks s n.1 n.2))) (E s)=((E s).map (·.1)).map FF:=by rw[BA];rfl
 rw[e];unfold Ez at nd ⊢;rw[Cq];exact nd.imp λhab e=>hab (DN e)
theorem xr (rn:row.Nodup)(c:TH i m ks ks'){p w:Nat}(h:row[i]? = some (s,z,p))(hp:p<w)(nd:((E s).map (·.1)).Nodup)(hz:(z,w)∈E s):Ht (HU row ks E s) (.inr z) (Np ((Lx row ks s z w).set p m))=HU row ks' E s:=by
 have hany:((HU row ks E s).any λkv=>decide (kv.1=.inr z))=true:=C8.mpr ⟨_,Ap.mpr ⟨(z,w),hz,rfl⟩,decide_eq_true rfl⟩;unfold Ht;rw[if_pos hany];unfold HU;rw[BA];refine Dq λn hn=>?_;show(if (FF n.1:B7)=.inr z then _ else _)=_;by_cases e:n.1=z
 .have e2:n=(z,w):=by
   obtain⟨i1,h1⟩:=Bp.mp hn;obtain⟨i2,h2⟩:=Bp.mp hz;have g1:((E s).map (·.1))[i1]? = some z:=by rw[AH,h1,<- e];rfl
   have g2:((E s).map (·.1))[i2]? = some z:=by rw[AH,h2];rfl
   obtain⟨l1,f1⟩:=Ai.mp g1;obtain⟨l2,f2⟩:=Ai.mp g2;have:=(Jz nd).mp (f1.trans f2.symm);subst this;exact Bb (h1.symm.trans h2)
  subst e2;rw[if_pos rfl,we rn c h hp]
 .rw[if_neg (λe2=>e (DN e2)),sM c h (λe2=>e e2.2)]
theorem j4 {C:Ao}{M:Mp}{A:KA}{E:Str->List (Str×Nat)}{row:List (Str×Str×Nat)}{ms ks ks':List Int}{i:Nat}{m:Int}{so z:Str}{pl:Nat}(kn:FX C M A E row ms ks)(hs:K1 so)(c:TH i m ks ks')(h:row[i]? = some (so,z,pl)):FX C (put M (A.at so) (.dic (HU row ks' E so))) A E row ms ks'/\Jp A M (put M (A.at so) (.dic (HU row ks' E so))):=by
 have Sg:=kn.s so hs
 have n1:∀{x:Ao} {o:MO},M x=some o->(∀AR,o≠.dic AR)->x≠A.at so:=λ{x o} hx hn e=>by
  rw[e,Sg]at hx;cases hx;exact hn _ rfl
 have nd:A.d≠A.at so:=λe=>by
  have hd:=kn.d;rw[e,Sg]at hd;have e2:HU row ks E so=Ji A:=by injection hd with h;injection h
  unfold HU Ji at e2;cases hE:E so with
  |nil=>rw[hE]at e2;cases e2
  |cons n r=>rw[hE,AQ]at e2;have e3:=congrArg SE (PJ e2).1;unfold Np at e3;cases e3
 refine⟨⟨by rw[Dy (n1 kn.o (λ_ e=>nomatch e))];exact kn.o,by rw[Dy (n1 kn.q (λ_ e=>nomatch e))];exact kn.q,by rw[Dy (n1 kn.m (λ_ e=>nomatch e))];exact kn.m,by rw[Dy nd];exact kn.d,λs' h'=>?_,kn.nd,kn.qm⟩,λx hx=>?_⟩
 .by_cases e:s'=so
  .subst e;rw[Dc]
  .rw[Dy (λe2=>e (oB kn.nd h' hs e2)),kn.s s' h',Zns c h e]
 .exact Dy λe=>hx (e ▸ iF A so)
theorem oO {C:Ao}{M:Mp}{A:KA}{E:Str->List (Str×Nat)}{row:List (Str×Str×Nat)}{ms ks:List Int}(kn:FX C M A E row ms ks)(ms':List Int):FX C (put M A.m (.lst (ms'.map D.int))) A E row ms' ks/\Jp A M (put M A.m (.lst (ms'.map D.int))):=by
 have no:A.o≠A.m:=λe=>by have h:=kn.o;rw[e,kn.m]at h;cases h
 have nd:A.d≠A.m:=λe=>by have h:=kn.d;rw[e,kn.m]at h;cases h
 have ns:∀s,K1 s->A.at s≠A.m:=λs hs e=>by have h:=kn.s s hs;rw[e,kn.m]at h;cases h
 refine⟨⟨by rw[Dy no];exact kn.o,by rw[Dy kn.qm];exact kn.q,Dc,by rw[Dy nd];exact kn.d,λs hs=>by rw[Dy (ns s hs)];exact kn.s s hs,kn.nd,kn.qm⟩,λx hx=>Dy λe=>hx (by rw[e];exact AF)⟩
theorem tW (ks:List Int)(m:Int):TH ks.length m ks (ks++[m]):=by
 refine⟨by rw[Ck,Cj (AJ _),Jv];rfl,λj hj=>?_⟩;rw[Ck,Ck];rcases G1 j ks.length with h|h
 .rw[C1 h]
 .rw[Bz (by rw[As];show ks.length+1<=j;ext),Bz h]
theorem Zn4 (ks:List Int)(m:Int):TH ks.length 2 (ks++[m]) ks:=by
 refine⟨by rw[Ck,Bz (AJ _)];rfl,λj hj=>((tW ks m).2 j hj).symm⟩
theorem Mb {A:KA}{m:Str}(h1:(m == ("row":Str))=false)(h2:(m == ("marks":Str))=false)(h3:(m == ("spans":Str))=false):BK m (Nt A)=none:=by
 unfold Nt;rw[Bx,h1,Bx,h2,Bx,h3,List.lookup_nil]
theorem Rk {M:Mp}{p:Ao}{xs:List D}(h:M p=some (.lst xs)):HH M (.ref p)=some xs:=by simp[HH,Bh,h]
noncomputable def Nq (s:Str)(acc:List (Str×Nat))(b:Str×Str×Nat):List (Str×Nat):=if b.1=s/\b.2.1∉acc.map (·.1)then acc++[(b.2.1,b.2.2+1)]else acc
noncomputable def Il (row:List (Str×Str×Nat))(s:Str):List (Str×Nat):=row.foldl (Nq s) []
def gf (C:Ao)(ds:List D)(M:Mp)(Q:DV):Prop:=FI ds λx y=>∃(M0:Mp) (o q:Ao) (E:Str->List (Str×Nat)) (row:List (Str×Str×Nat)),x=.ref o/\y=.ref q/\M=put M0 o (.obj C [])/\M0 o=none/\M0 q=some (.lst (row.map bD))/\Op E row/\(∀s,K1 s->E s=Il row s)/\∀M' (A:KA),A.o=o->A.q=q->FX C M' A E row [] []->(∀p∈[A.m,A.b,A.e,A.f,A.g],M0 p=none)->(∀p u,M0 p=some u->M' p=some u)->Q .non M'
attribute[local method_specs_simp ↓]c7 gf
theorem FX.dne (kn:FX C M A E row ms ks){s:Str}(hs:K1 s):A.d≠A.at s:=λe=>by
 have hd:=kn.d;rw[e,kn.s s hs]at hd;have e2:HU row ks E s=Ji A:=by injection hd with h;injection h
 unfold HU Ji at e2;cases hE:E s with
 |nil=>rw[hE]at e2;cases e2
 |cons n r=>rw[hE,AQ]at e2;have e3:=congrArg SE (PJ e2).1;unfold Np at e3;cases e3
theorem jf {C:Ao}{M:Mp}{A:KA}{E E':Str->List (Str×Nat)}{row:List (Str×Str×Nat)}{ms ks:List Int}{so:Str}(kn:FX C M A E row ms ks)(hs:K1 so)(h:∀s,s≠so->E' s=E s):FX C (L3.put M (A.at so) (.dic (HU row ks E' so))) A E' row ms ks:=by
 have Sg:=kn.s so hs
 have n1:∀{x:Ao} {o:MO},M x=some o->(∀AR,o≠.dic AR)->x≠A.at so:=λ{x o} hx hn e=>by
  rw[e,Sg]at hx;cases hx;exact hn _ rfl
 refine⟨by rw[Dy (n1 kn.o (λ_ e=>nomatch e))];exact kn.o,by rw[Dy (n1 kn.q (λ_ e=>nomatch e))];exact kn.q,by rw[Dy (n1 kn.m (λ_ e=>nomatch e))];exact kn.m,by rw[Dy (kn.dne hs)];exact kn.d,λs' h'=>?_,kn.nd,kn.qm⟩;by_cases e:s'=so
 .subst e;rw[Dc]
 .rw[Dy (λe2=>e (oB kn.nd h' hs e2)),kn.s s' h'];unfold HU;rw[h s' e]
theorem nR {C:Ao}{M:Mp}{A:KA}{E E':Str->List (Str×Nat)}{row:List (Str×Str×Nat)}{ms ks:List Int}(kn:FX C M A E row ms ks)(h:∀s,K1 s->E' s=E s):FX C M A E' row ms ks:=⟨kn.o,kn.q,kn.m,kn.d,λs hs=>by rw[kn.s s hs];unfold HU;rw[h s hs],kn.nd,kn.qm⟩
theorem wg (row:List (Str×Str×Nat))(s z:Str)(w:Nat):Lx row [] s z w=Ax w 2:=by
 unfold Lx;rw[List.eq_replicate_iff,Ab,Ce];refine⟨rfl,λm hm=>?_⟩;obtain⟨j,-,rfl⟩:=Ap.mp hm;rfl
theorem rC (s:Str):∀(l:List (Str×Str×Nat)) (acc:List (Str×Nat)),(l.foldl (Nq s) acc).length<=acc.length+l.length
 |[],acc=>AJ _
 |b::l,acc=>by
  refine A3 (rC s l (Nq s acc b)) ?_
  have:(Nq s acc b).length<=acc.length+1:=by
   unfold Nq;split
   .rw[As];exact AJ _
   .ext
  rw[AO];ext
theorem yr {row:List (Str×Str×Nat)}{i:Nat}{b:Str×Str×Nat}(h:row[i]? = some b)(s:Str):Il (row.take (i+1)) s=Nq s (Il (row.take i) s) b:=by
 unfold Il;rw[Ba,h,JU];rfl
theorem rH :Du (HU row ks E s) (.inr z)=none↔z∉(E s).map (·.1):=by
 unfold Du HU;rw[Mv,E3];constructor
 .intro h hz;obtain⟨n,hn,rfl⟩:=Ap.mp hz;exact h _ (Ap.mpr ⟨n,hn,rfl⟩) (decide_eq_true rfl)
 .intro h kv hkv c;obtain⟨n,hn,rfl⟩:=Ap.mp hkv;exact h (Ap.mpr ⟨n,hn,DN (of_decide_eq_true c)⟩)
theorem jm {row:List (Str×Str×Nat)}{E E':Str->List (Str×Nat)}{s z:Str}{p:Nat}(h:z∉(E s).map (·.1))(e:E' s=E s++[(z,p)]):Ht (HU row [] E s) (.inr z) (Np (Ax p 2))=HU row [] E' s:=by
 have hn:¬((HU row [] E s).any λkv=>decide (kv.1=.inr z))=true:=λc=>by
  obtain⟨kv,hkv,ek⟩:=C8.mp c;obtain⟨n,hn,rfl⟩:=Ap.mp hkv;exact h (Ap.mpr ⟨n,hn,DN (of_decide_eq_true ek)⟩)
 unfold Ht;rw[if_neg hn];unfold HU;rw[e,AI,AQ,Dx,wg]
theorem mh (x y:D):putO (Al "marks") x (putO (Al "row") y [])=([("row",y),("marks",x)]:List (Str×D)):=by
 simp only[putO,show¬(Al "row" = Al "marks") by nofun,if_false]
theorem ue (x y z:D):putO (Al "spans") z ([("row",y),("marks",x)]:List (Str×D))=([("row",y),("marks",x),("spans",z)]:List (Str×D)):=by
 simp only[putO,show¬(("row":Str)=Al "spans") by nofun,show¬(("marks":Str)=Al "spans") by nofun,if_false]
theorem gC {M:Mp}{p:Ao}{xs:List D}(h:M p=some (.lst xs)):Bh M (.ref p)=some xs:=by simp[Bh,h]
theorem Jt {M:Mp}{p x:Ao}{u:MO}(hp:M p=none)(hx:M x=some u):x≠p:=λe=>by rw[e,hp]at hx;cases hx
section
theorem ZeR:Om T T.x50 3 (gf T.C_Known):=by
 refine Co.p2 T.x50.d.F ["self", "row", "sort", "name", "place"] λx y M Q hr nN h=>?_;symm;obtain⟨M0,o,rq,E,row,e1',e2',e3',m0,mq,kr,he,q⟩:=h;cutsat;subst e1' e2' e3';refine⟨_,(qC (iL T.cl_Known T.na_Known_row (qv 0) (qv 1)) (qC (iL T.cl_Known T.na_Known_marks (qv 0) (JG qN)) (qC (iL T.cl_Known T.na_Known_spans (qv 0) (Uj BX Jl BX Jl BX Jl BX Jl)) (qO (KZ AK rfl (J0 (qv 1)) (VX (is:=[2,3,4]) rfl (Nc (Md nN rfl (B4 rfl)) (Nc (Md nN rfl (B4 rfl)) (Nc (Md nN rfl (B4 rfl)) UN)))) (qO (Fb (fV (Fl (Kj hr) (G6 T.cl_Known T.na_Known_spans (qv 0)) (qv 2) (λ_ _=>rfl)) (qA (qv 3) (qA (Ay T.x21.d (Zgx T) nofun (qA (BG Hu (qv 4) Ak) qN)) qN)))))))))),?_⟩;right;rw[Dc,Hv,QX];refine⟨by decide,λm hm=>?_⟩;have nm:m≠o:=λe=>by rw[e,Dc]at hm;cases hm
 rw[Dy nm]at hm;rw[Dy (Bm nm),Dc,Hv];refine⟨Hk (by decide),?_⟩;rw[xi];have no:rq≠o:=Jt m0 mq;have nq:rq≠m:=Jt hm mq
 have f1:∀x u,M0 x=some u->put (put (put M0 o (MO.obj T.C_Known (putO (Al "row") (D.ref rq) []))) m (MO.lst [])) o (MO.obj T.C_Known (putO (Al "marks") (D.ref m) (putO (Al "row") (D.ref rq) []))) x=some u:=λx u h=>by
  rw[Dy (Jt m0 h),Dy (Jt hm h),Dy (Jt m0 h)];exact h
 have f2:put (put (put M0 o (MO.obj T.C_Known (putO (Al "row") (D.ref rq) []))) m (MO.lst [])) o (MO.obj T.C_Known (putO (Al "marks") (D.ref m) (putO (Al "row") (D.ref rq) []))) o=_:=Dc;have f3:put (put (put M0 o (MO.obj T.C_Known (putO (Al "row") (D.ref rq) []))) m (MO.lst [])) o (MO.obj T.C_Known (putO (Al "marks") (D.ref m) (putO (Al "row") (D.ref rq) []))) m=some (.lst []):=by rw[Dy nm,Dc]
 generalize put (put (put M0 o (MO.obj T.C_Known (putO (Al "row") (D.ref rq) []))) m (MO.lst [])) o (MO.obj T.C_Known (putO (Al "marks") (D.ref m) (putO (Al "row") (D.ref rq) [])))=M1 at f1 f2 f3 ⊢;intro d hd;grind;intro b hb e he1 f hf g hg;have s1:Sub M1 (put M1 d (.dic [])):=Sub.put hd;have s2:Sub _ (put (put M1 d (.dic [])) b (.dic [])):=Sub.put hb;have s3:Sub _ (put (put (put M1 d (.dic [])) b (.dic [])) e (.dic [])):=Sub.put he1;have s4:Sub _ (put (put (put (put M1 d (.dic [])) b (.dic [])) e (.dic [])) f (.dic [])):=Sub.put hf;have s5:Sub _ (put (put (put (put (put M1 d (.dic [])) b (.dic [])) e (.dic [])) f (.dic [])) g (.dic [])):=Sub.put hg;have s15:=s1.trans (s2.trans (s3.trans (s4.trans s5)));have kd:=s2.trans (s3.trans (s4.trans s5)) d _ Dc;have kb:=s3.trans (s4.trans s5) b _ Dc;have ke:=s4.trans s5 e _ Dc;have kf:=s5 f _ Dc;have kg:put (put (put (put (put M1 d (.dic [])) b (.dic [])) e (.dic [])) f (.dic [])) g (.dic []) g=some (.dic []):=Dc;have n1:b≠e:=Jt he1 Dc;have n2:b≠f:=Jt hf (s3 b _ Dc);have n3:b≠g:=Jt hg (s3.trans s4 b _ Dc);have n4:e≠f:=Jt hf Dc;have n5:e≠g:=Jt hg (s4 e _ Dc);have n6:f≠g:=Jt hg Dc;have d1:d≠b:=Jt hb Dc;have d2:d≠e:=Jt he1 (s2 d _ Dc);have d3:d≠f:=Jt hf (s2.trans s3 d _ Dc);have d4:d≠g:=Jt hg (s2.trans (s3.trans s4) d _ Dc)
 have nn:∀{N:Mp} {x:Ao},Sub M1 N->N x=none->M0 x=none:=λ{N x} s h=>by
  cases h2:M0 x with
  |none=>rfl
  |some u=>rw[s x u (f1 x u h2)]at h;cases h
 have dn:=nn (Sub.refl M1) hd;have bn:=nn s1 hb;have en:=nn (s1.trans s2) he1;have fn:=nn (s1.trans (s2.trans s3)) hf;have gn:=nn (s1.trans (s2.trans (s3.trans s4))) hg;clear nn;have f1:=λx u h=>s15 x u (f1 x u h);have f2:=s15 _ _ f2;have f3:=s15 _ _ f3;clear hd hb he1 hf hg s1 s2 s3 s4 s5 s15;generalize put (put (put (put (put M1 d (.dic [])) b (.dic [])) e (.dic [])) f (.dic [])) g (.dic [])=M8 at *;refine⟨kd,by nofun,?_⟩;have od:o≠d:=λh=>by rw[h,kd]at f2;cases f2
 have mne:∀{x},M8 x=some (.dic [])->m≠x:=λ{x} h h2=>by rw[<- h2,f3]at h;cases h
 have one:∀{x},M8 x=some (.dic [])->x≠o:=λ{x} h h2=>by rw[h2,f2]at h;cases h
 have rqv:=f1 rq _ mq;have qne:∀{x},M8 x=some (.dic [])->rq≠x:=λ{x} h h2=>by rw[<- h2,rqv]at h;cases h
 rw[Dy od,f2,Hv,mh,ue];refine⟨Hk (Hk (by decide)),?_⟩
 have kn0:FX T.C_Known (put (put M8 d (.dic (Ji ⟨o,rq,m,d,b,e,f,g⟩))) o (.obj T.C_Known (Nt ⟨o,rq,m,d,b,e,f,g⟩))) ⟨o,rq,m,d,b,e,f,g⟩ (Il (row.take 0)) row [] []:=by
  refine⟨Dc,by rw[Dy no,Dy (qne kd)];exact rqv,by rw[Dy nm,Dy (mne kd)];exact f3,by rw[Dy (Bm od),Dc],λs hs=>?_,by simp only[El,BD,AS,or_false,not_or];exact⟨⟨n1,n2,n3⟩,⟨n4,n5⟩,n6,λh=>h,LK⟩,nq⟩;rcases hs with rfl|rfl|rfl|rfl
  .rw[UB,Dy (one kb),Dy (Bm d1)];exact kb
  .rw[UJ,Dy (one ke),Dy (Bm d2)];exact ke
  .rw[UC,Dy (one kf),Dy (Bm d3)];exact kf
  .rw[UO,Dy (one kg),Dy (Bm d4)];exact kg
 have f9:∀x u,M0 x=some u->put (put M8 d (.dic (Ji ⟨o,rq,m,d,b,e,f,g⟩))) o (.obj T.C_Known (Nt ⟨o,rq,m,d,b,e,f,g⟩)) x=some u:=λx u h=>by
  rw[Dy (Jt m0 h),Dy (Jt dn h)];exact f1 x u h
 change Cp (Bh (put (put M8 d (.dic (Ji ⟨o,rq,m,d,b,e,f,g⟩))) o (.obj T.C_Known (Nt ⟨o,rq,m,d,b,e,f,g⟩))) (.ref rq)) λxs=>U8 xs _ _ _ _ _ (put (put M8 d (.dic (Ji ⟨o,rq,m,d,b,e,f,g⟩))) o (.obj T.C_Known (Nt ⟨o,rq,m,d,b,e,f,g⟩)));generalize put (put M8 d (.dic (Ji ⟨o,rq,m,d,b,e,f,g⟩))) o (.obj T.C_Known (Nt ⟨o,rq,m,d,b,e,f,g⟩))=M9 at kn0 f9 ⊢;replace q:=λM'=>q M' ⟨o,rq,m,d,b,e,f,g⟩ rfl rfl;obtain⟨A,ea⟩:∃A:KA,A=⟨o,rq,m,d,b,e,f,g⟩:=⟨_,rfl⟩;rw[<- ea]at kn0 q
 have an:∀s,M0 (A.at s)=none:=λs=>by
  rw[ea];unfold KA.at
  split
  .exact bn
  .split
   .exact en
   .split
    .exact fn
    .exact gn
 have fz:∀p∈[A.m,A.b,A.e,A.f,A.g],M0 p=none:=by
  rw[ea];intro p hp;simp only[BD,AS,or_false]at hp;rcases hp with rfl|rfl|rfl|rfl|rfl
  .exact hm
  .exact bn
  .exact en
  .exact fn
  .exact gn
 have eo:o=A.o:=by rw[ea]
 have eq:rq=A.q:=by rw[ea]
 rw[eo,eq];rw[gC kn0.q,BW];refine⟨λi τ M'=>(FX T.C_Known M' A (Il (row.take i)) row [] []/\∀x u,M0 x=some u->M' x=some u)/\∃x y z,τ=[some (.ref A.o),some (.ref A.q),x,y,z],⟨⟨kn0,f9⟩,_,_,_,rfl⟩,λi τ M' h=>gC h.1.1.q,?_,?_⟩
 .intro i x τ M' hx hI';symm;obtain⟨⟨kn,fr⟩,u1,u2,u3,e1'⟩:=hI';cutsat;subst e1';rw[AH]at hx;obtain⟨bt,hbt,rfl⟩:=E6.mp hx;obtain⟨so,z,pl⟩:=bt;obtain⟨hs,wd,hw,hp⟩:=kr.k _ (Aw hbt);unfold bD;grind;rw[kn.o,Hv,Yq,BW,Rt kn.d,BW,VT hs,BW,QR,kn.s so hs,UI];have hw2:=((kr.e so).2.2 _ hw).2;change wd<=64 at hw2;change pl<wd at hp;refine⟨⟨by ext,by ext⟩,?_⟩;rw[show((pl:Int)+1).toNat=pl+1 by ext];unfold LY;rw[QR,oZ];grind;rw[kn.s so hs,UI];have en1:=λs=>yr hbt s;refine⟨?_,λdd hdd=>?_,λhnn=>?_⟩
  .have l1:=rC so (row.take i) [];rw[AZ]at l1;have l2:=kr.l;unfold HU Il;rw[Ab];refine Ft (m:=5000) ?_ (by decide);change _<=0+_ at l1;ext
  .refine⟨⟨nR kn λs _=>?_,fr⟩,_,_,_,rfl⟩;rw[en1];unfold Nq;rw[if_neg];rintro⟨c1,c2⟩;change so=s at c1;subst c1;rw[rH.mpr c2]at hdd;cases hdd
  .have hz:=rH.mp hnn;rw[jm (E':=Il (row.take (i+1))) hz (by rw[en1];unfold Nq;rw[if_pos ⟨rfl,hz⟩])];refine⟨⟨jf kn hs λs c=>?_,λx u h=>?_⟩,_,_,_,rfl⟩
   .rw[en1];unfold Nq;rw[if_neg (λc2=>c c2.1.symm)]
   .rw[Dy (Jt (an so) h)];exact fr x u h
 .intro τ M' hI';symm;obtain⟨⟨kn,fr⟩,u1,u2,u3,e1'⟩:=hI';cutsat;subst e1';rw[Ab,Be]at kn;exact Dn.of (q M' (nR kn he) fz fr)
end
def ei (C:Ao)(ds:List D)(M:Mp)(Q:DV):Prop:=IZ ds λx y z=>∃(A:KA) (E:Str->List (Str×Nat)) (row:List (Str×Str×Nat)) (ms ks ks':List Int) (i:Nat) (m:Int),x=.ref A.o/\y=.int i/\z=.int m/\Op E row/\FX C M A E row ms ks/\i<row.length/\Mk m/\Lr ks/\TH i m ks ks'/\∀M',FX C M' A E row ms ks'->Jp A M M'->Q .non M'
attribute[local method_specs_simp ↓]ei
section
theorem yY:Om T T.x56 2 (ei T.C_Known):=by
 refine Co.p3 T.x56.d.F ["self", "number", "mark", "bit", "named"] λx y z M Q hr nN h=>?_;symm;obtain⟨A,E,row,ms,ks,ks',i,m,e1',e2',e3',kr,kn,hi,hm,hk,hc,q⟩:=h;cutsat;subst e1' e2' e3';have hb:=Ag hi;generalize row[i]=b at hb;obtain⟨so,z,pl⟩:=b;obtain⟨hs4,wd,hz,hpl⟩:=kr.k _ (Aw hb);have hb2:FK (row.map bD) (i:Int)=some (bD (so,z,pl)):=Oj (by rw[AH,hb];rfl);obtain⟨en,el,ew⟩:=kr.e so;refine⟨_,(qC (CC 3 nN (Bg Hy (G6 T.cl_Known T.na_Known_row (qv 0)) (qv 1))) (qC (CC 4 nN (Fl (Kj hr) (G6 T.cl_Known T.na_Known_spans (qv 0)) (Bg BE (qv 3) Ak) (λ_ _=>rfl))) (qO (V2 (Kj hr) (qv 4) (Bg BE (qv 3) Ak) (Ay T.x22.d (Zjb T) nofun (qA (Fl (Kj hr) (qv 4) (Bg BE (qv 3) Ak) (λ_ _=>rfl)) (qA (Bg BE (qv 3) Ak) (qA (qv 2) qN)))) rfl)))),?_⟩
 have s64:YF (Lx row ks so z wd):=by
  refine⟨λv hv=>?_,by rw[Z0];exact(ew _ hz).1,by rw[Z0];exact(ew _ hz).2⟩;obtain⟨j,_,rfl⟩:=Ap.mp hv;rw[Ck];cases e:ks[row.idxOf (so,z,j)]? with
  |none=>exact .inr (.inr rfl)
  |some v=>exact hk v (Aw e)
 obtain⟨w1,w2⟩:=j4 kn hs4 hc hb;rw[<- xr kr.nd hc hb hpl en hz]at w1 w2;right;rw[kn.o,Hv,oR,BW,OM kn.q,BW,hb2,BW,Hv,Yq,BW];simp only[bD];grind;rw[Rt kn.d,BW,VT hs4,BW]
 (try grind)
 rw[Rt (kn.s so hs4),BW,jI en hz,BW]
 (try grind)
 refine⟨_,pl,m,rfl,rfl,rfl,s64,by rw[Z0];exact hpl,hm,?_⟩
 (try grind)
 rw[kn.s so hs4];exact⟨BS (by unfold HU;rw[Ab];ext),Dn.of (q _ w1 w2)⟩
end
theorem VU {M:Mp}{p:Ao}{xs:List D}{y:D}{Q:DV}(h:M p=some (.lst xs)):G5 (.ref p) [y] M Q=(xs.length<An/\Q .non (put M p (.lst (xs++[y])))):=by
 unfold G5;rw[QR,ZL,h]
def ga (C:Ao)(ds:List D)(M:Mp)(Q:DV):Prop:=FI ds λx z=>∃(A:KA) (E:Str->List (Str×Nat)) (row:List (Str×Str×Nat)) (ms:List Int) (m:Int),x=.ref A.o/\z=.int m/\Op E row/\FX C M A E row ms ms/\ms.length<row.length/\Mk m/\Lr ms/\∀M',FX C M' A E row (ms++[m]) (ms++[m])->Jp A M M'->Q .non M'
attribute[local method_specs_simp ↓]ga
section
theorem bw:Om T T.x51 3 (ga T.C_Known):=by
 refine Co.p2 T.x51.d.F ["self", "mark"] λx z M Q hr nN h=>?_;symm;obtain⟨A,E,row,ms,m,e1',e2',kr,kn,hl,hm,hk,q⟩:=h;cutsat;subst e1' e2';refine⟨_,(qC (Fb (Fk T.cl_Known T.x56.d (yY T) nofun (qv 0) (qA (Cv Ma T.B.len CK (qA (G6 T.cl_Known T.na_Known_marks (qv 0)) qN)) (qA (qv 1) qN)))) (qO (Fb (Kf AN Bl Bk QZ (G6 T.cl_Known T.na_Known_marks (qv 0)) (qA (qv 1) qN))))),?_⟩;right;rw[kn.o,Hv];refine⟨Mb (by nofun) (by nofun) (by nofun),?_⟩;rw[Hv,QY,BW,Rk kn.m,BW];refine⟨A,E,row,ms,ms,ms++[m],ms.length,m,rfl,by rw[Ab],rfl,kr,kn,hl,hm,hk,tW ms m,λM' kn' ko=>?_⟩;rw[kn'.o,Hv,QY,BW,VU kn'.m];obtain⟨a,b⟩:=oO kn' (ms++[m]);rw[AI]at a b;have h5:=kr.l;have:(6000:Nat)<=An:=by decide
 exact⟨IF kn'.m,by rw[Ab];ext,Dn.of (q _ a (ko.trans b))⟩
end
def gg (C:Ao)(ds:List D)(M:Mp)(Q:DV):Prop:=Gx ds λx=>∃(A:KA) (E:Str->List (Str×Nat)) (row:List (Str×Str×Nat)) (ms:List Int) (m:Int),x=.ref A.o/\Op E row/\FX C M A E row (ms++[m]) (ms++[m])/\ms.length<row.length/\Lr (ms++[m])/\∀M',FX C M' A E row ms ms->Jp A M M'->Q .non M'
attribute[local method_specs_simp ↓]gg
section
theorem lJ:Om T T.x52 3 (gg T.C_Known):=by
 refine Co.p1 T.x52.d.F ["self"] λx M Q hr nN h=>?_;symm;obtain⟨A,E,row,ms,m,e1',kr,kn,hl,hk,q⟩:=h;cutsat;subst e1';refine⟨_,(qC (Fb (Ul AN Mu Mt mf (G6 T.cl_Known T.na_Known_marks (qv 0)))) (qO (Fb (Fk T.cl_Known T.x56.d (yY T) nofun (qv 0) (qA (Cv Ma T.B.len CK (qA (G6 T.cl_Known T.na_Known_marks (qv 0)) qN)) (qA Ak qN)))))),?_⟩;right;rw[kn.o,Hv,QY,BW,rN,kn.m];refine⟨IF kn.m,ms.map D.int,.int m,by rw[AI];rfl,?_⟩;obtain⟨a,b⟩:=oO kn ms;rw[a.o,Hv];refine⟨Mb (by nofun) (by nofun) (by nofun),?_⟩;rw[Hv,QY,BW,Rk a.m,BW];exact⟨A,E,row,ms,ms++[m],ms,ms.length,2,rfl,by rw[Ab],rfl,kr,a,hl,.inr (.inr rfl),hk,Zn4 ms m,λM' kn' ko=>Dn.of (q M' kn' (b.trans ko))⟩
end
noncomputable def HJ (n:Nat)(ms:List Int):List Int:=(ms++Ax (n-ms.length) 0).take n
theorem Yo {a b:List Int}(ha:Lr a)(hb:Lr b):Lr (a++b):=λm hm=>(AT.mp hm).elim (ha m) (hb m)
theorem jO (n:Nat):Lr (Ax n 0):=λm hm=>.inl (EV hm)
theorem sO {a:List Int}(h:Lr a)(n:Nat):Lr (a.take n):=λm hm=>h m (Gm hm)
theorem ZY (h:Lr ms)(n):Lr (HJ n ms):=sO (Yo h (jO _)) n
theorem Ym (n)(ms):(HJ n ms).length=n:=by
 unfold HJ;rw[AZ,As,Br];ext
def fo (C:Ao)(ds:List D)(M:Mp)(Q:DV):Prop:=FI ds λx y=>∃(A:KA) (E:Str->List (Str×Nat)) (row:List (Str×Str×Nat)) (ms:List Int) (n:Nat),x=.ref A.o/\y=.int n/\Op E row/\FX C M A E row ms ms/\Lr ms/\n<=row.length/\ms.length<=row.length/\∀M',FX C M' A E row (HJ n ms) (HJ n ms)->Jp A M M'->Q .non M'
attribute[local method_specs_simp ↓]fo
section
theorem zK:Om T T.x53 4 (fo T.C_Known):=by
 refine Co.p2 T.x53.d.F ["self", "many"] λx z M Q hr nN h=>?_;symm;obtain⟨A,E,row,ms,n,e1',e2',kr,kn,hk,hn,hl,q⟩:=h;cutsat;subst e1' e2';refine⟨_,(EW (UQ AK (AY Lp (Cv Ma T.B.len CK (qA (G6 T.cl_Known T.na_Known_marks (qv 0)) qN)) (qv 1)) (qO (Fb (Fk T.cl_Known T.x51.d (bw T) nofun (qv 0) (qA Ak qN))))) (qO (UQ AK (AY Lq (Cv Ma T.B.len CK (qA (G6 T.cl_Known T.na_Known_marks (qv 0)) qN)) (qv 1)) (qO (Fb (Kx T.cl_Known T.x52.d (lJ T) nofun (qv 0))))))),?_⟩
 (try simp only[N6,N4,N5])
 refine⟨λτ M'=>(FX T.C_Known M' A E row (ms++Ax (n-ms.length) 0) (ms++Ax (n-ms.length) 0)/\Jp A M M')/\τ=[some (.ref A.o),some (.int n)],?_,?_⟩
 .refine⟨λk τ M'=>∃j,(k=n-(ms.length+j)/\j<=n-ms.length/\FX T.C_Known M' A E row (ms++Ax j 0) (ms++Ax j 0)/\Jp A M M')/\τ=[some (.ref A.o),some (.int n)],⟨_,0,⟨rfl,Ek _,by rw[IW,CL];exact kn,Jp.refl A M⟩,rfl⟩,?_⟩;intro k τ M' hI';refine Aq λG' kk'=>?_;obtain⟨j,⟨e1',hj,kn',ko⟩,e2'⟩:=hI';refine kk' ?_;clear kk';subst e1' e2';grind;rw[kn'.o,Hv,QY,BW,Rk kn'.m,BW]
  (try grind)
  rw[Br];refine CD (λc=>?_) λc=>?_
  .refine⟨Mb (by nofun) (by nofun) (by nofun),A,E,row,ms++Ax j 0,0,rfl,rfl,kr,kn',by rw[As,Br];ext,.inl rfl,Yo hk (jO j),λM2 k2 o2=>⟨n-(ms.length+(j+1)),by ext,j+1,rfl,by ext,?_,ko.trans o2⟩⟩;rw[Oz,<- Bs];exact k2
  .have e:j=n-ms.length:=by ext
   subst e;exact⟨kn',ko⟩
 rintro τ M' ⟨⟨kn',ko⟩,rfl⟩;have e1:(ms++Ax (n-ms.length) 0).length=max n ms.length:=by rw[As,Br];ext
 have hk1:Lr (ms++Ax (n-ms.length) 0):=Yo hk (jO _);unfold HJ at q;generalize ms++Ax (n-ms.length) 0=ms1 at kn' e1 hk1 q;refine⟨λk τ M2=>(n+k<=ms1.length/\FX T.C_Known M2 A E row (ms1.take (n+k)) (ms1.take (n+k))/\Jp A M' M2)/\τ=[some (.ref A.o),some (.int n)],⟨ms1.length-n,⟨by ext,by rw[BR (by ext)];exact kn',Jp.refl A M'⟩,rfl⟩,?_⟩;intro k τ M2 hI';refine Aq λG' kk'=>?_;obtain⟨⟨hk2,kn2,ko2⟩,e1'⟩:=hI';refine kk' ?_;clear kk';subst e1';grind;rw[kn2.o,Hv,QY,BW,Rk kn2.m,BW]
 (try grind)
 rw[AZ];refine CD (λc=>?_) λc=>?_
 .obtain⟨k',rfl⟩:∃k',k=k'+1:=⟨k-1,by ext⟩;have hlt:n+k' < ms1.length:=by ext
  have e:ms1.take (n+(k'+1))=ms1.take (n+k')++[ms1[n+k']'hlt]:=JT hlt;have hm:=sO hk1 (n+(k'+1));rw[e]at kn2 hm;exact⟨Mb (by nofun) (by nofun) (by nofun),A,E,row,ms1.take (n+k'),_,rfl,kr,kn2,by rw[AZ];ext,hm,λM3 k3 o3=>⟨k',by ext,by ext,k3,ko2.trans o3⟩⟩
 .have e:k=0:=by ext
  subst e;exact Dn.of (q M2 kn2 (ko.trans ko2))
end
noncomputable def Zs (ms:List Int):Sn:=(ms.length,KW ms,LA ms)
noncomputable def Rr (row:List (Str×Str×Nat))(ks:List Int)(E:Str->List (Str×Nat))(s x:Str):Sn:=((E s).lookup x).elim n0 λw=>Zs (Lx row ks s x w)
noncomputable def ZC (row:List (Str×Str×Nat))(ks:List Int)(E:Str->List (Str×Nat))(so:Str):YG:=⟨Rr row ks E "box",Rr row ks E so,Rr row ks E "door"⟩
noncomputable def gM (row:List (Str×Str×Nat))(ks:List Int)(E:Str->List (Str×Nat))(so:Str)(t:Tm):Int:=gA (t.rs (ZC row ks E so)).2.1 (t.rs (ZC row ks E so)).2.2
structure Wl (E:Str->List (Str×Nat))(so:Str)(bs es:List (Str×Int))(t:Tm):Prop where
 w:Wd bs es t 1
 n:t.deep<=12
 b:∀x,Tm.box x∈t.leaves->∃w:Nat,bs.lookup x=some (w:Int)/\(x,w)∈E "box"
 l:∀x,Tm.late x∈t.leaves->∃w:Nat,bs.lookup x=some (w:Int)/\(x,w)∈E so
 d:∀x,Tm.door x∈t.leaves->∃w:Nat,es.lookup x=some (w:Int)/\(x,w)∈E "door"
theorem oQ :∀{l:List (Str×α)},(l.map (·.1)).Nodup->(z,v)∈l->l.lookup z=some v
 |[],_,h=>nomatch h
 |p::l,nd,h=>by
  rw[AQ,El]at nd;rw[Bx];rcases A5.mp h with e|h
  .subst e;simp
  .have ne:z≠p.1:=λe=>nd.1 (e ▸ GZ h);rw[show(z == p.1)=false by simpa using ne];exact oQ nd.2 h
theorem ly (kr:Op E row)(ks:List Int){w:Nat}(h:(z,w)∈E s):Rr row ks E s z=Zs (Lx row ks s z w):=by
 unfold Rr;rw[oQ (kr.e s).1 h];rfl
theorem lq {w:Nat}(h:ms.length=w)(h1:1<=w)(h2:w<=64):Rg (Zs ms)/\(Zs ms).1=w:=by
 have l1:=nT ms;have l2:=nQ ms;refine⟨⟨?_,⟨Tt ms,?_⟩,⟨Tq ms,?_⟩⟩,?_⟩
 .show(1:Int)<=ms.length/\(ms.length:Int)<=64;ext
 .show KW ms<2^(ms.length:Int).toNat
  rw[Bt];exact l1
 .show LA ms<2^(ms.length:Int).toNat
  rw[Bt];exact l2
 .show(ms.length:Int)=w;rw[h]
theorem Wl.dt {E:Str->List (Str×Nat)}{row:List (Str×Str×Nat)}(kr:Op E row)(g:Wl E so bs es t):DT (HU row ks E "box") (HU row ks E so) (HU row ks E "door") bs es (ZC row ks E so) t:=by
 have go:∀{s x:Str} {w:Nat},(x,w)∈E s->(Rg (Rr row ks E s x)/\(Rr row ks E s x).1=w)/\Du (HU row ks E s) (.inr x)=some (Hh (Rr row ks E s x)):=λ{s x w} h=>by
  have e:=(kr.e s).2.2 _ h;rw[ly kr ks h];exact⟨lq (Z0 ..) e.1 e.2,jI (kr.e s).1 h⟩
 refine⟨λx hx=>?_,λx hx=>?_,λx hx=>?_⟩
 .obtain⟨w,h1,h2⟩:=g.b x hx;exact⟨_,h1,go h2⟩
 .obtain⟨w,h1,h2⟩:=g.l x hx;exact⟨_,h1,go h2⟩
 .obtain⟨w,h1,h2⟩:=g.d x hx;exact⟨_,h1,go h2⟩
def gp (C:Ao)(ds:List D)(M:Mp)(Q:DV):Prop:=IZ ds λx y z=>∃(A:KA) (E:Str->List (Str×Nat)) (row:List (Str×Str×Nat)) (ms:List Int) (t:Tm) (so:Str) (bs es:List (Str×Int)),x=.ref A.o/\y=t.D/\z=.str so/\K1 so/\Op E row/\FX C M A E row ms ms/\Lr ms/\Wl E so bs es t/\Q (.int (gM row ms E so t)) M
attribute[local method_specs_simp ↓]gp
section
theorem e7:Om T T.x59 19 (gp T.C_Known):=by
 refine Co.p3 T.x59.d.F ["self", "guard", "sort"] λx y z M Q hr nN h=>?_;symm;obtain⟨A,E,row,ms,t,so,bs,es,e1',e2',e3',hs,kr,kn,hk,gd,q⟩:=h;cutsat;subst e1' e2' e3';refine⟨_,(qO (CH (Bg Hy (Ay T.x20.d (ZkB T) nofun (qA (Ay T.x23.d (wI T 12) nofun (qA (qv 1) (qA (CG (qA (Fl (Kj hr) (G6 T.cl_Known T.na_Known_spans (qv 0)) BX (λ_ _=>rfl)) (qA (Fl (Kj hr) (G6 T.cl_Known T.na_Known_spans (qv 0)) (qv 2) (λ_ _=>rfl)) (qA (Fl (Kj hr) (G6 T.cl_Known T.na_Known_spans (qv 0)) BX (λ_ _=>rfl)) qN)))) qN))) qN)) Ak))),?_⟩;right;rw[kn.o,Hv,Yq,BW,Rt kn.d,BW]
 (try grind)
 rw[VT (.inl rfl),BW,Yq,BW,Rt kn.d,BW,VT hs,BW,BW,Rt kn.d,BW,VT (.inr (.inl rfl)),BW];have e1:=(iD gd.w (gd.dt (ks:=ms) kr)).1
 (try grind)
 refine⟨_,_,_,_,_,_,bs,es,ZC row ms E so,rfl,⟨Rt (kn.s "box" (.inl rfl)),Rt (kn.s so hs),Rt (kn.s "door" (.inr (.inl rfl)))⟩,gd.n,⟨1,gd.w⟩,gd.dt kr,_,rfl,e1.2,λp hp=>?_⟩;exact QQ (Sub.put hp) q
end
structure YN (E:Str->List (Str×Nat))(bs es:List (Str×Int))(t u:Tm):Prop where
 a:Wl E "one" bs es t
 b:Wl E "other" bs es u
def fw (C:Ao)(ds:List D)(M:Mp)(Q:DV):Prop:=FI ds λx y=>∃(A:KA) (E:Str->List (Str×Nat)) (row:List (Str×Str×Nat)) (ms:List Int) (t u:Tm) (bs es:List (Str×Int)),x=.ref A.o/\y=.tup [t.D,u.D]/\Op E row/\FX C M A E row ms ms/\Lr ms/\YN E bs es t u/\Q (.tup [.int (gM row ms E "one" t),.int (gM row ms E "other" u)]) M
attribute[local method_specs_simp ↓]fw
section
theorem fu:Om T T.x58 20 (fw T.C_Known):=by
 refine Co.p2 T.x58.d.F ["self", "guards"] λx y M Q hr nN h=>?_;symm;obtain⟨A,E,row,ms,t,u,bs,es,e1',e2',kr,kn,hk,gd,q⟩:=h;cutsat;subst e1' e2';refine⟨_,(qO (CH (CG (qA (Fk T.cl_Known T.x59.d (e7 T) nofun (qv 0) (qA (Bg BE (qv 1) Ak) (qA BX qN))) (qA (Fk T.cl_Known T.x59.d (e7 T) nofun (qv 0) (qA (Bg BE (qv 1) Ak) (qA BX qN))) qN))))),?_⟩;right;rw[kn.o,Hv];refine⟨Mb (by nofun) (by nofun) (by nofun),A,E,row,ms,t, "one",bs,es,rfl,rfl,rfl,.inr (.inr (.inl rfl)),kr,kn,hk,gd.a,?_⟩
 (try grind)
 refine⟨Mb (by nofun) (by nofun) (by nofun),A,E,row,ms,u, "other",bs,es,rfl,rfl,rfl,.inr (.inr (.inr rfl)),kr,kn,hk,gd.b,?_⟩
 (try grind)
 exact Dn.of q
end
noncomputable def Rj (row:List (Str×Str×Nat))(E:Str->List (Str×Nat))(t u:Tm)(ms:List Int):Bool:=decide (gM row ms E "one" t=0\/gM row ms E "other" u=0\/(gM row ms E "one" t=1/\gM row ms E "other" u=1))
def gq (C:Ao)(ds:List D)(M:Mp)(Q:DV):Prop:=IZ ds λx n y=>∃(A:KA) (E:Str->List (Str×Nat)) (row:List (Str×Str×Nat)) (ms:List Int) (t u:Tm) (bs es:List (Str×Int)) (k:Nat),x=.ref A.o/\n=.int k/\y=.tup [t.D,u.D]/\Op E row/\FX C M A E row ms ms/\Lr ms/\YN E bs es t u/\k<=row.length/\ms.length<=row.length/\∀M',FX C M' A E row (HJ k ms) (HJ k ms)->Jp A M M'->Q (.bl (Rj row E t u (HJ k ms))) M'
attribute[local method_specs_simp ↓]gq
section
theorem e8:Om T T.x55 21 (gq T.C_Known):=by
 refine Co.p3 T.x55.d.F ["self", "many", "guards", "held"] λx n y M Q hr nN h=>?_;symm;obtain⟨A,E,row,ms,t,u,bs,es,k,e1',e2',e3',kr,kn,hk,gd,h1,h2,q⟩:=h;cutsat;subst e1' e2' e3';refine⟨_,(qC (Fb (Fk T.cl_Known T.x53.d (zK T) nofun (qv 0) (qA (qv 1) qN))) (qC (CC 3 nN (Fk T.cl_Known T.x58.d (fu T) nofun (qv 0) (qA (qv 2) qN))) (qO (CH (fW (JI O7 Ak (qv 3) (by with_unfolding_all rfl)) (N8 (JI (hW (JK hr)) (qv 3) (CG (qA Ak (qA Ak qN)))))))))),?_⟩;right;rw[kn.o,Hv];refine⟨Mb (by nofun) (by nofun) (by nofun),A,E,row,ms,k,rfl,rfl,kr,kn,hk,h1,h2,λM' kn' ko=>?_⟩
 (try grind)
 rw[kn'.o,Hv];refine⟨Mb (by nofun) (by nofun) (by nofun),A,E,row,_,t,u,bs,es,rfl,rfl,kr,kn',ZY hk k,gd,?_⟩
 (try grind)
 have z:=q M' kn' ko;unfold Rj at z;refine CD (λc=>?_) λc=>?_
 .rw[decide_eq_true (c.elim .inl λh=>.inr (.inl h))]at z;exact Dn.of z
 .rw[<- RT];rw[decide_eq_decide.mpr ⟨λh=>h.elim (λh=>absurd (.inl h) c) λh=>h.elim (λh=>absurd (.inr h) c) id,λh=>.inr (.inr h)⟩]at z;exact Dn.of z
end
theorem ZP (h:ms.length<=n):HJ n ms=ms++Ax (n-ms.length) 0:=by
 unfold HJ;exact BR (by rw[As,Br];ext)
theorem zx (ms:List Int):HJ ms.length ms=ms:=by rw[ZP (AJ _),Jv,IW,CL]
theorem Yl {a b:Nat}{ms:List Int}(ha:ms.length<=a)(hb:ms.length<=b):HJ b (HJ a ms)=HJ b ms:=by
 rw[ZP hb];unfold HJ;have e:(ms++Ax (a-ms.length) (0:Int)).take a=ms++Ax (a-ms.length) 0:=ZP ha;rw[e,As,Br,Bs,List.replicate_append_replicate,List.take_append,BR hb,List.take_replicate];congr 2
 ext
noncomputable def VB (st:Nat->Bool)(b L:Nat):Nat->Nat->Nat->Nat×Nat
 |0,lo,hi=>(lo,hi)
 |f+1,lo,hi=>if st hi=true then(lo,hi)else VB st b L f (hi+1) (min (b+2*(hi+1-b)) L)
noncomputable def VH (st:Nat->Bool):Nat->Nat->Nat->Nat
 |0,_,hi=>hi
 |f+1,lo,hi=>if lo<hi then(if st ((lo+hi) / 2)=true then VH st f lo ((lo+hi) / 2)else VH st f ((lo+hi) / 2+1) hi)else hi
noncomputable def ZB (st:Nat->Bool)(b L:Nat):Nat:=VH st (L+1) (VB st b L (L+1) b b).1 (VB st b L (L+1) b b).2
def fg (C:Ao)(ds:List D)(M:Mp)(Q:DV):Prop:=FI ds λx y=>∃(A:KA) (E:Str->List (Str×Nat)) (row:List (Str×Str×Nat)) (ms:List Int) (t u:Tm) (bs es:List (Str×Int)) (st:Nat->Bool),x=.ref A.o/\y=.tup [t.D,u.D]/\Op E row/\FX C M A E row ms ms/\Lr ms/\YN E bs es t u/\ms.length<=row.length/\(∀k,Rj row E t u (HJ k ms)=st k)/\st row.length=true/\∀M' N,ZB st ms.length row.length=N->ms.length<=N->N<=row.length->st N=true->FX C M' A E row (HJ N ms) (HJ N ms)->Jp A M M'->Q .non M'
attribute[local method_specs_simp ↓]fg
section
theorem Zhj:Om T T.x54 22 (fg T.C_Known):=by
 refine Co.p2 T.x54.d.F ["self", "guards", "begin", "low", "high", "middle"] λx y M Q hr nN h=>?_;symm;obtain⟨A,E,row,ms,t,u,bs,es,st,e1',e2',kr,kn,hk,gd,n1,hst,hL,q⟩:=h;cutsat;subst e1' e2';have r5:=kr.l;refine⟨_,(qC (CC 2 nN (Cv Ma T.B.len CK (qA (G6 T.cl_Known T.na_Known_marks (qv 0)) qN))) (qC (CC 3 nN (qv 2)) (qC (CC 4 nN (qv 2)) (EW (UQ AK (Lw (GL (Fk T.cl_Known T.x55.d (e8 T) nofun (qv 0) (qA (qv 4) (qA (qv 1) qN))))) (qC (CC 3 nN (BG Hu (qv 4) Ak)) (qO (CC 4 nN (Cv (jb rfl) T.B.min boot_min (qA (BG Hu (qv 2) (BG Uz Ak (BG Na (qv 3) (qv 2)))) (qA (Cv Ma T.B.len CK (qA (G6 T.cl_Known T.na_Known_row (qv 0)) qN)) qN))))))) (EW (UQ AK (AY Lp (qv 3) (qv 4)) (qC (CC 5 nN (BG KY (BG Hu (qv 3) (qv 4)) Ak)) (qO (ED (GL (Fk T.cl_Known T.x55.d (e8 T) nofun (qv 0) (qA (qv 5) (qA (qv 1) qN)))) (qO (CC 4 nN (qv 5))) (qO (CC 3 nN (BG Hu (qv 5) Ak))))))) (qO (Fb (Fk T.cl_Known T.x53.d (zK T) nofun (qv 0) (qA (qv 4) qN))))))))),?_⟩;right;rw[kn.o,Hv,QY,BW,Rk kn.m,BW,Ab]
 (try grind)
 generalize hG:D.tup [t.D,u.D]=G;unfold ZB at q;generalize hP:VB st ms.length row.length (row.length+1) ms.length ms.length=P0 at q;refine⟨λτ M'=>∃lo hi c:Nat,((ms.length<=lo/\lo<=hi/\hi<=row.length/\P0=(lo,hi)/\st hi=true)/\(ms.length<=c/\c<=row.length)/\FX T.C_Known M' A E row (HJ c ms) (HJ c ms)/\Jp A M M')/\τ=[some (.ref A.o),some G,some (.int ms.length),some (.int lo),some (.int hi),none],?_,?_⟩
 .refine⟨λk τ M'=>∃lo hi c:Nat,((ms.length<=lo/\lo<=hi/\hi<=row.length/\row.length-hi+1<=k/\VB st ms.length row.length k lo hi=P0)/\(ms.length<=c/\c<=row.length)/\FX T.C_Known M' A E row (HJ c ms) (HJ c ms)/\Jp A M M')/\τ=[some (.ref A.o),some G,some (.int ms.length),some (.int lo),some (.int hi),none],⟨row.length+1,ms.length,ms.length,ms.length,⟨⟨AJ _,AJ _,n1,by ext,hP⟩,⟨AJ _,n1⟩,by rw[zx];exact kn,Jp.refl A M⟩,rfl⟩,?_⟩;intro k τ M' hI';refine Aq λG' kk'=>?_;obtain⟨lo,hi,c,⟨⟨h1,h3,h4,hf,hu⟩,⟨c1,c2⟩,kn',ko⟩,e1'⟩:=hI';refine kk' ?_;clear kk';subst e1';obtain⟨k,rfl⟩:∃k',k=k'+1:=⟨k-1,by ext⟩;rw[VB]at hu;grind;rw[kn'.o,Hv];subst hG;refine⟨Mb (by nofun) (by nofun) (by nofun),A,E,row,_,t,u,bs,es,hi,rfl,rfl,rfl,kr,kn',ZY hk c,gd,h4,by rw[Ym];exact c2,λM2 k2 o2=>?_⟩;rw[Yl c1 (by ext)]at k2;rw[Yl c1 (by ext),hst];cases es0:st hi with
  |true=>
   rw[es0,if_pos rfl]at hu
   (try grind)
   exact⟨lo,hi,hi,⟨⟨h1,h3,h4,hu.symm,es0⟩,⟨by ext,h4⟩,k2,ko.trans o2⟩,rfl⟩
  |false=>
   rw[es0,if_neg Am]at hu
   have hlt:hi<row.length:=by
    rcases G1 hi row.length with h|h
    .exact h
    .rw[show hi=row.length by ext,hL]at es0;cases es0
   (try grind)
   have ho:(min (ms.length+2*(hi+1-ms.length)) row.length:Nat)=(if (row.length:Int)<ms.length+2*(hi+1-ms.length)then(row.length:Int)else ms.length+2*(hi+1-ms.length)):=by
    split<;>ext
   refine⟨?_,?_⟩
   .exact .inl ⟨by ext,by ext⟩
   rw[k2.o,Hv,oR,BW,Rk k2.q,BW,Ab,<- ho];exact⟨k,by ext,hi+1,min (ms.length+2*(hi+1-ms.length)) row.length,hi,⟨⟨by ext,by ext,by ext,by ext,hu⟩,⟨by ext,h4⟩,k2,ko.trans o2⟩,rfl⟩
 intro τ M' hI';symm;obtain⟨lo,hi,c,⟨⟨h1,h3,h4,hp,hs⟩,⟨c1,c2⟩,kn',ko⟩,e1'⟩:=hI';cutsat;subst e1';subst hp;dsimp only at q;generalize hR:VH st (row.length+1) lo hi=N at q;refine⟨λτ M'=>∃c:Nat,((ms.length<=c/\c<=row.length)/\FX T.C_Known M' A E row (HJ c ms) (HJ c ms)/\Jp A M M'/\ms.length<=N/\N<=row.length/\st N=true)/\∃x,τ=[some (.ref A.o),some G,some (.int ms.length),some (.int N),some (.int N),x],?_,?_⟩
 .refine⟨λk τ M'=>∃lo hi c:Nat,((ms.length<=lo/\lo<=hi/\hi<=row.length/\hi-lo+1<=k/\VH st k lo hi=N/\st hi=true)/\(ms.length<=c/\c<=row.length)/\FX T.C_Known M' A E row (HJ c ms) (HJ c ms)/\Jp A M M')/\∃x,τ=[some (.ref A.o),some G,some (.int ms.length),some (.int lo),some (.int hi),x],⟨_,lo,hi,c,⟨⟨h1,h3,h4,by ext,hR,hs⟩,⟨c1,c2⟩,kn',ko⟩,_,rfl⟩,?_⟩;clear hs hR hP c1 c2 kn' ko h1 h3 h4;intro k τ M' hI';symm;obtain⟨lo,hi,c,⟨⟨h1,h3,h4,hf,hu,hs⟩,⟨c1,c2⟩,kn',ko⟩,x,e1'⟩:=hI';cutsat;subst e1';obtain⟨k,rfl⟩:∃k',k=k'+1:=⟨k-1,by ext⟩;rw[VH]at hu;grind;subst hG;refine CD (λc=>?_) λc=>?_
  .have clt:lo<hi:=by ext
   rw[if_pos clt]at hu;have em:((lo:Int)+hi) / 2=((lo+hi) / 2:Nat):=by ext
   rw[em];refine⟨by unfold Vb;ext,?_⟩;rw[kn'.o,Hv];refine⟨Mb (by nofun) (by nofun) (by nofun),A,E,row,_,t,u,bs,es,(lo+hi) / 2,rfl,rfl,rfl,kr,kn',ZY hk _,gd,by ext,by rw[Ym];exact c2,λM2 k2 o2=>?_⟩;rw[Yl c1 (by ext)]at k2;rw[Yl c1 (by ext),hst];cases es0:st ((lo+hi) / 2)with
   |true=>
    rw[es0,if_pos rfl]at hu
    (try grind)
    exact⟨k,by ext,lo,(lo+hi) / 2,(lo+hi) / 2,⟨⟨h1,by ext,by ext,by ext,hu,es0⟩,⟨by ext,by ext⟩,k2,ko.trans o2⟩,_,rfl⟩
   |false=>
    rw[es0,if_neg Am]at hu
    (try grind)
    exact⟨k,by ext,(lo+hi) / 2+1,hi,(lo+hi) / 2,⟨⟨by ext,by ext,h4,by ext,hu,hs⟩,⟨by ext,by ext⟩,k2,ko.trans o2⟩,_,rfl⟩
  .have e:lo=hi:=by ext
   rw[if_neg (by ext)]at hu;subst hu;subst e;exact⟨_,⟨⟨c1,c2⟩,kn',ko,h1,h4,hs⟩,_,rfl⟩
 intro τ M2 hI';symm;obtain⟨c',⟨⟨c1',c2'⟩,kn2,ko2,N1,N2,sN⟩,x,e1'⟩:=hI';cutsat;subst e1';grind;rw[kn2.o,Hv];refine⟨Mb (by nofun) (by nofun) (by nofun),A,E,row,_,N,rfl,rfl,kr,kn2,ZY hk _,N2,by rw[Ym];exact c2',λM3 k3 o3=>?_⟩;rw[Yl c1' N1]at k3;exact Dn.of (q M3 N rfl N1 N2 sN k3 (ko2.trans o3))
end
def cb (C:Ao)(ds:List D)(M:Mp)(Q:DV):Prop:=Gx ds λx=>∃(A:KA) (E:Str->List (Str×Nat)) (row:List (Str×Str×Nat)) (a:List Int) (k:Nat),x=.ref A.o/\Op E row/\FX C M A E row (a++Ax k 1) (a++Ax k 1)/\Lr a/\(a++Ax k 1).length<=row.length/\((a=[]/\∀M',FX C M' A E row [] []->Jp A M M'->Q (.bl false) M')\/∃b,a=b++[0]/\∀M',FX C M' A E row (b++[1]) (b++[1])->Jp A M M'->Q (.bl true) M')
attribute[local method_specs_simp ↓]cb
theorem qI (k:Nat):Lr (Ax k 1):=λm hm=>.inr (.inl (EV hm))
theorem mZ (xs:List Int)(m:Int):FK ((xs++[m]).map D.int) (-1)=some (.int m):=by
 rw[AI];exact yg _ _
section
theorem Zio:Om T T.x57 4 (cb T.C_Known):=by
 refine Co.p1 T.x57.d.F ["self"] λx M Q hr nN h=>?_;symm;obtain⟨A,E,row,a,k,e1',kr,kn,hk,hl,q⟩:=h;cutsat;subst e1';refine⟨_,(EW (UQ AK ((VY (AY Lq (Cv Ma T.B.len CK (qA (G6 T.cl_Known T.na_Known_marks (qv 0)) qN)) Ak) (V4 (AY CS (Bg Hy (G6 T.cl_Known T.na_Known_marks (qv 0)) (Rm ZG Ak)) Ak)))).pt (qO (Fb (Kx T.cl_Known T.x52.d (lJ T) nofun (qv 0))))) (qC (ED (AY CS (Cv Ma T.B.len CK (qA (G6 T.cl_Known T.na_Known_marks (qv 0)) qN)) Ak) (qO (CH Um)) qE) (qC (Fb (Kx T.cl_Known T.x52.d (lJ T) nofun (qv 0))) (qC (Fb (Fk T.cl_Known T.x51.d (bw T) nofun (qv 0) (qA Ak qN))) (qO (CH Um)))))),?_⟩
 (try simp only[N6,N4,N5])
 refine⟨λτ M'=>(FX T.C_Known M' A E row a a/\Jp A M M')/\τ=[some (.ref A.o)],?_,?_⟩
 .refine⟨λj τ M'=>(j<=k/\FX T.C_Known M' A E row (a++Ax j 1) (a++Ax j 1)/\Jp A M M')/\τ=[some (.ref A.o)],⟨k,⟨AJ _,kn,Jp.refl A M⟩,rfl⟩,?_⟩;intro j τ M' hI';symm;obtain⟨⟨hj,kn',ko⟩,e1'⟩:=hI';cutsat;subst e1';grind;rw[kn'.o,Hv,QY,BW,Rk kn'.m,BW];rw[Ab];refine CD (λc=>?_) λc=>?_
  .rw[Hv,QY,BW,gC kn'.m,BW];cases j with
   |zero=>
    rw[IW,CL]at c kn' ⊢;rcases q with⟨rfl,-⟩|⟨b,rfl,-⟩
    .exact absurd c (by simp)
    rw[mZ,BW]
    (try grind)
    exact⟨kn',ko⟩
   |succ j=>
    rw[Oz,<- Bs]at c kn' ⊢;rw[mZ,BW]
    (try grind)
    rw[kn'.o,Hv];exact⟨Mb (by nofun) (by nofun) (by nofun),A,E,row,_,1,rfl,kr,kn',by rw[As,Br]at hl ⊢;ext,Yo (Yo hk (qI j)) (qI 1),λM2 k2 o2=>⟨j,by ext,by ext,k2,ko.trans o2⟩⟩
  .have e:a++Ax j 1=[]:=AG (by ext);rw[e]at kn';rw[(List.append_eq_nil_iff.mp e).1];exact⟨kn',ko⟩
 rintro τ M' ⟨⟨kn',ko⟩,rfl⟩;grind;rw[kn'.o,Hv,QY,BW,Rk kn'.m,BW]
 (try grind)
 rcases q with⟨rfl,q⟩|⟨b,rfl,q⟩
 .exact Dn.of (q M' kn' ko)
 .rw[if_neg (by rw[As];show¬((b.length+1:Nat):Int)=0;ext)];have l1:b.length<row.length:=by rw[As,As]at hl;change b.length+1+_<=_ at hl;ext
  refine⟨Mb (by nofun) (by nofun) (by nofun),A,E,row,b,0,rfl,kr,kn',l1,hk,λM2 k2 o2=>?_⟩;rw[k2.o,Hv];exact⟨Mb (by nofun) (by nofun) (by nofun),A,E,row,b,1,rfl,rfl,kr,k2,l1,.inr (.inl rfl),λm hm=>hk m (CN _ hm),λM3 k3 o3=>Dn.of (q M3 k3 ((ko.trans o2).trans o3))⟩
end
noncomputable def VG (row:List (Str×Str×Nat))(ms:List Int)(E:Str->List (Str×Nat))(s:Str):List (Str×Int):=(E s).map λn=>(n.1,KW (Lx row ms s n.1 n.2))
def gh (C:Ao)(ds:List D)(M:Mp)(Q:DV):Prop:=FI ds λx y=>∃(A:KA) (E:Str->List (Str×Nat)) (row:List (Str×Str×Nat)) (ms:List Int) (s:Str),x=.ref A.o/\y=.str s/\K1 s/\Op E row/\M A.o=some (.obj C (Nt A))/\M A.d=some (.dic (Ji A))/\M (A.at s)=some (.dic (HU row ms E s))/\Q (.dic (Fj (VG row ms E s))) (JL M (A.at s))
attribute[local method_specs_simp ↓]gh
section
theorem bM:Om T T.x61 3 (gh T.C_Known):=by
 refine Co.p2 T.x61.d.F ["self", "sort", "named"] λx y M Q hr nN h=>?_;symm;obtain⟨A,E,row,ms,so,e1',e2',hs,kr,k1,k2,k3,q⟩:=h;cutsat;subst e1' e2';refine⟨_,(qC (ZT (i:=2) nN rfl (Hb rfl) (Ln (Fl (Kj hr) (G6 T.cl_Known T.na_Known_spans (qv 0)) (qv 1) (λ_ _=>rfl)))) (qO (CH (Ee (aI rfl) T.B.dict LO (qA (R4 (caps:=[("named",2)]) (j:=2) ⟨rfl,by rfl,by rfl,by rfl,rfl,by rfl,by nofun⟩ rfl rfl (Hb (B4 rfl)) (by decide) (by decide) (λ_ _ _ _ _ _ _=>(CG (qA (qv 0) (qA (Bg BE (Fl (Kj hr) (qv 1) (qv 0) (λ_ _=>rfl)) Ak) qN))))) qN))))),?_⟩;right;rw[k1,Hv,Yq,BW,Rt k2,BW,VT hs,BW]
 (try grind)
 rw[k3]
 (try grind)
 have e12:=(kr.e so).2.1
 have ek:Fc (λp:B7×D=>kD p.1) (HU row ms E so)=(E so).map λn=>.str n.1:=by
  unfold HU;rw[BA];rfl
 rw[ek];refine ET.of (ks:=E so) (g:=λn=>.str n.1) (f:=λn=>.tup [.str n.1,.int (KW (Lx row ms so n.1 n.2))]) (GK (by ext)) trivial (λn hn R r=>?_) ?_
 .walk_at "cap";rw[jI (kr.e so).1 hn,BW];unfold Np
  (try grind)
  exact r
 refine⟨Fj (VG row ms E so),?_,GK (by unfold Fj VG;rw[Ab,Ab];ext),?_⟩
 .simp[G7,Fj,VG,kD]
 rw[bA _ (jX _ (by unfold VG;rw[BA];exact(kr.e so).1))];exact Dn.of q
end
noncomputable def Zy (row:List (Str×Str×Nat))(ms:List Int)(E:Str->List (Str×Nat))(s:Str):D:=.dic (Fj (VG row ms E s))
noncomputable def OO (row:List (Str×Str×Nat))(ms:List Int)(E:Str->List (Str×Nat)):D:=.tup [.str "both",Zy row ms E "box",Zy row ms E "door",Zy row ms E "one",Zy row ms E "other"]
def gm (C:Ao)(ds:List D)(M:Mp)(Q:DV):Prop:=Gx ds λx=>∃(A:KA) (E:Str->List (Str×Nat)) (row:List (Str×Str×Nat)) (ms:List Int),x=.ref A.o/\Op E row/\FX C M A E row ms ms/\Q (OO row ms E) (JL (JL (JL (JL M A.b) A.e) A.f) A.g)
attribute[local method_specs_simp ↓]gm
theorem I8 {M:Mp}{p q:Ao}(h:p≠q):JL M q p=M p:=if_neg h
theorem FX.one {C:Ao}{M:Mp}{A:KA}{E:Str->List (Str×Nat)}{row:List (Str×Str×Nat)}{ms ks:List Int}(kn:FX C M A E row ms ks){s:Str}(hs:K1 s):A.o≠A.at s:=λe=>by
 have hd:=kn.o;rw[e,kn.s s hs]at hd;cases hd
section
theorem ZdL:Om T T.x60 4 (gm T.C_Known):=by
 refine Co.p1 T.x60.d.F ["self"] λx M Q hr nN h=>?_;symm;obtain⟨A,E,row,ms,e1',kr,kn,q⟩:=h;cutsat;subst e1';refine⟨_,(qO (CH (CG (qA BX (qA (Fk T.cl_Known T.x61.d (bM T) nofun (qv 0) (qA BX qN)) (qA (Fk T.cl_Known T.x61.d (bM T) nofun (qv 0) (qA BX qN)) (qA (Fk T.cl_Known T.x61.d (bM T) nofun (qv 0) (qA BX qN)) (qA (Fk T.cl_Known T.x61.d (bM T) nofun (qv 0) (qA BX qN)) qN)))))))),?_⟩;have sb:K1 "box":=.inl rfl;have sd:K1 "door":=.inr (.inl rfl);have so:K1 "one":=.inr (.inr (.inl rfl));have st:K1 "other":=.inr (.inr (.inr rfl));have nd:=kn.nd;simp only[El,BD,AS,or_false,not_or]at nd;symm;obtain⟨⟨n1,n2,n3⟩,⟨n4,n5⟩,n6,-⟩:=nd;cutsat;have o1:=kn.one sb;have o2:=kn.one sd;have o3:=kn.one so;have d1:=kn.dne sb;have d2:=kn.dne sd;have d3:=kn.dne so;have k1:=kn.s _ sb;have k2:=kn.s _ sd;have k3:=kn.s _ so;have k4:=kn.s _ st;simp only[UB,UJ,UC,UO]at o1 o2 o3 d1 d2 d3 k1 k2 k3 k4;have no:∀{B:KA},BK (Al "low_words") (Nt B)=none:=λ{B}=>Mb (by nofun) (by nofun) (by nofun);right;rw[kn.o,Hv];refine⟨no,A,E,row,ms, "box",rfl,rfl,sb,kr,kn.o,kn.d,by rw[UB];exact k1,?_⟩;rw[UB,I8 o1,kn.o,Hv];refine⟨no,A,E,row,ms, "door",rfl,rfl,sd,kr,by rw[I8 o1];exact kn.o,by rw[I8 d1];exact kn.d,by rw[UJ,I8 (Bm n1)];exact k2,?_⟩;rw[UJ,I8 o2,I8 o1,kn.o,Hv];refine⟨no,A,E,row,ms, "one",rfl,rfl,so,kr,by rw[I8 o2,I8 o1];exact kn.o,by rw[I8 d2,I8 d1];exact kn.d,by rw[UC,I8 (Bm n4),I8 (Bm n2)];exact k3,?_⟩;rw[UC,I8 o3,I8 o2,I8 o1,kn.o,Hv];refine⟨no,A,E,row,ms, "other",rfl,rfl,st,kr,by rw[I8 o3,I8 o2,I8 o1];exact kn.o,by rw[I8 d3,I8 d2,I8 d1];exact kn.d,by rw[UO,I8 (Bm n6),I8 (Bm n5),I8 (Bm n3)];exact k4,?_⟩;rw[UO];exact Dn.of q
end
def Q6 (ms:List Int):Prop:=∀m∈ms,m=0\/m=1
theorem nS:∀{ms:List Int},Q6 ms->KW ms=LA ms
 |[],_=>rfl
 |m::ms,h=>by
  rw[wa,vm,nS λx hx=>h x (AE _ hx)];rcases h m AF with rfl|rfl<;>rfl
noncomputable def GP (s z:Str)(w:Nat):List (Str×Str×Nat):=(Bu w).map λi=>(s,z,w-1-i)
theorem ν (s z:Str)(w:Nat):(GP s z w).length=w:=by unfold GP;rw[Ab,Ce]
theorem aR {w:Nat} :b∈GP s z w↔b.1=s/\b.2.1=z/\b.2.2<w:=by
 constructor
 .intro h;obtain⟨i,hi,rfl⟩:=Ap.mp h;have hi:=CB.mp hi;exact⟨rfl,rfl,by show w-1-i<w;ext⟩
 .rintro⟨rfl,rfl,h⟩;refine Ap.mpr ⟨w-1-b.2.2,CB.mpr (by ext),?_⟩;rw[show w-1-(w-1-b.2.2)=b.2.2 by ext]
theorem yi (s z:Str)(w:Nat):(GP s z w).Nodup:=by
 unfold GP Ez;rw[Cq];refine WH (λ{i j} hi hj h c=>?_) List.pairwise_lt_range;have hi:=CB.mp hi;have hj:=CB.mp hj;have:=congrArg (λx:Str×Str×Nat=>x.2.2) c;change w-1-i=w-1-j at this;ext
theorem jH :∀(l:List (Str×Str×Nat)) (acc:List (Str×Nat)),(∀b∈l,¬(b.1=t/\b.2.1∉acc.map (·.1)))->l.foldl (Nq t) acc=acc
 |[],acc,_=>rfl
 |b::l,acc,h=>by
  rw[DR,show Nq t acc b=acc from if_neg (h b AF)];exact jH l acc λb hb=>h b (AE _ hb)
theorem xo {w:Nat}(acc:List (Str×Nat))(hw:1<=w):(GP s z w).foldl (Nq t) acc=if s=t/\z∉acc.map (·.1)then acc++[(z,w)]else acc:=by
 by_cases h:s=t/\z∉acc.map (·.1)
 .rw[if_pos h];obtain⟨n,rfl⟩:∃n,w=n+1:=⟨w-1,by ext⟩;unfold GP;rw[EF,AQ,DR]
  have e:Nq t acc (s,z,n+1-1-0)=acc++[(z,n+1)]:=by
   unfold Nq;rw[if_pos h];rfl
  rw[e];refine jH _ _ λb hb c=>c.2 ?_;obtain⟨i,hi,rfl⟩:=Ap.mp hb;show z∈(acc++[(z,n+1)]).map (·.1);simp
 .rw[if_neg h];refine jH _ _ λb hb c=>h ?_;obtain⟨h1,h2,-⟩:=aR.mp hb;rw[h1,h2]at c;exact c
noncomputable def FD (g:List (Str×Str×Nat)):List (Str×Str×Nat):=g.flatMap λp=>GP p.1 p.2.1 p.2.2
noncomputable def L8 (p:Str×Str×Nat):Str×Str:=(p.1,p.2.1)
noncomputable def Rn (g:List (Str×Str×Nat))(s:Str):List (Str×Nat):=(g.filter λp=>decide (p.1=s)).map (·.2)
theorem iJ {s:Str}:∀(g:List (Str×Str×Nat)) (acc:List (Str×Nat)),(∀p∈g,1<=p.2.2/\(p.1=s->p.2.1∉acc.map (·.1)))->(g.map L8).Nodup->(FD g).foldl (Nq s) acc=acc++Rn g s
 |[],acc,_,_=>(CL acc).symm
 |p::g,acc,h,nd=>by
  obtain⟨h1,h2⟩:=h p AF;rw[AQ,El]at nd;show(GP p.1 p.2.1 p.2.2++FD g).foldl (Nq s) acc=_;rw[JU,xo _ h1];unfold Rn;by_cases e:p.1=s
  .rw[if_pos ⟨e,h2 e⟩,F4,if_pos (decide_eq_true e),AQ];rw[iJ g (acc++[(p.2.1,p.2.2)]) (λq hq=>⟨(h q (AE _ hq)).1,λeq hm=>?_⟩) nd.2,Bs]
   .rfl
   .rw[AI]at hm;rcases AT.mp hm with hm|hm
    .exact(h q (AE _ hq)).2 eq hm
    .have e2:q.2.1=p.2.1:=by simpa using hm
     exact nd.1 (Ap.mpr ⟨q,hq,by unfold L8;rw[eq,e,e2]⟩)
  .rw[if_neg (λc=>e c.1),F4,if_neg (by simpa using e)];exact iJ g acc (λq hq=>h q (AE _ hq)) nd.2
theorem jN :b∈FD g↔∃w,(b.1,b.2.1,w)∈g/\b.2.2<w:=by
 constructor
 .intro h;obtain⟨p,hp,hb⟩:=Rh.mp h;obtain⟨e1,e2,e3⟩:=aR.mp hb;exact⟨p.2.2,by rw[e1,e2];exact hp,e3⟩
 .rintro⟨w,h,hw⟩;exact Rh.mpr ⟨_,h,aR.mpr ⟨rfl,rfl,hw⟩⟩
theorem pA:∀(g:List (Str×Str×Nat)),(g.map L8).Nodup->(FD g).Nodup
 |[],_=>LK
 |p::g,nd=>by
  rw[AQ,El]at nd;show(GP p.1 p.2.1 p.2.2++FD g).Nodup;rw[Fq];refine⟨yi ..,pA g nd.2,λa ha b hb e=>nd.1 ?_⟩;subst e;obtain⟨e1,e2,-⟩:=aR.mp ha;obtain⟨w,hw,-⟩:=jN.mp hb;exact Ap.mpr ⟨_,hw,by unfold L8;rw[e1,e2]⟩
theorem qP:∀(g:List (Str×Str×Nat)),(∀p∈g,p.2.2<=64)->(FD g).length<=64*g.length
 |[],_=>AJ _
 |p::g,h=>by
  have:=qP g λq hq=>h q (AE _ hq);have:=h p AF;show(GP p.1 p.2.1 p.2.2++FD g).length<=_;rw[As,ν,AO];ext
theorem Yn {g:List (Str×Str×Nat)}{s z:Str}{w:Nat}:(z,w)∈Rn g s↔(s,z,w)∈g:=by
 unfold Rn;constructor
 .intro h;obtain⟨p,hp,e⟩:=Ap.mp h;obtain⟨h1,h2⟩:=Bw.mp hp;have h2:=of_decide_eq_true h2;rw[<- e,<- h2];exact h1
 .exact λh=>Ap.mpr ⟨_,Bw.mpr ⟨h,decide_eq_true rfl⟩,rfl⟩
structure UY (g:List (Str×Str×Nat)):Prop where
 nd:(g.map L8).Nodup
 w:∀p∈g,K1 p.1/\1<=p.2.2/\p.2.2<=64
 l:g.length<=72
 e:∀s,(Rn g s).length<=12
theorem UY.en {g:List (Str×Str×Nat)}(h:UY g)(s:Str):Il (FD g) s=Rn g s:=by
 unfold Il;rw[iJ g [] (λp hp=>⟨(h.w p hp).2.1,λ_ hm=>by cases hm⟩) h.nd,FP]
theorem UY.kr {g:List (Str×Str×Nat)}(h:UY g):Op (Il (FD g)) (FD g):=by
 refine⟨pA g h.nd,λb hb=>?_,λs=>?_,?_⟩
 .obtain⟨w,hw,hl⟩:=jN.mp hb;exact⟨(h.w _ hw).1,w,by rw[h.en];exact Yn.mpr hw,hl⟩
 .rw[h.en];refine⟨?_,h.e s,λn hn=>(h.w _ ((Yn).mp hn)).2⟩;have nd:=h.nd;unfold Rn;unfold Ez at nd ⊢;rw[Cq,Cq];rw[Cq]at nd;refine(Kt _ nd).imp_of_mem λ{a b} ha hb hab e=>hab ?_;have e1:=of_decide_eq_true (Bw.mp ha).2;have e2:=of_decide_eq_true (Bw.mp hb).2;unfold L8;rw[e1,e2,e]
 .have:=qP g λp hp=>(h.w p hp).2.2;have:=h.l;ext
theorem Zox {ws:List (Str×Nat)}(h:ws.lookup x=some n):(x,n)∈ws:=by
 induction ws with
 |nil=>cases h
 |cons p ws ih=>
  rw[Bx]at h;split at h
  .next e=>cases h;rw[eq_of_beq e];exact AF
  .exact AE _ (ih h)
theorem yv (h:UY g)(hb:Q6 ms)(hl:ms.length=(FD g).length){w:Nat}(hz:(z,w)∈Il (FD g) s):Q6 (Lx (FD g) ms s z w):=λm hm=>by
 obtain⟨j,hj,rfl⟩:=Ap.mp hm;have hj:=CB.mp hj;rw[h.en]at hz;have mem:(s,z,j)∈FD g:=jN.mpr ⟨w,Yn.mp hz,hj⟩;have hi:(FD g).idxOf (s,z,j)<ms.length:=by rw[hl];exact Lj mem
 rw[Ck,Ag hi];exact hb _ (F3 hi)
theorem zq {g:List (Str×Str×Nat)}(h:UY g){ms:List Int}(hb:Q6 ms)(hl:ms.length=(FD g).length){bs es:List (Str×Int)}{t u:Tm}(gd:YN (Il (FD g)) bs es t u):Rj (FD g) (Il (FD g)) t u ms=true:=by
 have kn:∀s x,GW (Rr (FD g) ms (Il (FD g)) s x):=λs x=>by
  unfold Rr;cases e:(Il (FD g) s).lookup x with
  |none=>rfl
  |some w=>exact nS (yv h hb hl (Zox e))
 have bit:∀so t,Wl (Il (FD g)) so bs es t->gM (FD g) ms (Il (FD g)) so t=0\/gM (FD g) ms (Il (FD g)) so t=1:=λso t gk=>by
  have k:=(iD gk.w (gk.dt h.kr)).2 λx=>⟨kn "box" x,kn so x,kn "door" x⟩;unfold gM gA;rw[k,if_pos rfl];ext
 unfold Rj;refine decide_eq_true ?_;rcases bit "one" t gd.a with e|e
 .exact .inl e
 .rcases bit "other" u gd.b with f|f
  .exact .inr (.inl f)
  .exact .inr (.inr ⟨e,f⟩)
noncomputable def sg (s:Str)(ws:List (Str×Int))(ss:List Str):List (Str×Str×Nat):=ss.map λz=>(s,z,((ws.lookup z).getD 0).toNat)
noncomputable def Dz (ws ds:List (Str×Int))(g1 g2:Tm):List (Str×Str×Nat):=sg "box" ws (KR (Hj g1) (Hj g2))++sg "door" ds (KR (GR g1) (GR g2))++sg "box" ws (Lv (Hj g1) (Hj g2))++sg "door" ds (Lv (GR g1) (GR g2))++sg "one" ws (MW g1)++sg "other" ws (MW g2)
theorem rD (s)(ws:List (Str×Int)):∀ss,(∀z∈ss,∃w,ws.lookup z=some w/\1<=w/\w<=64)->EL s ws ss=(FD (sg s ws ss)).map bD
 |[],_=>rfl
 |z::ss,h=>by
  obtain⟨w,e,w1,w2⟩:=h z AF;have ih:=rD s ws ss λz hz=>h z (AE _ hz);show KL s z ((ws.lookup z).getD 0)++EL s ws ss=(GP s z ((ws.lookup z).getD 0).toNat++FD (sg s ws ss)).map bD;rw[AI,ih,e];congr 1
  unfold KL GP;rw[BA];refine Dq λi hi=>?_;have hi:=CB.mp hi;have hi:i<w.toNat:=hi;show D.tup [.str s,.str z,.int (w-1-i)]=D.tup [.str s,.str z,.int ((w.toNat-1-i:Nat):Int)];rw[show((w.toNat-1-i:Nat):Int)=w-1-i by ext]
theorem ux (a b):FD (a++b)=FD a++FD b:=O1
theorem oT :p∈sg s ws ss↔p.2.1∈ss/\p=(s,p.2.1,((ws.lookup p.2.1).getD 0).toNat):=by
 unfold sg;constructor
 .intro h;obtain⟨z,hz,rfl⟩:=Ap.mp h;exact⟨hz,rfl⟩
 .exact λh=>Ap.mpr ⟨_,h.1,h.2.symm⟩
theorem QS :x∈KR xs ys↔x∈xs/\x∈ys:=by
 unfold KR;rw[Gy,Em,decide_eq_true_eq]
theorem QU :x∈Lv xs ys↔(x∈ys/\x∉xs)\/(x∈xs/\x∉ys):=by
 unfold Lv;rw[Gy,Dp,Em,Em,decide_eq_true_eq,decide_eq_true_eq]
section
variable {wk:Wk}{g1 g2:Tm}
theorem rO (h:p∈Dz wk.ws wk.ds g1 g2):(p.1 = "box"/\p.2.1∈KR (Hj g1) (Hj g2)\/p.1 = "door"/\p.2.1∈KR (GR g1) (GR g2)\/p.1 = "box"/\p.2.1∈Lv (Hj g1) (Hj g2)\/p.1 = "door"/\p.2.1∈Lv (GR g1) (GR g2)\/p.1 = "one"/\p.2.1∈MW g1\/p.1 = "other"/\p.2.1∈MW g2)/\p.2.2=(((if p.1 = "door" then wk.ds else wk.ws).lookup p.2.1).getD 0).toNat:=by
 have nb:¬(Al "box" = "door"):=by nofun
 have no:¬(Al "one" = "door"):=by nofun
 have nt:¬(Al "other" = "door"):=by nofun
 simp only[Dz,Dp,oT]at h;rcases h with((((⟨h,e⟩|⟨h,e⟩)|⟨h,e⟩)|⟨h,e⟩)|⟨h,e⟩)|⟨h,e⟩
 .rw[e];exact⟨.inl ⟨rfl,h⟩,by rw[if_neg nb]⟩
 .rw[e];exact⟨.inr (.inl ⟨rfl,h⟩),by rw[if_pos rfl]⟩
 .rw[e];exact⟨.inr (.inr (.inl ⟨rfl,h⟩)),by rw[if_neg nb]⟩
 .rw[e];exact⟨.inr (.inr (.inr (.inl ⟨rfl,h⟩))),by rw[if_pos rfl]⟩
 .rw[e];exact⟨.inr (.inr (.inr (.inr (.inl ⟨rfl,h⟩)))),by rw[if_neg no]⟩
 .rw[e];exact⟨.inr (.inr (.inr (.inr (.inr ⟨rfl,h⟩)))),by rw[if_neg nt]⟩
theorem sZ (k1:Fg wk g1)(k2:Fg wk g2)(h:p∈Dz wk.ws wk.ds g1 g2):K1 p.1/\p.2.1∈(if p.1 = "door" then wk.ds else wk.ws).map (·.1)/\∃n,(if p.1 = "door" then wk.ds else wk.ws).lookup p.2.1=some n/\1<=n/\n<=64:=by
 have nb:¬(Al "box" = "door"):=by nofun
 have no:¬(Al "one" = "door"):=by nofun
 have nt:¬(Al "other" = "door"):=by nofun
 have B:∀{g x},Fg wk g->x∈Hj g->x∈wk.ws.map (·.1)/\∃n,wk.ws.lookup x=some n/\1<=n/\n<=64:=λk hx=>k.b _ (.inl (Gy.mp hx));have L:∀{g x},Fg wk g->x∈MW g->x∈wk.ws.map (·.1)/\∃n,wk.ws.lookup x=some n/\1<=n/\n<=64:=λk hx=>k.b _ (.inr (Gy.mp hx));have O:∀{g x},Fg wk g->x∈GR g->x∈wk.ds.map (·.1)/\∃n,wk.ds.lookup x=some n/\1<=n/\n<=64:=λk hx=>k.d _ (Gy.mp hx);obtain⟨h,-⟩:=rO h;rcases h with⟨e,h⟩|⟨e,h⟩|⟨e,h⟩|⟨e,h⟩|⟨e,h⟩|⟨e,h⟩<;>rw[e]
 .rw[if_neg nb];exact⟨.inl rfl,B k1 (QS.mp h).1⟩
 .rw[if_pos rfl];exact⟨.inr (.inl rfl),O k1 (QS.mp h).1⟩
 .rw[if_neg nb];exact⟨.inl rfl,(QU.mp h).elim (λc=>B k2 c.1) λc=>B k1 c.1⟩
 .rw[if_pos rfl];exact⟨.inr (.inl rfl),(QU.mp h).elim (λc=>O k2 c.1) λc=>O k1 c.1⟩
 .rw[if_neg no];exact⟨.inr (.inr (.inl rfl)),L k1 h⟩
 .rw[if_neg nt];exact⟨.inr (.inr (.inr rfl)),L k2 h⟩
theorem xl (k1:Fg wk g1)(k2:Fg wk g2):Sh wk.ws wk.ds g1 g2=(FD (Dz wk.ws wk.ds g1 g2)).map bD:=by
 have go:=rD;have B:∀{g x},Fg wk g->x∈Hj g->∃n,wk.ws.lookup x=some n/\1<=n/\n<=64:=λk hx=>(k.b _ (.inl (Gy.mp hx))).2;have L:∀{g x},Fg wk g->x∈MW g->∃n,wk.ws.lookup x=some n/\1<=n/\n<=64:=λk hx=>(k.b _ (.inr (Gy.mp hx))).2;have O:∀{g x},Fg wk g->x∈GR g->∃n,wk.ds.lookup x=some n/\1<=n/\n<=64:=λk hx=>(k.d _ (Gy.mp hx)).2;unfold Sh Dz;rw[go "box" wk.ws _ λz h=>B k1 (QS.mp h).1,go "door" wk.ds _ λz h=>O k1 (QS.mp h).1,go "box" wk.ws _ λz h=>(QU.mp h).elim (λc=>B k2 c.1) λc=>B k1 c.1,go "door" wk.ds _ λz h=>(QU.mp h).elim (λc=>O k2 c.1) λc=>O k1 c.1,go "one" wk.ws _ λz h=>L k1 h,go "other" wk.ws _ λz h=>L k2 h];simp only[ux,AI]
theorem uc (s)(ws)(ss:List Str):(sg s ws ss).map L8=ss.map λz=>(s,z):=by
 unfold sg;rw[BA];rfl
theorem VL (s:Str){ss:List Str}(h:ss.Nodup):(ss.map λz=>(s,z)).Nodup:=by
 unfold Ez at h ⊢;rw[Cq];exact h.imp λh e=>h (congrArg SE e)
theorem rP (ok:wk.Ok)(k1:Fg wk g1)(k2:Fg wk g2):UY (Dz wk.ws wk.ds g1 g2):=by
 have n1:¬(Al "box" = "door"):=by nofun
 have n2:¬(Al "box" = "one"):=by nofun
 have n3:¬(Al "box" = "other"):=by nofun
 have n4:¬(Al "door" = "one"):=by nofun
 have n5:¬(Al "door" = "other"):=by nofun
 have n6:¬(Al "one" = "other"):=by nofun
 have n7:¬(Al "door" = "box"):=λe=>n1 e.symm;have sn:∀xs ys,(KR xs ys).Nodup:=λxs ys=>Su _;have un:∀xs ys,(Lv xs ys).Nodup:=λxs ys=>Su _;have lw:(wk.ws.map (·.1)).length<=12:=by unfold Wk.ws;rw[Ab,Ab];exact ok.b.1
 have ld:(wk.ds.map (·.1)).length<=12:=by rw[Ab];have:=ok.d.1;ext
 have nd:((Dz wk.ws wk.ds g1 g2).map L8).Nodup:=by
  unfold Dz;simp only[AI,uc];have app:∀{a b:List (Str×Str)},a.Nodup->b.Nodup->(∀x∈a,x∉b)->(a++b).Nodup:=λha hb h=>BN.mpr ⟨ha,hb,λx hx y hy e=>h x hx (e ▸ hy)⟩
  have mm:∀{s:Str} {ss:List Str} {x:Str×Str},x∈ss.map (λz=>(s,z))↔x.1=s/\x.2∈ss:=λ{s ss x}=>by
   rw[Ap];exact⟨λ⟨z,hz,e⟩=>by rw[<- e];exact⟨rfl,hz⟩,λ⟨h1,h2⟩=>⟨x.2,h2,by rw[<- h1]⟩⟩
  refine app (app (app (app (app (VL _ (sn _ _)) (VL _ (sn _ _)) ?_) (VL _ (un _ _)) ?_) (VL _ (un _ _)) ?_) (VL _ (Su _)) ?_) (VL _ (Su _)) ?_
  .intro x h h';exact n1 ((mm.mp h).1.symm.trans (mm.mp h').1)
  .intro x h h';obtain⟨e,m⟩:=mm.mp h';rcases AT.mp h with h|h
   .obtain⟨-,m'⟩:=mm.mp h;obtain⟨a,b⟩:=QS.mp m';rcases QU.mp m with⟨-,c⟩|⟨-,c⟩
    .exact c a
    .exact c b
   .exact n1 (e.symm.trans (mm.mp h).1)
  .intro x h h';obtain⟨e,m⟩:=mm.mp h';rcases AT.mp h with h|h
   .rcases AT.mp h with h|h
    .exact n7 (e.symm.trans (mm.mp h).1)
    .obtain⟨-,m'⟩:=mm.mp h;obtain⟨a,b⟩:=QS.mp m';rcases QU.mp m with⟨-,c⟩|⟨-,c⟩
     .exact c a
     .exact c b
   .exact n7 (e.symm.trans (mm.mp h).1)
  .intro x h h';have e:=(mm.mp h').1;simp only[Dp,mm]at h;rcases h with((h|h)|h)|h
   .exact n2 (h.1.symm.trans e)
   .exact n4 (h.1.symm.trans e)
   .exact n2 (h.1.symm.trans e)
   .exact n4 (h.1.symm.trans e)
  .intro x h h';have e:=(mm.mp h').1;simp only[Dp,mm]at h;rcases h with(((h|h)|h)|h)|h
   .exact n3 (h.1.symm.trans e)
   .exact n5 (h.1.symm.trans e)
   .exact n3 (h.1.symm.trans e)
   .exact n5 (h.1.symm.trans e)
   .exact n6 (h.1.symm.trans e)
 have es:∀s,(Rn (Dz wk.ws wk.ds g1 g2) s).length<=12:=λs=>by
  have e1:((Rn (Dz wk.ws wk.ds g1 g2) s).map (·.1)).Nodup:=by
   unfold Rn;unfold Ez at nd ⊢;rw[Cq,Cq];rw[Cq]at nd;refine(Kt _ nd).imp_of_mem λ{a b} ha hb hab e=>hab ?_;have e1:=of_decide_eq_true (Bw.mp ha).2;have e2:=of_decide_eq_true (Bw.mp hb).2;unfold L8;rw[e1,e2,e]
  have e2:=UL _ ((if s = "door" then wk.ds else wk.ws).map (·.1)) e1 λx hx=>by
   obtain⟨n,hn,rfl⟩:=Ap.mp hx;exact(sZ k1 k2 ((Yn (s:=s) (z:=n.1) (w:=n.2)).mp hn)).2.1
  rw[Ab]at e2;refine A3 e2 ?_;split
  .exact ld
  .exact lw
 have sl:∀s ws ss,(sg s ws ss).length=ss.length:=λs ws ss=>Ab ..;refine⟨nd,λp hp=>?_,?_,es⟩
 .obtain⟨h1,-,n,e,n1,n2⟩:=sZ k1 k2 hp;rw[(rO hp).2,e];exact⟨h1,by show 1<=n.toNat;ext,by show n.toNat<=64;ext⟩
 .have mU:∀{xs ys zs:List Str},(∀x∈xs,x∈zs)->(∀x∈ys,x∈zs)->(Lv xs ys).length<=zs.length:=λh1 h2=>UL _ _ (un _ _) λx hx=>(QU.mp hx).elim (λc=>h2 x c.1) λc=>h1 x c.1;have mS:∀{xs ys zs:List Str},(∀x∈xs,x∈zs)->(KR xs ys).length<=zs.length:=λh1=>UL _ _ (sn _ _) λx hx=>h1 x (QS.mp hx).1;have b1:∀x∈Hj g1,x∈wk.ws.map (·.1):=λx hx=>(k1.b _ (.inl (Gy.mp hx))).1;have b2:∀x∈Hj g2,x∈wk.ws.map (·.1):=λx hx=>(k2.b _ (.inl (Gy.mp hx))).1;have d1:∀x∈GR g1,x∈wk.ds.map (·.1):=λx hx=>(k1.d _ (Gy.mp hx)).1;have d2:∀x∈GR g2,x∈wk.ds.map (·.1):=λx hx=>(k2.d _ (Gy.mp hx)).1;have c1:=mS (ys:=Hj g2) b1;have c2:=mS (ys:=GR g2) d1;have c3:=mU b1 b2;have c4:=mU d1 d2;have c5:=k1.l.2.1;have c6:=k2.l.2.1;unfold Dz;simp only[As,sl];ext
theorem sf (ok:wk.Ok)(o1:Ol wk.ws wk.ds g1 1)(o2:Ol wk.ws wk.ds g2 1):YN (Il (FD (Dz wk.ws wk.ds g1 g2))) wk.ws wk.ds g1 g2:=by
 have k1:=Fg.of ok o1;have k2:=Fg.of ok o2;have pc:=rP ok k1 k2
 have go:∀{s x:Str} {ws:List (Str×Int)} {ss:List Str} {n:Int},sg s ws ss ⊆ Dz wk.ws wk.ds g1 g2->x∈ss->ws.lookup x=some n->1<=n->∃w:Nat,ws.lookup x=some (w:Int)/\(x,w)∈Il (FD (Dz wk.ws wk.ds g1 g2)) s:=λ{s x ws ss n} hs hx e h1=>by
  refine⟨n.toNat,by rw[e,show((n.toNat:Nat):Int)=n by ext],?_⟩;rw[pc.en];exact Yn.mpr (hs (oT.mpr ⟨hx,by show(s,x,n.toNat)=_;rw[e];rfl⟩))
 have s1:sg "box" wk.ws (KR (Hj g1) (Hj g2)) ⊆ Dz wk.ws wk.ds g1 g2:=λp hp=>by simp[Dz,hp]
 have s2:sg "door" wk.ds (KR (GR g1) (GR g2)) ⊆ Dz wk.ws wk.ds g1 g2:=λp hp=>by simp[Dz,hp]
 have s3:sg "box" wk.ws (Lv (Hj g1) (Hj g2)) ⊆ Dz wk.ws wk.ds g1 g2:=λp hp=>by simp[Dz,hp]
 have s4:sg "door" wk.ds (Lv (GR g1) (GR g2)) ⊆ Dz wk.ws wk.ds g1 g2:=λp hp=>by simp[Dz,hp]
 have s5:sg "one" wk.ws (MW g1) ⊆ Dz wk.ws wk.ds g1 g2:=λp hp=>by simp[Dz,hp]
 have s6:sg "other" wk.ws (MW g2) ⊆ Dz wk.ws wk.ds g1 g2:=λp hp=>by simp[Dz,hp]
 have nB:∀{g:Tm} {x:Str},Tm.box x∈g.leaves->x∈g.names "box":=λh=>CO.mpr ⟨_,h,by simp[Tm.nameOf]⟩;have nL:∀{g:Tm} {x:Str},Tm.late x∈g.leaves->x∈g.names "late":=λh=>CO.mpr ⟨_,h,by simp[Tm.nameOf]⟩;have nD:∀{g:Tm} {x:Str},Tm.door x∈g.leaves->x∈g.names "door":=λh=>CO.mpr ⟨_,h,by simp[Tm.nameOf]⟩;refine⟨⟨o1.2,o1.1.2,λx h=>?_,λx h=>?_,λx h=>?_⟩,⟨o2.2,o2.1.2,λx h=>?_,λx h=>?_,λx h=>?_⟩⟩
 .obtain⟨-,n,e,h1,-⟩:=k1.b x (.inl (nB h));by_cases m:x∈Hj g2
  .exact go s1 (QS.mpr ⟨Gy.mpr (nB h),m⟩) e h1
  .exact go s3 (QU.mpr (.inr ⟨Gy.mpr (nB h),m⟩)) e h1
 .obtain⟨-,n,e,h1,-⟩:=k1.b x (.inr (nL h));exact go s5 (Gy.mpr (nL h)) e h1
 .obtain⟨-,n,e,h1,-⟩:=k1.d x (nD h);by_cases m:x∈GR g2
  .exact go s2 (QS.mpr ⟨Gy.mpr (nD h),m⟩) e h1
  .exact go s4 (QU.mpr (.inr ⟨Gy.mpr (nD h),m⟩)) e h1
 .obtain⟨-,n,e,h1,-⟩:=k2.b x (.inl (nB h));by_cases m:x∈Hj g1
  .exact go s1 (QS.mpr ⟨m,Gy.mpr (nB h)⟩) e h1
  .exact go s3 (QU.mpr (.inl ⟨Gy.mpr (nB h),m⟩)) e h1
 .obtain⟨-,n,e,h1,-⟩:=k2.b x (.inr (nL h));exact go s6 (Gy.mpr (nL h)) e h1
 .obtain⟨-,n,e,h1,-⟩:=k2.d x (nD h);by_cases m:x∈GR g1
  .exact go s2 (QS.mpr ⟨m,Gy.mpr (nD h)⟩) e h1
  .exact go s4 (QU.mpr (.inl ⟨Gy.mpr (nD h),m⟩)) e h1
end
noncomputable def Zq (ms:List Int):Option (List Int):=match ms.reverse.dropWhile (λm=>decide (m=1))with
 |[]=>none
 |_::r=>some (r.reverse++[1])
noncomputable def Ru (c:List Int×Int):D:=.tup [.tup (c.1.map D.int),.int c.2]
noncomputable def VE (N:List Int->Nat)(g g':List Int->Int)(bt:List Int->D):Nat->List Int->List (List Int×Int)->D
 |0,_,_=>.tup [.str "unsure"]
 |f+1,ms,cs=>
  let ks:=HJ (N ms) ms
  if g ks=1/\g' ks=1 then bt ks
  else if f=0 then .tup [.str "unsure"]
  else match Zq ks with
   |none=>.tup [.str "never",.lst ((cs++[(ks,if g ks=0 then 0 else 1)]).map Ru)]
   |some ms'=>VE N g g' bt f ms' (cs++[(ks,if g ks=0 then 0 else 1)])
noncomputable def Zw (row:List (Str×Str×Nat))(t u:Tm)(ms:List Int):Nat:=ZB (λk=>Rj row (Il row) t u (HJ k ms)) ms.length row.length
noncomputable def XM (row:List (Str×Str×Nat))(t u:Tm):D:=VE (Zw row t u) (λms=>gM row ms (Il row) "one" t) (λms=>gM row ms (Il row) "other" u) (λms=>OO row ms (Il row)) 65 [] []
def dm:DW:=λds M Q=>IZ ds λx y z=>Gh y λa=>Gh z λb=>∃(wk:Wk) (r1 r2:Str×Tm×List (Str×Tm)),x=wk.D/\wk.Ok/\wk.rs.find? (DP a)=some r1/\wk.rs.find? (DP b)=some r2/\∀M',(∀p o,M p=some o->M' p=some o)->Q (XM (FD (Dz wk.ws wk.ds r1.2.1 r2.2.1)) r1.2.1 r2.2.1) M'
attribute[local method_specs_simp ↓]dm
theorem oP {C:Ao}{M:Mp}{A:KA}{E:Str->List (Str×Nat)}{row:List (Str×Str×Nat)}{ms ks:List Int}{c:Ao}{v:MO}(kn:FX C M A E row ms ks)(h:∀x∈[A.o,A.q,A.m,A.d,A.b,A.e,A.f,A.g],x≠c):FX C (L3.put M c v) A E row ms ks:=by
 have hs:∀ s,A.at s≠c:=λs=>h _ (by
  have:=iF A s;simp only [BD,AS,or_false] at this ⊢;rcases this with e|e|e|e|e<;>simp [e])
 exact⟨by rw[Dy (h _ (by simp))];exact kn.o,by rw[Dy (h _ (by simp))];exact kn.q,by rw[Dy (h _ (by simp))];exact kn.m,by rw[Dy (h _ (by simp))];exact kn.d,λs' h'=>by rw[Dy (hs s')];exact kn.s s' h',kn.nd,kn.qm⟩
theorem FX.off {C:Ao}{M:Mp}{A:KA}{E:Str->List (Str×Nat)}{row:List (Str×Str×Nat)}{ms ks:List Int}{c:Ao}(kn:FX C M A E row ms ks)(hc:M c=none):∀x∈[A.o,A.q,A.m,A.d,A.b,A.e,A.f,A.g],x≠c:=λx hx=>by
 have k1:=kn.s "box" (.inl rfl);have k2:=kn.s "door" (.inr (.inl rfl));have k3:=kn.s "one" (.inr (.inr (.inl rfl)));have k4:=kn.s "other" (.inr (.inr (.inr rfl)));rw[UB]at k1;rw[UJ]at k2;rw[UC]at k3;rw[UO]at k4;simp only[BD,AS,or_false]at hx;rcases hx with rfl|rfl|rfl|rfl|rfl|rfl|rfl|rfl
 .exact Jt hc kn.o
 .exact Jt hc kn.q
 .exact Jt hc kn.m
 .exact Jt hc kn.d
 .exact Jt hc k1
 .exact Jt hc k2
 .exact Jt hc k3
 .exact Jt hc k4
theorem iW {ms:List Int}(h:Q6 ms):Lr ms:=λm hm=>(h m hm).elim .inl λe=>.inr (.inl e)
theorem qZ {n:Nat}{ms:List Int}(h:Q6 ms)(hn:ms.length<=n):Q6 (HJ n ms):=λm hm=>by
 rw[ZP hn]at hm;rcases AT.mp hm with e|e
 .exact h m e
 .exact .inl (EV e)
theorem rK:∀{r:List Int},Q6 r->∃k,(r=Ax k 1/\r.dropWhile (λm=>decide (m=1))=[])\/∃t,r=Ax k 1++0::t/\r.dropWhile (λm=>decide (m=1))=0::t
 |[],_=>⟨0,.inl ⟨rfl,rfl⟩⟩
 |x::r,h=>by
  rcases h x AF with rfl|rfl
  .exact⟨0,.inr ⟨r,rfl,rfl⟩⟩
  .obtain⟨k,c⟩:=rK λm hm=>h m (AE _ hm);rcases c with⟨e,d⟩|⟨t,e,d⟩
   .exact⟨k+1,.inl ⟨by rw[C0,<- e],by rw[O2];exact d⟩⟩
   .exact⟨k+1,.inr ⟨t,by rw[C0,Ei,<- e],by rw[O2];exact d⟩⟩
theorem z9 {ms:List Int}(h:Q6 ms):∃a k,ms=a++Ax k 1/\((a=[]/\Zq ms=none)\/∃b,a=b++[0]/\Zq ms=some (b++[1])):=by
 obtain⟨k,c⟩:=rK λm hm=>h m (Rc.mp hm);unfold Zq;rcases c with⟨e,d⟩|⟨t,e,d⟩
 .exact⟨[],k,by rw[<- Oy ms,e,Ni];rfl,.inl ⟨rfl,by rw[d]⟩⟩
 .exact⟨t.reverse++[0],k,by rw[<- Oy ms,e,List.reverse_append,Ni,GC],.inr ⟨_,rfl,by rw[d]⟩⟩
theorem jp (cs:List (List Int×Int))(ks:List Int)(v:Int):Fc Ru cs++[D.tup [D.tup (Fc D.int ks),D.int v]]=Fc Ru (cs++[(ks,v)]):=by rw[AI];rfl
section
theorem Zif:Od T T.x62 24 dm:=by
 refine Co.p3 T.x62.d.F ["works", "one", "other", "guards", "known", "cubes", "held"] λx y z M Q hr nN h1=>?_;obtain⟨a,rfl,h2⟩:=Ea h1;symm;obtain⟨b,e1',wk,r1,r2,e2',ok,e1,e2,q⟩:=Ea h2;cutsat;subst e1' e2';have o1:=(aK ok e1).2.g;have o2:=(aK ok e2).2.g;have ea:=xl (Fg.of ok o1) (Fg.of ok o2);have pc:=rP ok (Fg.of ok o1) (Fg.of ok o2);have gd:=sf ok o1 o2;have kr:=pc.kr;have hL:∀ms,Q6 ms->ms.length<=(FD (Dz wk.ws wk.ds r1.2.1 r2.2.1)).length->Rj (FD (Dz wk.ws wk.ds r1.2.1 r2.2.1)) (Il (FD (Dz wk.ws wk.ds r1.2.1 r2.2.1))) r1.2.1 r2.2.1 (HJ (FD (Dz wk.ws wk.ds r1.2.1 r2.2.1)).length ms)=true:=λms hb hl=>zq pc (qZ hb hl) (Ym ..) gd;clear pc;generalize hrow:FD (Dz wk.ws wk.ds r1.2.1 r2.2.1)=row at q ea gd kr hL;unfold XM at q;have en:∀s,K1 s->Il row s=Il row s:=λ_ _=>rfl;obtain⟨E,hE⟩:∃E,Il row=E:=⟨_,rfl⟩;have hN:∀ms,Zw row r1.2.1 r2.2.1 ms=ZB (λk=>Rj row E r1.2.1 r2.2.1 (HJ k ms)) ms.length row.length:=λms=>by rw[<- hE];rfl
 generalize Zw row r1.2.1 r2.2.1=N at q hN;rw[hE]at gd kr hL q;have en:∀s,K1 s->E s=Il row s:=λ_ _=>by rw[hE]
 clear hE;refine⟨_,(qC (CC 3 nN (CG (qA (Bg BE (Ay T.x43.d (UW T) nofun (qA (qv 0) (qA (qv 1) qN))) Ak) (qA (Bg BE (Ay T.x43.d (UW T) nofun (qA (qv 0) (qA (qv 2) qN))) Ak) qN)))) (qC (CC 4 nN (XB T.mk_Known T.x50.d (ZeR T) nofun T.mgc_Known (qA (Ay T.x46.d (Zik T) nofun (qA (qv 0) (qA (qv 1) (qA (qv 2) qN)))) qN))) (qC (CC 5 nN (JG qN)) (qO (UQ AK (GL Um) (qC (Fb (Fk T.cl_Known T.x54.d (Zhj T) nofun (qv 4) (qA (qv 3) qN))) (qC (CC 6 nN (Fk T.cl_Known T.x58.d (fu T) nofun (qv 4) (qA (qv 3) qN))) (qC (ED (AY (hW (JK hr)) (qv 6) (CG (qA Ak (qA Ak qN)))) (qO (CH (Kx T.cl_Known T.x60.d (ZdL T) nofun (qv 4)))) qE) (qC (Fb (Kf AN Bl Bk QZ (qv 5) (qA (CG (qA (Ee Yg T.B.tuple IB (qA (G6 T.cl_Known T.na_Known_marks (qv 4)) qN)) (qA (fU (qv 6) (qA Ak qN)) qN))) qN))) (qC (ED (AY Lq (Cv Ma T.B.len CK (qA (qv 5) qN)) (Ir T.m_MOST_CUBES)) (qO (CH (CG (qA BX qN)))) qE) (qO (ED (Lw (GL (Kx T.cl_Known T.x57.d (Zio T) nofun (qv 4)))) (qO (CH (CG (qA BX (qA (Ln (qv 5)) qN))))) qE)))))))))))),?_⟩;clear h1 h2;right;refine⟨wk,r1,rfl,e1,?_⟩;unfold L0;grind;refine⟨wk,r2,rfl,e2,?_⟩;grind;refine⟨wk,r1,r2,rfl,ok,e1,e2,λp hp o ho=>?_⟩;rw[ea]at ho ⊢;refine⟨put M p (.lst (row.map bD)),o,p,E,row,rfl,rfl,rfl,ho,Dc,kr,en,λM1 A ao aq kn fz fr=>?_⟩;subst ao;generalize r1.2.1=t at gd hL q hN ⊢;generalize r2.2.1=u at gd hL q hN ⊢;grind;intro c hc;have off:=kn.off hc
 have kp:∀x u,M x=some u->x≠c/\x∉[A.m,A.b,A.e,A.f,A.g]/\M1 x=some u:=λx v h=>by
  have h0:put M p (.lst (row.map bD)) x=some v:=by rw[Dy (Jt hp h)];exact h
  have h1:=fr x v h0;exact⟨Jt hc h1,λhx=>(nomatch (fz x hx).symm.trans h0),h1⟩
 have kc:c∉[A.m,A.b,A.e,A.f,A.g]:=λhx=>off c (by simp only[BD,AS,or_false]at hx ⊢;rcases hx with e | e | e | e | e<;>simp[e]) rfl;generalize hG:D.tup [t.D,u.D]=G;refine⟨λk τ M'=>∃ms cs x,((k+cs.length=64)/\Q6 ms/\ms.length<=row.length/\FX T.C_Known M' A E row ms ms/\M' c=some (.lst (cs.map Ru))/\(∀x u,M x=some u->M' x=some u)/\∀M',(∀p o,M p=some o->M' p=some o)->Q (VE N (λms=>gM row ms E "one" t) (λms=>gM row ms E "other" u) (λms=>OO row ms E) (k+1) ms cs) M')/\τ=[some wk.D,some (.str a),some (.str b),some G,some (.ref A.o),some (.ref c),x],⟨64,[],[],_,⟨rfl,λm hm=>(nomatch hm),Ek _,oP kn off,Dc,λx v h=>by rw[Dy (kp x v h).1];exact(kp x v h).2.2,q⟩,rfl⟩,?_⟩;intro k τ M' hI';refine Aq λG' kk'=>?_;obtain⟨ms,cs,x,⟨hk,hb,hl,kn',hcs,hs,hq⟩,e1'⟩:=hI';refine kk' ?_;clear kk';subst e1';grind;rw[kn'.o,Hv];subst hG;refine⟨Mb (by nofun) (by nofun) (by nofun),A,E,row,ms,t,u,wk.ws,wk.ds,λk=>Rj row E t u (HJ k ms),rfl,rfl,kr,kn',iW hb,gd,hl,λ_=>rfl,hL ms hb hl,λM2 N0 eN n1 n2 n3 k2 o2=>?_⟩;rw[<- hN]at eN;subst eN;have b2:=qZ (n:=N ms) hb n1;grind;rw[k2.o,Hv];refine⟨Mb (by nofun) (by nofun) (by nofun),A,E,row,_,t,u,wk.ws,wk.ds,rfl,rfl,kr,k2,iW b2,gd,?_⟩;grind;have hc2:M2 c=some (.lst (cs.map Ru)):=by rw[o2 c kc];exact hcs
 have hs2:∀x u,M x=some u->M2 x=some u:=λx v h=>by rw[o2 x (kp x v h).2.1];exact hs x v h
 rw[VE]at hq;generalize hks:HJ (N ms) ms=ks at k2 b2 hq ⊢;have lk:ks.length<=row.length:=by rw[<- hks,Ym];exact n2
 have j0:¬(gM row ks E "one" t=1/\gM row ks E "other" u=1)->¬gM row ks E "one" t=0->gM row ks E "other" u=0:=λc1 c2=>by
  have z:Rj row E t u (HJ (N ms) ms)=true:=n3;rw[hks]at z;rcases of_decide_eq_true z with z|z|z
  .exact absurd z c2
  .exact z
  .exact absurd z c1
 refine CD (λc1=>?_) λc1=>?_
 .rw[if_pos c1]at hq;refine⟨Mb (by nofun) (by nofun) (by nofun),A,E,row,ks,rfl,kr,k2,Dn.of (hq _ λx v h=>?_)⟩;have nx:=(kp x v h).2.1;simp only[BD,AS,or_false,not_or]at nx;rw[I8 nx.2.2.2.2,I8 nx.2.2.2.1,I8 nx.2.2.1,I8 nx.2.1];exact hs2 x v h
 .rw[if_neg c1]at hq;refine⟨IF hc2,?_⟩;rw[QY,BW,Rk k2.m,BW];obtain⟨a2,kk,ek,tr⟩:=z9 b2;have lc:(cs.map Ru).length<An:=BS (by rw[Ab];ext)
  obtain⟨v0,hv,ev⟩:∃v:Int,(v=0/\gM row ks E "one" t=0\/v=1/\gM row ks E "one" t≠0/\gM row ks E "other" u=0)/\(if gM row ks E "one" t=0 then(0:Int)else 1)=v:=by
   by_cases z:gM row ks E "one" t=0
   .exact⟨0,.inl ⟨rfl,z⟩,if_pos z⟩
   .exact⟨1,.inr ⟨rfl,z,j0 c1 z⟩,if_neg z⟩
  rw[ev]at hq;refine⟨_,_,rfl,v0,hv,?_⟩;rw[VU hc2,jp];refine⟨lc,?_⟩;have k3:=oP (v:=.lst (Fc Ru (cs++[(ks,v0)]))) k2 off;have c3:put M2 c (.lst (Fc Ru (cs++[(ks,v0)]))) c=_:=Dc;have s3:∀x u,M x=some u->put M2 c (.lst (Fc Ru (cs++[(ks,v0)]))) x=some u:=λx v h=>by rw[Dy (kp x v h).1];exact hs2 x v h
  generalize put M2 c (.lst (Fc Ru (cs++[(ks,v0)])))=M3 at k3 c3 s3 ⊢;rw[Rk c3,BW,Ab,As];refine CD (λd=>?_) λd=>?_
  .rw[if_pos (by change(64:Int)<((cs.length+1:Nat):Int)at d;ext)]at hq;exact Dn.of (hq M3 s3)
  .have k0:¬k=0:=by change¬(64:Int)<((cs.length+1:Nat):Int)at d;ext
   rw[if_neg k0]at hq;rw[k3.o,Hv];rw[ek]at k3;have lk2:=lk;have mk2:=b2;rw[ek]at lk2 mk2;rw[As]at lk2;refine⟨Mb (by nofun) (by nofun) (by nofun),A,E,row,a2,kk,rfl,kr,k3,iW λm hm=>mk2 m (CN _ hm),lk2,?_⟩;rcases tr with⟨ta,tt⟩|⟨b1,ta,tt⟩
   .rw[tt]at hq;refine .inl ⟨ta,λM4 k4 o4=>?_⟩;rw[o4 c kc,c3];refine Dn.of (hq _ λx v h=>?_);rw[I8 (kp x v h).1,o4 x (kp x v h).2.1];exact s3 x v h
   .rw[tt]at hq;refine .inr ⟨b1,ta,λM4 k4 o4=>⟨k-1,by ext,b1++[1],cs++[(ks,v0)],_,⟨by rw[As];change k-1+(cs.length+1)=64;ext,λm hm=>?_,?_,k4,by rw[o4 c kc];exact c3,λx v h=>by rw[o4 x (kp x v h).2.1];exact s3 x v h,?_⟩,rfl⟩⟩
    .rcases AT.mp hm with hm|hm
     .exact mk2 m (CN _ (by rw[ta];exact CN _ hm))
     .exact .inr (AL.mp hm)
    .rw[ta,As]at lk2;rw[As];change b1.length+1+_<=_ at lk2;change b1.length+1<=_;ext
    .rw[show k-1+1=k by ext];exact hq
end
def zZ:DW:=λds M Q=>FI ds λx y=>Gh y λz=>∃(wk:Wk) (r:Str×Tm×List (Str×Tm)),x=wk.D/\wk.rs.find? (DP z)=some r/\r.2.2.length<=6/\∀p,M p=none->Q (.ref p) (put M p (.lst ((Qr (r.2.2.map (·.1))).map D.str)))
theorem wJ:Od T T.x63 2 zZ:=by
 refine Co.p2 T.x63.d.F ["works", "name"] λx y M Q hr nN h1=>?_;symm;obtain⟨z,e1',wk,r,e2',hf,hl,q⟩:=Ea h1;cutsat;subst e1' e2';refine⟨_,(qO (CH (Cv ο T.B.sorted RE (qA (Gq (caps:=[]) ⟨rfl,by rfl,by rfl,by rfl,rfl,by rfl,by nofun⟩ rfl (QV (Bg BE (Ay T.x43.d (UW T) nofun (qA (qv 0) (qA (qv 1) qN))) Ak)) (λ_ _ _ _ _ _=>(Bg BE (qv 0) Ak))) qN)))),?_⟩;right;refine⟨wk,r,rfl,hf,?_⟩;simp only[L0];grind;refine ET.of (g:=Kv) (f:=λw=>.str w.1) (GK (by ext)) trivial (λw hw R q=>?_) ?_
 .simp only[Kv];walk_at "cap";exact q
 rw[show r.2.2.map (λw=>D.str w.1)=(r.2.2.map (·.1)).map D.str by rw[BA];rfl,Pf,BW];exact⟨by rw[Ab];ext,λp hp=>Dn.of (q p hp)⟩
theorem Zno {xs ys:List Str}(h:∀x,x∈xs↔x∈ys):IH xs=IH ys:=
 G4 (λa b _ _ p q=>aN p q) (Do US We _) (Do US We _) ((Lu (Su xs) (Su ys)).mpr λa=>by rw[Gy,Gy];exact h a)
theorem iK {xs zs:List Str}(h:∀x∈xs,x∈zs):(fm xs).length<=zs.length:=by
 rw[<- jJ];exact UL _ _ (Su xs) λx hx=>h x (Gy.mp hx)
noncomputable def C7 (f:Str)(g:Tm)(ts:List Tm):List Str:=g.names f++(ts.map (Tm.names f)).flatten
structure On (zs:List Str)(g:Tm)(ts:List Tm):Prop where
 z:zs.length<=20
 l:ts.length<=6
 t:∀t∈g::ts,(t.deep<=12/\t.parts<=100)/\∀f,∀n∈t.names f,n∈zs
theorem On.few {zs:List Str}{g t:Tm}{ts:List Tm}(h:On zs g ts)(ht:t∈g::ts):∀f,HM f->(fm (t.names f)).length<64:=λf _=>by
 have:=iK ((h.t t ht).2 f);have:=h.z;ext
theorem z7 {M M':Mp}{p:Ao}{o:MO}(s:Sub M M'):Sub (put M p o) (put M' p o):=λb u e=>by
 by_cases h:b=p
 .subst h;rw[Dc]at e ⊢;exact e
 .rw[Dy h]at e ⊢;exact s b u e
def al:DW:=λds M Q=>FI ds λx y=>∃(r:Str×Tm×List (Str×Tm)) (k:Int) (f:Str) (zs:List Str),x=L0 r/\y=.int k/\((k=0/\f = "box")\/(k=1/\f = "late"))/\On zs r.2.1 (r.2.2.map (·.2))/\∀p,M p=none->Q (.ref p) (put M p (.lst ((IH (C7 f r.2.1 (r.2.2.map (·.2)))).map D.str)))
theorem zL:Od T T.x66 17 al:=by
 refine Co.p2 T.x66.d.F ["rule", "number", "names", "write"] λx y M Q hr nN h=>?_;symm;obtain⟨r,k,f,zs,e1',e2',hk,ok,q⟩:=h;cutsat;subst e1' e2';refine⟨_,(EW (CC 2 nN (Bg BE (Ay T.x17.d (aP T) nofun (qA (Bg BE (qv 0) Ak) qN)) (qv 1))) (EW (KZ AK rfl (QV (Bg BE (qv 0) Ak)) (Nb (i:=3) nN rfl (B4 rfl)) (qO (Fb (Kf AN Cz Cy Sr (qv 2) (qA (Bg BE (Ay T.x17.d (aP T) nofun (qA (Bg BE (qv 3) Ak) qN)) (qv 1)) qN))))) (qO (CH (mQ rfl T.B.sorted T.B.set (qv 2)))))),?_⟩
 (try simp only[N6,N4,N5])
 have two:∀t,t∈r.2.1::r.2.2.map (·.2)->∀(M0:Mp) (R:D->Mp->Prop),(∀M1 p,Sub M0 M1->M0 p=none->M1 p=some (.lst ((IH (t.names f)).map D.str))->R (.ref p) M1)->(t.deep<=12/\t.parts<=1000/\(∀f,HM f->(fm (t.names f)).length<64)/\∀p0 p1 p2,M0 p0=none->M0 p1=none->M0 p2=none->¬p1=p0->¬p2=p0->¬p2=p1->Cp (FK [D.ref p0,.ref p1,.ref p2] k) λv=>R v (put (put (put M0 p0 (MG "box" t)) p1 (MG "late" t)) p2 (MG "door" t))):=λt ht M0 R hR=>by
  refine⟨(ok.t t ht).1.1,A3 (ok.t t ht).1.2 (by decide),ok.few ht,λp0 p1 p2 m0 m1 m2 n1 n2 n3=>?_⟩;have sb:Sub M0 (put (put (put M0 p0 (MG "box" t)) p1 (MG "late" t)) p2 (MG "door" t)):=Sub.puts (Sub.puts (Sub.put m0) m1) m2;rcases hk with⟨rfl,rfl⟩|⟨rfl,rfl⟩
  .exact hR _ p0 sb m0 (by rw[Dy (Bm n2),Dy (Bm n1),Dc];rfl)
  .exact hR _ p1 sb m1 (by rw[Dy (Bm n3),Dc];rfl)
 refine⟨λτ M2=>∃p,(Sub M M2/\M p=none/\M2 p=some (.lst ((IH (r.2.1.names f)).map D.str)))/\τ=[some (L0 r),some (.int k),some (.ref p),none],?_,?_⟩
 .simp only[L0];grind;exact two r.2.1 AF M (λv M1=>∃p,(Sub M M1/\M p=none/\M1 p=some (.lst ((IH (r.2.1.names f)).map D.str)))/\[some (D.tup [.str r.1,r.2.1.D,.tup (r.2.2.map Kv)]),some (.int k),some v,none]=[some (D.tup [.str r.1,r.2.1.D,.tup (r.2.2.map Kv)]),some (.int k),some (.ref p),none]) λM1 p h1 h2 h3=>⟨p,⟨h1,h2,h3⟩,rfl⟩
 intro τ M2 hI';symm;obtain⟨p,⟨sb,hp,hM⟩,e1'⟩:=hI';cutsat;subst e1';have hz:=ok.z;have hl:=ok.l;rw[Ab]at hl
 have srl:∀t∈r.2.1::r.2.2.map (·.2),(IH (t.names f)).length<=20:=λt ht=>by
  rw[jJ];exact A3 (iK ((ok.t t ht).2 f)) hz
 refine⟨λτ M3=>∃(l:List Str) (v:Option D),(Sub M M3/\M3 p=some (.lst (l.map D.str))/\l.length<=140/\∀n,n∈l↔n∈C7 f r.2.1 (r.2.2.map (·.2)))/\τ=[some (L0 r),some (.int k),some (.ref p),v],?_,?_⟩
 .simp only[L0];grind;refine⟨λi τ M3=>∃(l:List Str) (v:Option D),(Sub M M3/\M3 p=some (.lst (l.map D.str))/\l.length<=20+20*i/\∀n,n∈l↔n∈C7 f r.2.1 ((r.2.2.take i).map (·.2)))/\τ=[some (L0 r),some (.int k),some (.ref p),v],⟨IH (r.2.1.names f),none,⟨sb,hM,srl _ AF,λn=>by rw[Gy];simp[C7]⟩,rfl⟩,λ_ _ _ _=>trivial,?_,?_⟩
  .intro i d τ M3 hd hI';symm;obtain⟨l,v,⟨sb,hM,hll,hmem⟩,e1'⟩:=hI';cutsat;subst e1';obtain⟨w0,hw0,rfl⟩:=Mc hd;obtain⟨hi,_⟩:=Ai.mp hw0;have hin:w0.2∈r.2.1::r.2.2.map (·.2):=AE _ (GZ (Aw hw0));have et:r.2.2.take (i+1)=r.2.2.take i++[w0]:=by rw[Ba,hw0];rfl
   simp only[Kv];grind;refine⟨IF hM,two w0.2 hin M3 (λv M1=>Gf (.ref p) [v] M1 λ_ M1=>∃(l:List Str) (v:Option D),(Sub M M1/\M1 p=some (.lst (l.map D.str))/\l.length<=20+20*(i+1)/\∀n,n∈l↔n∈C7 f r.2.1 ((r.2.2.take (i+1)).map (·.2)))/\[some (L0 r),some (.int k),some (.ref p),some (D.tup [.str w0.1,w0.2.D])]=[some (L0 r),some (.int k),some (.ref p),v]) λM1 p1 h1 h2 h3=>?_⟩;have h4:=srl _ hin;rw[oI (h1 p _ hM) (OM h3)];refine⟨GK (by rw[Ab,Ab];ext),l++IH (w0.2.names f),_,⟨Sub.puts (sb.trans h1) hp,by rw[Dc,AI],by rw[As];ext,λn=>?_⟩,rfl⟩;rw[Dp,hmem,Gy,et];simp[C7,or_assoc]
  .intro τ M3 hI';symm;obtain⟨l,v,⟨h1,h2,h3,h4⟩,e1'⟩:=hI';cutsat;subst e1';rw[Ab]at h3 h4;rw[Be]at h4;exact⟨l,v,⟨h1,h2,by ext,h4⟩,rfl⟩
 intro τ M3 hI';symm;obtain⟨l,v,⟨sb,hM,hll,hmem⟩,e1'⟩:=hI';cutsat;subst e1';grind;rw[OM hM,BW,Pf,BW]
 have few:=A3 (iK λx hx=>by
  have:=(hmem x).mp hx;unfold C7 at this;rcases AT.mp this with h|h
  .exact(ok.t _ AF).2 f x h
  .obtain ⟨ns,hns,hx⟩:=Rf.mp h;obtain ⟨t,ht,rfl⟩:=Ap.mp hns;exact (ok.t t (AE _ ht)).2 f x hx) hz
 refine⟨by have:1000<Bi:=(by decide);ext,by ext,λa ha=>?_⟩
 have haM:M a=none:=by
  cases e:M a with
  |none=>rfl
  |some o=>rw[sb a o e]at ha;cases ha
 rw[Zno hmem];exact QQ (z7 sb) (q a haM)
attribute[local method_specs_simp ↓]al
def bf:DW:=λds M Q=>FI ds λx y=>Gh y λz=>∃(wk:Wk) (r:Str×Tm×List (Str×Tm)) (zs:List Str),x=wk.D/\wk.rs.find? (DP z)=some r/\On zs r.2.1 (r.2.2.map (·.2))/\∀p,M p=none->Q (.ref p) (put M p (.lst ((IH (C7 "box" r.2.1 (r.2.2.map (·.2)))).map D.str)))
theorem Zie:Od T T.x64 18 bf:=by
 refine Co.p2 T.x64.d.F ["works", "name"] λx y M Q hr nN h1=>?_;symm;obtain⟨z,e1',wk,r,zs,e2',hf,ok,q⟩:=Ea h1;cutsat;subst e1' e2';refine⟨_,(qO (CH (Ay T.x66.d (zL T) nofun (qA (Ay T.x43.d (UW T) nofun (qA (qv 0) (qA (qv 1) qN))) (qA Ak qN))))),?_⟩;right;exact⟨wk,r,rfl,hf,r,0, "box",zs,rfl,rfl,.inl ⟨rfl,rfl⟩,ok,λp hp=>Dn.of (q p hp)⟩
def zJ:DW:=λds M Q=>FI ds λx y=>Gh y λz=>∃(wk:Wk) (r:Str×Tm×List (Str×Tm)) (zs:List Str),x=wk.D/\wk.rs.find? (DP z)=some r/\On zs r.2.1 (r.2.2.map (·.2))/\∀p,M p=none->Q (.ref p) (put M p (.lst ((IH (C7 "late" r.2.1 (r.2.2.map (·.2)))).map D.str)))
theorem Zjh:Od T T.x65 18 zJ:=by
 refine Co.p2 T.x65.d.F ["works", "name"] λx y M Q hr nN h1=>?_;symm;obtain⟨z,e1',wk,r,zs,e2',hf,ok,q⟩:=Ea h1;cutsat;subst e1' e2';refine⟨_,(qO (CH (Ay T.x66.d (zL T) nofun (qA (Ay T.x43.d (UW T) nofun (qA (qv 0) (qA (qv 1) qN))) (qA Ak qN))))),?_⟩;right;exact⟨wk,r,rfl,hf,r,1, "late",zs,rfl,rfl,.inr ⟨rfl,rfl⟩,ok,λp hp=>Dn.of (q p hp)⟩
theorem rE (xs:List Str):(Qr xs).length=xs.length:=(D5 _ _).length_eq
theorem gB (h:M p=some (.lst xs)):Bh M (.ref p)=some xs:=by simp[Bh,h]
noncomputable def Si:D->Str
 |.tup (.str s::_)=>s
 |_=>""
theorem sS (N:List Int->Nat)(g g':List Int->Int)(row:List (Str×Str×Nat))(E:Str->List (Str×Nat)):∀(f:Nat) (ms:List Int) (cs:List (List Int×Int)),∃s l,VE N g g' (λms=>OO row ms E) f ms cs=.tup (.str s::l)
 |0,_,_=>⟨_,_,rfl⟩
 |f+1,ms,cs=>by
  rw[VE];split
  .exact⟨_,_,rfl⟩
  .split
   .exact⟨_,_,rfl⟩
   .split
    .exact⟨_,_,rfl⟩
    .exact sS N g g' row E f _ _
noncomputable def KC (f:Str)(r1 r2:Str×Tm×List (Str×Tm)):List Str:=KR (Qr (r1.2.2.map (·.1))) (IH (C7 f r2.2.1 (r2.2.2.map (·.2))))
noncomputable def X3 (wk:Wk)(r1 r2:Str×Tm×List (Str×Tm)):Bool:=!(KC "box" r1 r2).isEmpty && !decide (Si (XM (FD (Dz wk.ws wk.ds r1.2.1 r2.2.1)) r1.2.1 r2.2.1) = "never")
theorem Wk.Ok.rd {wk:Wk}(ok:wk.Ok){r:Str×Tm×List (Str×Tm)}(h:r∈wk.rs):On (wk.ws.map (·.1)++wk.ds.map (·.1)) r.2.1 (r.2.2.map (·.2)):=by
 have rk:=(ok.r.2 r h).2
 have go:∀{t:Tm} {n:Int},Ol wk.ws wk.ds t n->(t.deep<=12/\t.parts<=100)/\∀f,∀n∈t.names f,n∈wk.ws.map (·.1)++wk.ds.map (·.1):=λ{t n} h=>by
  refine⟨⟨h.1.2,h.1.1⟩,λf x hx=>?_⟩;obtain⟨l,hl,e⟩:=CO.mp hx;obtain⟨a,ha⟩:=h.2.leaf l hl;cases l with
  |box y=>
   have e:(if f = "box" then some y else none)=some x:=e;split at e
   .cases e;cases ha with
    |box c=>exact CN _ (V8 c)
    |over _ ho=>exact absurd rfl (Tm.over_len ho).2
   .cases e
  |late y=>
   have e:(if f = "late" then some y else none)=some x:=e;split at e
   .cases e;cases ha with
    |late c=>exact CN _ (V8 c)
    |over _ ho=>exact absurd rfl (Tm.over_len ho).2
   .cases e
  |door y=>
   have e:(if f = "door" then some y else none)=some x:=e;split at e
   .cases e;cases ha with
    |door c=>exact AU _ (V8 c)
    |over _ ho=>exact absurd rfl (Tm.over_len ho).2
   .cases e
  |_=>cases e
 refine⟨?_,by rw[Ab];exact rk.l,λt ht=>?_⟩
 .unfold Wk.ws;have:=ok.b.1;have:=ok.d.1;rw[As,Ab,Ab,Ab];ext
 .rcases A5.mp ht with rfl|ht
  .exact go rk.g
  .obtain⟨w,hw,rfl⟩:=Ap.mp ht;obtain⟨n,-,tk⟩:=rk.w w hw;exact go tk
theorem qH {wk:Wk}(ok:wk.Ok)(h:r∈wk.rs)(f:Str)(hf:f = "box"\/f = "late"):(IH (C7 f r.2.1 (r.2.2.map (·.2)))).length<=12:=by
 have lw:(wk.ws.map (·.1)).length<=12:=by unfold Wk.ws;rw[Ab,Ab];exact ok.b.1
 refine A3 (UL _ (wk.ws.map (·.1)) (Su _) λx hx=>?_) lw;have rk:=(ok.r.2 r h).2
 have go:∀{t:Tm} {n:Int},Ol wk.ws wk.ds t n->x∈t.names f->x∈wk.ws.map (·.1):=λ{t n} h hx=>by
  obtain⟨m,e⟩:=uB h.2 (x:=x) (by rcases hf with rfl|rfl<;>simp[hx]);exact V8 e
 have hx:=Gy.mp hx;unfold C7 at hx;rcases AT.mp hx with hx|hx
 .exact go rk.g hx
 .obtain⟨ns,hns,hx⟩:=Rf.mp hx;obtain⟨t,ht,rfl⟩:=Ap.mp hns;obtain⟨w,hw,rfl⟩:=Ap.mp ht;obtain⟨n,-,tk⟩:=rk.w w hw;exact go tk hx
def vB:DW:=λds M Q=>IZ ds λx y z=>Gh y λa=>Gh z λb=>∃(wk:Wk) (r1 r2:Str×Tm×List (Str×Tm)),x=wk.D/\wk.Ok/\wk.rs.find? (DP a)=some r1/\wk.rs.find? (DP b)=some r2/\∀v,(X3 wk r1 r2=false/\v=.non\/X3 wk r1 r2=true/\∃l,v=.tup l)->Q v M
attribute[local method_specs_simp ↓]zZ bf vB
theorem σ:Od T T.x67 26 vB:=by
 refine Co.p3 T.x67.d.F ["works", "ahead", "behind", "boxes", "answer"] λx y z M Q hr nN h1=>?_;obtain⟨a,rfl,h2⟩:=Ea h1;symm;obtain⟨b,e1',wk,r1,r2,e2',ok,e1,e2,q⟩:=Ea h2;cutsat;subst e1' e2';clear h1 h2;have m1:=DI e1;have m2:=DI e2;have w6:=(ok.r.2 r1 m1).2.l;refine⟨_,(qC (CC 3 nN (Ay T.x47.d (aT T) nofun (qA (Ay T.x63.d (wJ T) nofun (qA (qv 0) (qA (qv 1) qN))) (qA (Ay T.x64.d (Zie T) nofun (qA (qv 0) (qA (qv 2) qN))) qN)))) (qC (ED (AY CS (Cv Ma T.B.len CK (qA (qv 3) qN)) Ak) (qO (CH Ui)) qE) (qC (CC 4 nN (Ay T.x62.d (Zif T) nofun (qA (qv 0) (qA (qv 1) (qA (qv 2) qN))))) (qC (ED (AY CS (Bg BE (qv 4) Ak) BX) (qO (CH Ui)) qE) (qO (CH (CG (qA (Bg Hy (qv 3) Ak) (qA (qv 4) qN))))))))),?_⟩;right;refine⟨wk,r1,rfl,e1,w6,λp hp=>?_⟩;refine⟨wk,r2,_,rfl,e2,ok.rd m2,λp' hp'=>?_⟩;have hne:p≠p':=λe=>by rw[e,Dc]at hp';cases hp'
 have hM:M p'=none:=by rw[Dy (Bm hne)]at hp';exact hp'
 have sb:=(Sub.put (o:=.lst ((Qr (r1.2.2.map (·.1))).map D.str)) hp).puts (o:=.lst ((IH (C7 "box" r2.2.1 (r2.2.2.map (·.2)))).map D.str)) hM;refine⟨_,_,gB (by rw[Dy hne,Dc]),rfl,by rw[rE,Ab];ext,qH ok m2 "box" (.inl rfl),?_⟩;have cl:X3 wk r1 r2=(!(KC "box" r1 r2).isEmpty && !decide (Si (XM (FD (Dz wk.ws wk.ds r1.2.1 r2.2.1)) r1.2.1 r2.2.1) = "never")):=rfl;change if ((KC "box" r1 r2).length:Int)=0 then _ else _
 refine CD (λc=>?_) λc=>?_
 .have:KC "box" r1 r2=[]:=AG (by ext);rw[this]at cl;exact QQ sb (q .non (.inl ⟨cl,rfl⟩))
 refine⟨wk,r1,r2,rfl,ok,e1,e2,λM' hM'=>?_⟩;have sb2:=sb.trans hM';obtain⟨w0,l0,e0⟩:=sS (Zw (FD (Dz wk.ws wk.ds r1.2.1 r2.2.1)) r1.2.1 r2.2.1) (λms=>gM (FD (Dz wk.ws wk.ds r1.2.1 r2.2.1)) ms (Il (FD (Dz wk.ws wk.ds r1.2.1 r2.2.1))) "one" r1.2.1) (λms=>gM (FD (Dz wk.ws wk.ds r1.2.1 r2.2.1)) ms (Il (FD (Dz wk.ws wk.ds r1.2.1 r2.2.1))) "other" r2.2.1) (FD (Dz wk.ws wk.ds r1.2.1 r2.2.1)) (Il (FD (Dz wk.ws wk.ds r1.2.1 r2.2.1))) 65 [] [];have e0:XM (FD (Dz wk.ws wk.ds r1.2.1 r2.2.1)) r1.2.1 r2.2.1=.tup (.str w0::l0):=e0;rw[e0]at cl ⊢;grind;change if w0=Al "never" then _ else Cp (FK ((KC "box" r1 r2).map D.str) 0) _
 generalize KC "box" r1 r2=ml at cl c ⊢;cases ml with
 |nil=>exact absurd rfl c
 |cons z ml=>
  refine CD (λd=>?_) λd=>?_
  .rw[show Si (.tup (.str w0::l0))=w0 from rfl,decide_eq_true d]at cl;exact QQ sb2 (q .non (.inl ⟨cl,rfl⟩))
  .rw[show Si (.tup (.str w0::l0))=w0 from rfl,decide_eq_false d]at cl;rw[show FK ((z::ml).map D.str) 0=some (.str z)from Oj (j:=0) rfl,BW];exact QQ sb2 (q _ (.inr ⟨cl,_,rfl⟩))
inductive Pl:Nat->D->Prop
 |flat {n:Nat} {d:D}:DQ d=true->Pl n d
 |tup {n:Nat} {xs:List D}:(∀d∈xs,Pl n d)->Pl (n+1) (.tup xs)
theorem yt (h:DQ d=true):KJ d d=true:=by
 cases d<;>first | exact absurd h Am | simp[KJ]
theorem aW :∀{xs:List D},(∀d∈xs,f d d=some true)->EK f xs xs=some true
 |[],_=>rfl
 |x::r,h=>by
  unfold EK;rw[h x AF,aW λd hd=>h d (AE _ hd)];rfl
theorem Pl.cmp (h:Pl n d):De M n d d=some true:=by
 induction h with
 | @flat n d h=>cases n<;>(unfold De;rw[h,Jh,if_pos rfl,yt h])
 |tup _ ih=>unfold De;show(if false=true then _ else _)=_;rw[if_neg Am];exact aW ih
noncomputable def Uw (wk:Wk)(a b:Str):Bool:=(wk.rs.find? (DP a)).any λr1=>(wk.rs.find? (DP b)).any λr2=>X3 wk r1 r2
noncomputable abbrev Wk.nms (wk:Wk):List Str:=wk.rs.map (·.1)
theorem aO {wk:Wk}{z:Str}(h:z∈wk.nms):∃r,wk.rs.find? (DP z)=some r:=by
 obtain⟨r,hr,rfl⟩:=Ap.mp h;cases e:wk.rs.find? (DP r.1)with
 |some u=>exact⟨u,rfl⟩
 |none=>exact absurd (E3.mp e r hr) (by simp[DP])
theorem Ρ (h:xs.Perm ys):Qr xs=Qr ys:=G4 (λa b _ _ p q=>aN p q) (Do US We _) (Do US We _) (((D5 _ _).trans h).trans (D5 _ _).symm)
theorem aJ (zs:List Str):EK (De M 40) (zs.map D.str) (zs.map D.str)=some true:=aW λd hd=>by
 obtain⟨z,-,rfl⟩:=Ap.mp hd;exact Pl.cmp (.flat rfl)
noncomputable def Nr (p:Str×Str):L3.D:=.tup [.str p.1,.str p.2]
theorem iI (xs:List α)(k:Nat):L3.cutD (xs.map f) none (some (k:Int))=(xs.take k).map f:=by
 unfold L3.cutD;rw[HT.sIx_nat,HT.sIx_none,LM,NA,Ab,<- Lb,List.take_eq_take_min];by_cases h:k<=xs.length
 .rw[Fh h,Fh h]
 .rw[Fs (show xs.length<=k by ext),La,Be,BR (by ext)]
theorem sA (xs:List α)(k:Nat):L3.cutD (xs.map f) (some (k:Int)) none=(xs.drop k).map f:=by
 unfold L3.cutD;rw[HT.sIx_nat,HT.sIx_none,Ab,<- List.map_drop,<- Lb];congr 1
 by_cases h:k<=xs.length
 .rw[Fh h,BR (by rw[F2];ext)]
 .rw[Fs (by ext),Kl,List.drop_of_length_le (by ext),List.take_nil]
theorem pM (h:τ[j]? = some (some (.ref p)))(hM:M p=some (.lst xs)):Qn j t E τ M=t E (τ.set j (some (.lst xs))) (JL M p):=by
 unfold Qn;rw[h,Pn,BW,QR,hM]
theorem gZ (zs:List Str):(zs.map D.str).all DQ=true:=by
 induction zs with
 |nil=>rfl
 |cons z r ih=>rw[AQ,F5,ih];rfl
theorem gY (x)(zs:List Str):((zs.map D.str).any λz=>KJ z (.str x))=decide (x∈zs):=by
 induction zs with
 |nil=>rfl
 |cons z r ih=>
  rw[AQ,Fy,ih,rA];by_cases h:z=x
  .simp[h]
  .have h':¬x=z:=λe=>h e.symm;simp[h,h']
def fi:DW:=λds M Q=>FI ds λx y=>∃(wk:Wk) (zs:List Str),x=wk.D/\y=.lst (zs.map D.str)/\wk.Ok/\zs.Perm wk.nms/\Q .non M
attribute[local method_specs_simp ↓]gj fi
theorem Zhg:Od T T.x69 2 fi:=by
 refine Co.p2 T.x69.d.F ["works", "order"] λx y M Q hr nN h=>?_;symm;obtain⟨wk,zs,e1',e2',ok,pm,q⟩:=h;cutsat;subst e1' e2';refine⟨_,(qO (ED (AY (VR (JK hr)) (Cv tV T.B.sorted RE (qA (qv 1) qN)) (Cv tV T.B.sorted RE (qA (Ay T.x44.d (bL T) nofun (qA (qv 0) qN)) qN))) (qO Pe) qE)),?_⟩;right;have l8:=ok.r.1;have ll:zs.length<=8:=by rw[pm.length_eq,Ab];exact l8
 rw[Pf,BW];refine⟨by ext,wk,rfl,ok,?_⟩;rw[show wk.rs.map (λr=>D.str r.1)=wk.nms.map D.str by rw[BA];rfl,Pf,BW];refine⟨by rw[Ab];ext,?_⟩;rw[Ρ pm,aJ,BW,if_neg Bool.noConfusion];exact Dn.of q
def bo:DW:=λds M Q=>IZ ds λx y z=>Gh y λa=>∃(wk:Wk) (zs:List Str),x=wk.D/\z=.lst (zs.map D.str)/\wk.Ok/\a∈wk.nms/\(∀b∈zs,b∈wk.nms)/\zs.length<=8/\Q (.lst ((zs.filter (Uw wk a)).map D.str)) M
attribute[local method_specs_simp ↓]bo
theorem ZkD:Od T T.x70 27 bo:=by
 refine Co.p3 T.x70.d.F ["works", "ahead", "names"] λx y z M Q hr nN h1=>?_;symm;obtain⟨a,e1',wk,zs,e2',e3',ok,ha,hz,hl,q⟩:=Ea h1;cutsat;subst e1' e2' e3';clear h1;refine⟨_,(qO (CH (Jm (caps:=[("works",0),("ahead",1)]) ⟨rfl,by rfl,by rfl,by rfl,rfl,by rfl,by nofun⟩ rfl (J0 (qv 2)) (λ_ _ _ _ _ _=>(qv 0)) (λ_ _ _ _ _ _=>(AY oy (Ay T.x67.d (σ T) nofun (qA (qv 1) (qA (qv 2) (qA (qv 0) qN)))) Ui))))),?_⟩;right;refine ET.filt (GK (by ext)) trivial (λb hb R r=>?_) (λb hb R r=>?_) (Dn.of q)
 .obtain⟨r1,e1⟩:=aO ha;obtain⟨r2,e2⟩:=aO (hz b hb);walk_at "cap";refine⟨wk,r1,r2,rfl,ok,e1,e2,λv hv=>?_⟩;have ec:Uw wk a b=X3 wk r1 r2:=by unfold Uw;rw[e1,e2];rfl
  rw[ec]at r;rcases hv with⟨c,rfl⟩|⟨c,l,rfl⟩<;>rw[c]at r<;>exact r
 .walk_at "cap";exact r
noncomputable def D9 (wk:Wk):List Str->List (Str×Str)
 |[]=>[]
 |a::l=>(l.filter (Uw wk a)).map (λb=>(a,b))++D9 wk l
theorem uL (wk:Wk):∀zs,(D9 wk zs).length<=zs.length*zs.length
 |[]=>AJ _
 |a::l=>by
  have:=uL wk l;have h:=CA (Uw wk a) l;show((l.filter (Uw wk a)).map (λb=>(a,b))++D9 wk l).length<=(l.length+1)*(l.length+1);rw[As,Ab,Nat.add_mul,Vk];ext
theorem kC (h:zs.length<=8):(D9 wk zs).length<=64:=A3 (uL wk zs) (A3 (Nat.mul_le_mul h h) (by decide))
def fq:DW:=λds M Q=>FI ds λx y=>∃(wk:Wk) (zs:List Str),x=wk.D/\y=.lst (zs.map D.str)/\wk.Ok/\zs.Perm wk.nms/\Q (.lst ((D9 wk zs).map Nr)) M
attribute[local method_specs_simp ↓]fq
theorem zO:Od T T.x68 28 fq:=by
 refine Co.p2 T.x68.d.F ["works", "order", "pairs", "place", "ahead"] λx y M Q hr nN h=>?_;symm;obtain⟨wk,zs,e1',e2',ok,pm,q⟩:=h;cutsat;subst e1' e2';have l8:=ok.r.1;have ll:zs.length<=8:=by rw[pm.length_eq,Ab];exact l8
 have pf:=kC (wk:=wk) ll;refine⟨_,(qC (Fb (Ay T.x69.d (Zhg T) nofun (qA (qv 0) (qA (qv 1) qN)))) (qC (CC 2 nN (JG qN)) (EW (KZ AK rfl (li T.B.enumerate (qA (qv 1) qN)) (VX (is:=[3,4]) rfl (Nc (Md (i:=3) nN rfl (B4 rfl)) (Nc (Md (i:=4) nN rfl (Hb rfl)) UN))) (qO (Fb (Kf AN Cz Cy Sr (qv 2) (qA (Gq (caps:=[("ahead",4)]) ⟨rfl,by rfl,by rfl,by rfl,rfl,by rfl,by nofun⟩ rfl (J0 (Ay T.x70.d (ZkD T) nofun (qA (qv 0) (qA (qv 4) (qA (II Yj (qv 1) (Tw (BG Hu (qv 3) Ak)) V1) qN))))) (λ_ _ _ _ _ _=>(CG (qA (qv 1) (qA (qv 0) qN))))) qN))))) (V3 2 (qO (CH (qv 2))))))),?_⟩;right;refine⟨wk,zs,rfl,rfl,ok,pm,?_⟩
 (try grind)
 intro p hp;refine⟨λτ M'=>M'=put M p (.lst ((D9 wk zs).map Nr))/\∃a b,τ=[some wk.D,some (.lst (zs.map D.str)),some (.ref p),a,b],?_,?_⟩
 .grind;refine⟨λk τ M'=>∃ps,(ps++D9 wk (zs.drop k)=D9 wk zs/\M'=put M p (.lst (ps.map Nr)))/\∃a b,τ=[some wk.D,some (.lst (zs.map D.str)),some (.ref p),a,b],⟨[],⟨rfl,rfl⟩,none,none,rfl⟩,λ_ _ _ _=>trivial,?_,?_⟩
  .intro k y τ M' hy hI';symm;obtain⟨ps,⟨hps,e1'⟩,a,b,e2'⟩:=hI';cutsat;subst e1' e2';obtain⟨d,hd,rfl⟩:=iY hy;obtain⟨z,hz,rfl⟩:=Mc hd;have hk:=(Ai.mp hz).1;have e1:zs.drop k=z::zs.drop (k+1):=by rw[Gw hk,(Ai.mp hz).2]
   have mz:=Aw hz;grind;rw[show(k:Int)+1=((k+1:Nat):Int) by ext,sA];refine⟨wk,zs.drop (k+1),rfl,rfl,ok,pm.mem_iff.mp mz,λb hb=>pm.mem_iff.mp (List.mem_of_mem_drop hb),by rw[F2];ext,?_⟩;rw[e1]at hps;have hps:ps++(((zs.drop (k+1)).filter (Uw wk z)).map (λb=>(z,b))++D9 wk (zs.drop (k+1)))=D9 wk zs:=hps;rw[<- Bs]at hps;have fl:=congrArg Ey hps;rw[As,As,Ab]at fl;refine ET.of (f:=λb=>Nr (z,b)) (GK (by ext)) trivial (λb hb R r=>?_) ?_
   .walk_at "cap";exact r
   .rw[ZK];refine⟨GK (by rw[Ab,Ab];ext),_,⟨hps,?_⟩,_,_,rfl⟩;rw[AI,BA];rfl
  .intro τ M' hI';symm;obtain⟨ps,⟨hps,e1'⟩,a,b,e2'⟩:=hI';cutsat;subst e1' e2';rw[iZ,Ab,Kl,show D9 wk []=[]from rfl,CL]at hps;rw[hps];exact⟨rfl,a,b,rfl⟩
 intro τ M' hI';symm;obtain⟨e1',a,b,e2'⟩:=hI';cutsat;subst e1' e2';rw[pM (p:=p) rfl Dc,V0 hp];simp only[Ca,CI];grind;exact Dn.of q
noncomputable def Tc (ps:List (Str×Str))(a b:Str):Bool:=decide ((a,b)∈ps\/(b,a)∈ps)
noncomputable def fX (q:Str×Str):D->Bool
 |.tup [.str x,.str y]=>decide (x=q.1/\y=q.2)
 |_=>false
theorem my (p q:Str×Str):De M 40 (Nr p) (Nr q)=some (fX q (Nr p)):=by
 show EK (De M 39) [.str p.1,.str p.2] [.str q.1,.str q.2]=some (decide (p.1=q.1/\p.2=q.2));show some (decide (p.1=q.1) && (decide (p.2=q.2) && true))=_;rw[T4,RT]
theorem mx (ps:List (Str×Str))(q:Str×Str):(ps.map Nr).any (fX q)=decide (q∈ps):=by
 induction ps with
 |nil=>rfl
 |cons p ps ih=>rw[AQ,Fy,ih];show(decide (p.1=q.1/\p.2=q.2) || decide (q∈ps))=_;rw[<- Bool.decide_or];refine decide_eq_decide.mpr ?_;rw[BD,Prod.ext_iff];exact⟨λh=>h.imp (λc=>⟨c.1.symm,c.2.symm⟩) id,λh=>h.imp (λc=>⟨c.1.symm,c.2.symm⟩) id⟩
theorem aL {M:Mp}{ps:List (Str×Str)}{a b:Str}{Q:DV}(q:Q (.bl (decide ((a,b)∈ps))) M):Xy (.tup [.str a,.str b]) (.lst (ps.map Nr)) M Q:=by
 refine⟨fX (a,b),λz hz=>?_,?_⟩
 .obtain⟨p,-,rfl⟩:=Ap.mp hz;exact my p (a,b)
 .rw[mx];exact q
def cn:DW:=λds M Q=>IZ ds λx y z=>Gh y λa=>Gh z λb=>∃ps,x=.lst (ps.map Nr)/\ps.length<=100/\Q (.bl (Tc ps a b)) M
attribute[local method_specs_simp ↓]cn
theorem Zil:Od T T.x71 1 cn:=by
 refine Co.p3 T.x71.d.F ["pairs", "one", "other"] λx y z M Q hr nN h1=>?_;obtain⟨a,rfl,h2⟩:=Ea h1;symm;obtain⟨b,e1',ps,e2',hl,q⟩:=Ea h2;cutsat;subst e1' e2';clear h1 h2;refine⟨_,(qO (CH (fW (JI (ZE (JK hr)) (CG (qA (qv 1) (qA (qv 2) qN))) (qv 0) (by with_unfolding_all rfl)) (N8 (JI (ZE (JK hr)) (CG (qA (qv 2) (qA (qv 1) qN))) (qv 0) (by with_unfolding_all rfl)))))),?_⟩;right;refine aL ?_;unfold Tc at q;by_cases c:(a,b)∈ps
 .rw[decide_eq_true (.inl c)]at q;rw[decide_eq_true c];exact Dn.of q
 .rw[decide_eq_false c];refine aL ?_;rw[decide_eq_decide.mpr (show((a,b)∈ps\/(b,a)∈ps)↔(b,a)∈ps from⟨λh=>h.resolve_left c,.inr⟩)]at q;exact Dn.of q
noncomputable def PY (zs:List Str)(z:Str):List Str:=zs.take (zs.idxOf z)
theorem Yk :∀{zs:List Str},z∈zs->Og z zs=some (zs.idxOf z)
 |[],h=>nomatch h
 |a::l,h=>by
  unfold Og;by_cases e:a=z
  .rw[if_pos e,e,List.idxOf_cons_self]
  .rw[if_neg e,Yk ((A5.mp h).resolve_left λc=>e c.symm),RL,show(a == z)=false by simpa using e];rfl
def cm:DW:=λds M Q=>FI ds λx y=>Gh y λz=>∃zs,x=.lst (zs.map D.str)/\z∈zs/\zs.length<=100/\Q (.lst ((PY zs z).map D.str)) M
attribute[local method_specs_simp ↓]cm
theorem xO:Od T T.x73 1 cm:=by
 refine Co.p2 T.x73.d.F ["names", "name"] λx y M Q hr nN h1=>?_;symm;obtain⟨z,e1',zs,e2',hz,hl,q⟩:=Ea h1;cutsat;subst e1' e2';clear h1;refine⟨_,(qO (CH (II Yj (qv 0) V1 (Tw (Kf AN Gk Gj (ZZ (Pa hr)) (qv 0) (qA (qv 1) qN)))))),?_⟩;right;rw[Pf,BW,Yk hz,BW,iI];exact Dn.of q
noncomputable def Zu (wk:Wk)(ps:List (Str×Str))(z:Str):List Str:=(PY wk.nms z).filter λo=>Tc ps o z
def cz:DW:=λds M Q=>IZ ds λx y z=>Gh z λn=>∃(wk:Wk) (ps:List (Str×Str)),x=wk.D/\y=.lst (ps.map Nr)/\wk.Ok/\n∈wk.nms/\ps.length<=100/\Q (.lst ((Zu wk ps n).map D.str)) M
theorem hV (wk:Wk):wk.rs.map (λr=>D.str r.1)=wk.nms.map D.str:=by rw[BA];rfl
attribute[local method_specs_simp ↓]cz
theorem Zjg:Od T T.x72 3 cz:=by
 refine Co.p3 T.x72.d.F ["works", "clashes", "name"] λx y z M Q hr nN h1=>?_;symm;obtain⟨n,e1',wk,ps,e2',e3',ok,hn,hl,q⟩:=Ea h1;cutsat;subst e1' e2' e3';clear h1;have l8:=ok.r.1;refine⟨_,(qO (CH (Jm (caps:=[("clashes",1),("name",2)]) ⟨rfl,by rfl,by rfl,by rfl,rfl,by rfl,by nofun⟩ rfl (J0 (Ay T.x73.d (xO T) nofun (qA (Ay T.x44.d (bL T) nofun (qA (qv 0) qN)) (qA (qv 2) qN)))) (λ_ _ _ _ _ _=>(qv 0)) (λ_ _ _ _ _ _=>(GL (Ay T.x71.d (Zil T) nofun (qA (qv 1) (qA (qv 0) (qA (qv 2) qN))))))))),?_⟩;right;refine⟨wk,rfl,ok,wk.nms,by rw[hV],hn,by rw[Ab];ext,?_⟩
 (try grind)
 refine ET.filt (GK (by unfold PY;rw[AZ,Ab];ext)) trivial (λb hb R r=>?_) (λb hb R r=>?_) (Dn.of q)
 .walk_at "cap";exact⟨ps,rfl,hl,r⟩
 .walk_at "cap";exact r
noncomputable def Sd (wk:Wk)(f:Str)(a b:Str):List Str:=((wk.rs.find? (DP a)).bind λr1=>(wk.rs.find? (DP b)).map λr2=>KC f r1 r2).getD []
theorem qG (h1:wk.rs.find? (DP a)=some r1)(h2:wk.rs.find? (DP b)=some r2):Sd wk f a b=KC f r1 r2:=by unfold Sd;rw[h1,h2];rfl
noncomputable def O8 (wk:Wk)(zs:List Str)(ps:List (Str×Str))(n o:Str):Bool:=(decide (o∈PY zs n) && !(Sd wk "late" o n).isEmpty) || decide (o∈Zu wk ps n)
noncomputable def PP (wk:Wk)(zs:List Str)(ps:List (Str×Str))(n:Str):List Str:=wk.nms.filter (O8 wk zs ps n)
def cy:DW:=λds M Q=>Te ds λx y z u=>Gh u λn=>∃(wk:Wk) (zs:List Str) (ps:List (Str×Str)),x=wk.D/\y=.lst (zs.map D.str)/\z=.lst (ps.map Nr)/\wk.Ok/\zs.Perm wk.nms/\n∈wk.nms/\ps.length<=100/\∀p,M p=none->Q (.ref p) (put M p (.lst ((PP wk zs ps n).map D.str)))
attribute[local method_specs_simp]gZ gY
attribute[local method_specs_simp ↓]zJ cy
theorem Zjk:Od T T.x76 20 cy:=by
 refine Co.p4 T.x76.d.F ["works", "order", "clashes", "name", "ahead", "late", "rivals", "needed", "other", "feeds"] λx y z u M Q hr nN h1=>?_;symm;obtain⟨n,e1',wk,zs,ps,e2',e3',e4',ok,pm,hn,hl,q⟩:=Ea h1;cutsat;subst e1' e2' e3' e4';clear h1;have l8:=ok.r.1;have ll:zs.length<=8:=by rw[pm.length_eq,Ab];exact l8
 obtain⟨rn,en⟩:=aO hn;have mn:=DI en;refine⟨_,(qC (CC 4 nN (Ay T.x73.d (xO T) nofun (qA (qv 1) (qA (qv 3) qN)))) (qC (CC 5 nN (Ln (Ay T.x65.d (Zjh T) nofun (qA (qv 0) (qA (qv 3) qN))))) (qC (CC 6 nN (Ay T.x72.d (Zjg T) nofun (qA (qv 0) (qA (qv 2) (qA (qv 3) qN))))) (qC (CC 7 nN (JG qN)) (EW (KZ AK rfl (J0 (Ay T.x44.d (bL T) nofun (qA (qv 0) qN))) (Nb (i:=8) nN rfl (B4 rfl)) (EW (CC 9 nN (R5 (JI O7 (qv 8) (qv 4) (by with_unfolding_all rfl)) (N8 (JI Lq (Cv Ma T.B.len CK (qA (Ay T.x47.d (aT T) nofun (qA (Ay T.x63.d (wJ T) nofun (qA (qv 0) (qA (qv 8) qN))) (qA (qv 5) qN))) qN)) Ak)))) (qO (ED ((Tu (GL (qv 9)) (VZ (AY O7 (qv 8) (qv 6) (by with_unfolding_all rfl))))).pt (qO (Fb (Kf AN Bl Bk QZ (qv 7) (qA (qv 8) qN)))) qE)))) (qO (CH (qv 7)))))))),?_⟩;right;refine⟨zs,rfl,pm.mem_iff.mpr hn,by ext,?_⟩
 (try grind)
 refine⟨wk,rn,_,rfl,en,ok.rd mn,λp hp=>?_⟩;rw[Dc];dsimp only;rw[V0 hp];refine⟨wk,ps,rfl,rfl,ok,hn,hl,λp hp=>?_⟩;generalize eL:D.lst ((IH (C7 "late" rn.2.1 (rn.2.2.map (·.2)))).map D.str)=L;generalize eA:D.lst ((PY zs n).map D.str)=A1;generalize eR:D.lst ((Zu wk ps n).map D.str)=R1;generalize D.lst (zs.map D.str)=Z1;generalize D.lst (ps.map Nr)=P1;refine⟨λτ M'=>(Sub M M'/\M' p=some (.lst ((PP wk zs ps n).map D.str)))/\∃a b,τ=[some wk.D,some Z1,some P1,some (.str n),some A1,some L,some R1,some (.ref p),a,b],?_,?_⟩
 .grind;refine⟨wk,rfl,ok,?_⟩;rw[hV];refine⟨λk τ M'=>(Sub M M'/\M' p=some (.lst (((wk.nms.take k).filter (O8 wk zs ps n)).map D.str)))/\∃a b,τ=[some wk.D,some Z1,some P1,some (.str n),some A1,some L,some R1,some (.ref p),a,b],⟨⟨Sub.put hp,Dc⟩,none,none,rfl⟩,λ_ _ _ _=>trivial,?_,?_⟩
  .intro k y τ M' hy hI';symm;obtain⟨⟨sb,hM⟩,a,b,e1'⟩:=hI';cutsat;subst e1';obtain⟨o,ho,rfl⟩:=Mc hy;have mo:=Aw ho;have hk:=(Ai.mp ho).1;rw[Ab]at hk;obtain⟨ro,eo⟩:=aO mo;have w6:=(ok.r.2 ro (DI eo)).2.l;have em:=qG (f:="late") eo en;grind;refine⟨λτ M2=>(Sub M M2/\M2 p=some (.lst (((wk.nms.take k).filter (O8 wk zs ps n)).map D.str)))/\τ=[some wk.D,some Z1,some P1,some (.str n),some A1,some L,some R1,some (.ref p),some (.str o),some (.bl (decide (o∈PY zs n) && !(Sd wk "late" o n).isEmpty))],?_,?_⟩
   .subst eA;subst eL;grind;refine CD (λc=>?_) λc=>?_
    .refine⟨wk,ro,rfl,eo,w6,λp1 hp1=>?_⟩;have ne:p≠p1:=λe=>by rw[e,hp1]at hM;cases hM
     have hM1:M p1=none:=by
      cases e:M p1 with
      |none=>rfl
      |some u=>rw[sb p1 u e]at hp1;cases hp1
     refine⟨_,_,rfl,rfl,by rw[rE,Ab];ext,qH ok mn "late" (.inr rfl),⟨sb.puts hM1,by rw[Dy ne];exact hM⟩,?_⟩;rw[em,decide_eq_true c,MC];change[_,_,_,_,_,_,_,_,_,some (D.bl (decide (0<((KC "late" ro rn).length:Int))))]=_;cases KC "late" ro rn with
     |nil=>rfl
     |cons z l=>rw[decide_eq_true (show(0:Int)<((z::l).length:Nat) by rw[AO];ext)];rfl
    .rw[decide_eq_false c];exact⟨⟨sb,hM⟩,rfl⟩
   rintro τ M2 ⟨⟨sb2,hM2⟩,rfl⟩;subst eR;grind;have et:wk.nms.take (k+1)=wk.nms.take k++[o]:=by rw[Ba,ho];rfl
   have fl:(((wk.nms.take k).filter (O8 wk zs ps n)).map D.str).length<An:=BS (by rw[Ab];have:=CA (O8 wk zs ps n) (wk.nms.take k);rw[AZ]at this;ext)
   have yes:∀{R:Prop},O8 wk zs ps n o=true->R->G5 (.ref p) [.str o] M2 λx M1=>(Sub M M1/\M1 p=some (.lst (((wk.nms.take (k+1)).filter (O8 wk zs ps n)).map D.str)))/\R:=λhb r=>by
    rw[VU hM2];refine⟨fl,⟨sb2.puts hp,?_⟩,r⟩;rw[Dc,et,DS,F4,if_pos hb,AI];rfl
   refine CD (λc=>⟨IF hM2,yes ?_ ⟨_,_,rfl⟩⟩) λc=>CD (λd=>⟨IF hM2,yes ?_ ⟨_,_,rfl⟩⟩) λd=>⟨⟨sb2,?_⟩,_,_,rfl⟩
   .unfold O8;rw[decide_eq_true c.1,c.2];rfl
   .unfold O8;rw[decide_eq_true d,VA]
   .have hb:¬O8 wk zs ps n o=true:=λh=>by
     unfold O8 at h;rw[decide_eq_false d,MD,BM,decide_eq_true_eq,Bool.not_eq_true']at h;exact c h
    rw[et,DS,F4,if_neg hb,Kq,CL];exact hM2
  .intro τ M' hI';symm;obtain⟨h,a,b,e1'⟩:=hI';cutsat;subst e1';rw[Ab,Be]at h;exact⟨h,a,b,rfl⟩
 intro τ M' hI';symm;obtain⟨⟨sb,hM⟩,a,b,e1'⟩:=hI';cutsat;subst e1';grind;refine QQ (λx o e=>?_) (q p hp);by_cases c:x=p
 .rw[c]at e ⊢;rw[Dc]at e;rw[hM,e]
 .rw[Dy c]at e;exact sb x o e
noncomputable def KG (AR:List (Str×List Str)):List (B7×D):=AR.map λkv=>(.inr kv.1,.lst (kv.2.map D.str))
noncomputable def Zv (wk:Wk)(zs:List Str)(ps:List (Str×Str)):List (Str×List Str):=wk.nms.map λn=>(n,PP wk zs ps n)
theorem jg (h:(AR.map (·.1)).Nodup):((KG AR).map (·.1)).Nodup:=by
 unfold KG;rw[BA];unfold Ez at h ⊢;rw[Cq]at h ⊢;exact h.imp λh e=>h (DN e)
theorem ZQ {wk:Wk}(ok:wk.Ok):(wk.nms.map λn=>n).Nodup:=by
 rw[Lc];exact(BN.mp ok.nd).2.1
structure Mj (M M':Mp)(g:Str->List Str)(ns:List Str)(f:Str->Ao):Prop where
 s:Sub M M'
 n:∀n∈ns,M (f n)=none/\M' (f n)=some (.lst ((g n).map D.str))
 i:∀a∈ns,∀b∈ns,f a=f b->a=b
noncomputable def MT (ns:List Str)(f:Str->Ao):List (B7×D):=ns.map λn=>(.inr n,.ref (f n))
theorem Mj.more {M M':Mp}{g:Str->List Str}{ns:List Str}{f:Str->Ao}(h:Mj M M' g ns f){n:Str}{p:Ao}(hp:M' p=none)(hn:n∉ns):Mj M (put M' p (.lst ((g n).map D.str))) g (ns++[n]) λx=>if x=n then p else f x:=by
 have hM:M p=none:=by
  cases e:M p with
  |none=>rfl
  |some u=>rw[h.s p u e]at hp;cases hp
 have ne:∀a∈ns,f a≠p:=λa ha e=>by
  have:=(h.n a ha).2;rw[e,hp]at this;cases this
 have na:∀a∈ns,¬a=n:=λa ha e=>hn (e ▸ ha);refine⟨h.s.puts hM,λa ha=>?_,λa ha b hb e=>?_⟩
 .rcases AT.mp ha with ha|ha
  .rw[if_neg (na a ha),Dy (ne a ha)];exact h.n a ha
  .rw[AL.mp ha,if_pos rfl,Dc];exact⟨hM,rfl⟩
 .rcases AT.mp ha with ha|ha<;>rcases AT.mp hb with hb|hb
  .rw[if_neg (na a ha),if_neg (na b hb)]at e;exact h.i a ha b hb e
  .rw[if_neg (na a ha),AL.mp hb,if_pos rfl]at e;exact absurd e (ne a ha)
  .rw[if_neg (na b hb),AL.mp ha,if_pos rfl]at e;exact absurd e.symm (ne b hb)
  .rw[AL.mp ha,AL.mp hb]
def di:DW:=λds M Q=>IZ ds λx y z=>∃(wk:Wk) (zs:List Str) (ps:List (Str×Str)),x=wk.D/\y=.lst (zs.map D.str)/\z=.lst (ps.map Nr)/\wk.Ok/\zs.Perm wk.nms/\ps.length<=100/\∀f M',Mj M M' (PP wk zs ps) wk.nms f->Q (.dic (MT wk.nms f)) M'
attribute[local method_specs_simp ↓]di
theorem Zig:Od T T.x75 21 di:=by
 refine Co.p3 T.x75.d.F ["works", "order", "clashes"] λx y z M Q hr nN h=>?_;symm;obtain⟨wk,zs,ps,e1',e2',e3',ok,pm,hl,q⟩:=h;cutsat;subst e1' e2' e3';have l8:=ok.r.1;have nd:wk.nms.Nodup:=by have:=ZQ ok;rwa[Lc]at this
 refine⟨_,(qO (CH (Ee (aI rfl) T.B.dict LO (qA (Gq (caps:=[("works",0),("order",1),("clashes",2)]) ⟨rfl,by rfl,by rfl,by rfl,rfl,by rfl,by nofun⟩ rfl (J0 (Ay T.x44.d (bL T) nofun (qA (qv 0) qN))) (λ_ _ _ _ _ _=>(CG (qA (qv 0) (qA (Ay T.x76.d (Zjk T) nofun (qA (qv 1) (qA (qv 2) (qA (qv 3) (qA (qv 0) qN))))) qN))))) qN)))),?_⟩;right;refine⟨wk,rfl,ok,?_⟩;rw[hV];refine⟨GK (by rw[Ab,Ab];ext),λi ys M'=>∃f,Mj M M' (PP wk zs ps) (wk.nms.take i) f/\ys=(wk.nms.take i).map λn=>.tup [.str n,.ref (f n)],⟨λ_=>0,⟨Sub.refl _,λ_ h=>absurd h AS,λ_ h=>absurd h AS⟩,rfl⟩,?_,?_,?_⟩
 .rintro i ys M' ⟨f,_,rfl⟩;exact⟨trivial,by rw[Ab,AZ];ext⟩
 .rintro i x ys M' hx ⟨f,hf,rfl⟩;obtain⟨n,hn,rfl⟩:=Mc hx;unfold GJ;dsimp only;rw[if_pos rfl];walk_at "cap";refine⟨wk,zs,ps,rfl,rfl,rfl,ok,pm,Aw hn,hl,λp hp=>?_⟩;have et:wk.nms.take (i+1)=wk.nms.take i++[n]:=by rw[Ba,hn];rfl
  have fr:n∉wk.nms.take i:=λh=>by
   have h2:=(GB (i+1) wk.nms).nodup nd;rw[et]at h2;exact(BN.mp h2).2.2 n h n (AL.mpr rfl) rfl
  rw[et];refine⟨_,hf.more hp fr,?_⟩;rw[AI,List.map_singleton,if_pos rfl];congr 1
  exact Dq λa ha=>by rw[if_neg (λe:a=n=>fr (e ▸ ha))]
 .rintro ys M' ⟨f,hf,rfl⟩;rw[Ab,Be]at hf ⊢;refine⟨MT wk.nms f,?_,GK (by unfold MT;rw[Ab,Ab];ext),?_⟩
  .simp only[G7,MT,BA];rfl
  .rw[bA _ (by unfold MT;rw[BA];unfold Ez at nd ⊢;rw[Cq];exact nd.imp λh e=>h (DN e))];exact Dn.of (q f M' hf)
def vC:DW:=λds M Q=>FI ds λx y=>∃wk zs,x=wk.D/\y=.lst (zs.map D.str)/\wk.Ok/\zs.Perm wk.nms/\∀f M',Mj M M' (PP wk zs (D9 wk zs)) wk.nms f->Q (.dic (MT wk.nms f)) M'
attribute[local method_specs_simp ↓]vC
theorem sW:Od T T.x74 30 vC:=by
 refine Co.p2 T.x74.d.F ["works", "order"] λx y M Q hr nN h=>?_;symm;obtain⟨wk,zs,e1',e2',ok,pm,q⟩:=h;cutsat;subst e1' e2';have l8:=ok.r.1;refine⟨_,(qO (CH (Ay T.x75.d (Zig T) nofun (qA (qv 0) (qA (qv 1) (qA (Ay T.x68.d (zO T) nofun (qA (qv 0) (qA (qv 1) qN))) qN)))))),?_⟩;right;exact⟨wk,zs,rfl,rfl,ok,pm,wk,zs,_,rfl,rfl,rfl,ok,pm,A3 (kC (by rw[pm.length_eq,Ab];exact l8)) (by decide),λf M' h=>Dn.of (q f M' h)⟩
def fc:DW:=λds M Q=>FI ds λx y=>MV M x λ_=>E4 y λk=>0<=k/\∀z,Q (.int z) M
theorem UV:Od T T.x77 1 fc:=by
 refine Co.p2 T.x77.d.F ["script", "k"] λx y M Q hr nN h1=>?_;obtain⟨ns,hl,hs,h2⟩:=hZ h1;obtain⟨k,rfl,hk,q⟩:=CY h2;refine⟨_,(qC (ED (AY Lp (qv 1) (Cv Ma T.B.len CK (qA (qv 0) qN))) (qO (CH (Bg Hy (qv 0) (qv 1)))) qE) (qO (CH Ak))),?_⟩;right;simp only[hs,hl];grind;refine CD (λc=>?_) λc=>Dn.of (q 0);obtain⟨o,ho,mo⟩:=aC (xs:=ns.map D.int) (i:=k) hk (by rw[Ab];ext);obtain⟨z,_,rfl⟩:=Ap.mp mo;simp only[ho,BW];exact Dn.of (q z)
noncomputable def CT:Str:="abcdefghijklmnopqrstuvwxyz"
theorem kO:CT.cps.toList.length=26:=by nofun
theorem Ziu:CT.cps.toList.all small=true:=by nofun
theorem ZmO:CT.cps.toList.Nodup:=by nofun
theorem kI (h0:0<=i)(h1:i<26):∃c,FK CT.cps.toList i=some c/\small c=true:=by
 obtain⟨a,rfl⟩:∃a:Nat,i=(a:Int):=⟨i.toNat,by ext⟩;have la:a<CT.cps.toList.length:=by rw[kO];ext
 exact⟨_,Oj (Ag la),CP.mp Ziu _ (F3 la)⟩
theorem wA (hi:0<=i)(hj:0<=j)(h1:FK CT.cps.toList i=some c)(h2:FK CT.cps.toList j=some c)(i6:i<26)(j6:j<26):i=j:=by
 obtain⟨a,rfl⟩:∃a:Nat,i=(a:Int):=⟨i.toNat,by ext⟩;obtain⟨b,rfl⟩:∃b:Nat,j=(b:Int):=⟨j.toNat,by ext⟩;have la:a<CT.cps.toList.length:=by rw[kO];ext
 have lb:b<CT.cps.toList.length:=by rw[kO];ext
 rw[Oj (Ag la)]at h1;rw[Oj (Ag lb)]at h2;have:=(Jz ZmO).mp ((Bb h1).trans (Bb h2).symm);ext
theorem Yp (a b:Str):(a++b).cps.toList=a.cps.toList++b.cps.toList:=by
 show(a.cps++b.cps).toList=_;rw[OF]
theorem qJ (h1:1<=z.length)(h8:z.length<=8)(hs:∀c∈z.cps.toList,small c=true):Kk z:=by
 refine⟨⟨?_,by ext⟩,?_⟩
 .unfold ZD;rw[<- Array.all_toList];refine CP.mpr λc hc=>?_;have:=hs c hc;unfold small at this;have:=of_decide_eq_true this;exact decide_eq_true (by ext)
 .unfold Gr;rw[CP.mpr hs,decide_eq_true ⟨h1,h8⟩];rfl
def U5 (n k:Int)(z:Str):Prop:=∃c d,FK CT.cps.toList (n / 192%26)=some c/\FK CT.cps.toList ((n / 4992+k)%26)=some d/\small c=true/\small d=true/\z=Jk c (n / 24%8%(1+n / 3%8))++(⟨#[d]⟩:Str)++Jk c (1+n / 3%8-1-n / 24%8%(1+n / 3%8))
theorem Ss (c)(n):(Jk c n).cps.toList=Ax n.toNat c:=rfl
theorem U5.ok (h:U5 n k z):Kk z:=by
 obtain⟨c,d,_,_,sc,sd,rfl⟩:=h;have hm:=Ci (n / 24%8) (by omega:1+n / 3%8≠0);have hm2:=BP (n / 24%8) (by omega:0<1+n / 3%8)
 have len:(Jk c (n / 24%8%(1+n / 3%8))++(⟨#[d]⟩:Str)++Jk c (1+n / 3%8-1-n / 24%8%(1+n / 3%8))).length=(1+n / 3%8).toNat:=by
  show Ll _=_;rw[<- BH,Yp,Yp,Ss,Ss];simp;ext
 refine qJ (by rw[len];ext) (by rw[len];ext) λx hx=>?_;rw[Yp,Yp,Ss,Ss]at hx;simp only[Dp,PB,E9]at hx;rcases hx with(⟨_,rfl⟩|hx)|⟨_,rfl⟩
 .exact sc
 .rw[hx];exact sd
 .exact sc
theorem U5.inj (h1:U5 n i z)(h2:U5 n j z):(n / 4992+i)%26=(n / 4992+j)%26:=by
 obtain⟨c,d,a1,a2,_,_,e1⟩:=h1;obtain⟨c',d',b1,b2,_,_,e2⟩:=h2;rw[a1]at b1;cases b1;have e:=congrArg (λs:Str=>s.cps.toList) (e1.symm.trans e2);simp only[Yp,Ss,Bs]at e;have e3:=(List.append_cancel_left e);have:d=d':=by simpa using congrArg List.head? e3
 subst this;exact wA (by ext) (by ext) a2 b2 (by ext) (by ext)
def Q3 (i m:Int)(z:Str):Prop:=∃c,FK CT.cps.toList i=some c/\small c=true/\z=Jk c m
theorem Q3.ok (h:Q3 i m z)(h1:1<=m)(h8:m<=8):Kk z:=by
 obtain⟨c,_,sc,rfl⟩:=h
 have len:(Jk c m).length=m.toNat:=by
  show Ll _=_;rw[<- BH,Ss,Br]
 refine qJ (by rw[len];ext) (by rw[len];ext) λx hx=>?_;rw[Ss]at hx;rw[(PB.mp hx).2];exact sc
theorem Q3.inj (h1:Q3 i m z)(h2:Q3 i' m' z)(hi:0<=i/\i<26)(hi':0<=i'/\i' < 26)(hm:1<=m)(hm':1<=m'):i=i'/\m=m':=by
 obtain⟨c,a,_,e1⟩:=h1;obtain⟨c',a',_,e2⟩:=h2;have e:=congrArg (λs:Str=>s.cps.toList) (e1.symm.trans e2);simp only[Ss]at e;have el:=congrArg Ey e;rw[Br,Br]at el
 have ec:c=c':=by
  obtain⟨k,hk⟩:∃k,m.toNat=k+1:=⟨m.toNat-1,by ext⟩;obtain⟨k',hk'⟩:∃k,m'.toNat=k+1:=⟨m'.toNat-1,by ext⟩;rw[hk,hk',C0,C0]at e;injection e
 subst ec;exact⟨wA hi.1 hi'.1 a a' hi.2 hi'.2,by ext⟩
def K5 (n k:Int)(z:Str):Prop:=if n%3=2 then(if k<5 then Q3 (n / 192%26) (1+(2*k+n / 192)%5) z else Q3 ((n / 192%26+1+n / 4992%25)%26) (1+(3*k+n / 192)%4) z)else U5 n (7*k) z
theorem K5.ok (h:K5 n k z):Kk z:=by
 unfold K5 at h;split at h
 .split at h
  .exact h.ok (by ext) (by ext)
  .exact h.ok (by ext) (by ext)
 .exact h.ok
theorem K5.inj (h1:K5 n i z)(h2:K5 n j z)(hi:0<=i/\i<9)(hj:0<=j/\j<9):i=j:=by
 unfold K5 at h1 h2;split at h1
 .next hn=>
  rw[if_pos hn]at h2;split at h1
  .split at h2
   .have:=Q3.inj h1 h2 (by ext) (by ext) (by ext) (by ext);ext
   .have:=Q3.inj h1 h2 (by ext) (by ext) (by ext) (by ext);ext
  .split at h2
   .have:=Q3.inj h1 h2 (by ext) (by ext) (by ext) (by ext);ext
   .have:=Q3.inj h1 h2 (by ext) (by ext) (by ext) (by ext);ext
 .next hn=>
  rw[if_neg hn]at h2;have:=U5.inj h1 h2;ext
theorem Yh (hi:i.natAbs<1000)(hj:j.natAbs<1000):Pj i j:=by
 unfold Pj;ext
def zE:DW:=λds M Q=>FI ds λx y=>E4 x λn=>E4 y λk=>(0<=n/\n<10^9/\0<=k/\k<26)/\∀z,K5 n k z->Q (.str z) M
theorem kY:Od T T.x79 1 zE:=by
 refine Co.p2 T.x79.d.F ["number", "k", "letters", "fill", "long", "at", "sign"] λx y M Q hr nN h1=>?_;obtain⟨n,rfl,h2⟩:=CY h1;symm;obtain⟨k,e1',⟨n0,n9,k0,k26⟩,q⟩:=CY h2;cutsat;subst e1';refine⟨_,(qC (CC 2 nN BX) (qC (CC 3 nN (BG Ha (BG KY (qv 0) Ak) Ak)) (qC (ED (AY CS (BG Ha (qv 0) Ak) Ak) (qC (ED (AY Lp (qv 1) Ak) (qO (CH (BG aS (Bg X6 (qv 2) (qv 3)) (BG Hu Ak (BG Ha (BG Hu (BG Uz Ak (qv 1)) (BG KY (qv 0) Ak)) Ak))))) qE) (qO (CH (BG aS (Bg X6 (qv 2) (BG Ha (BG Hu (BG Hu (qv 3) Ak) (BG Ha (BG KY (qv 0) Ak) Ak)) Ak)) (BG Hu Ak (BG Ha (BG Hu (BG Uz Ak (qv 1)) (BG KY (qv 0) Ak)) Ak)))))) qE) (qC (CC 4 nN (BG Hu Ak (BG Ha (BG KY (qv 0) Ak) Ak))) (qC (CC 5 nN (BG Ha (BG Ha (BG KY (qv 0) Ak) Ak) (qv 4))) (qC (CC 6 nN (Bg X6 (qv 2) (BG Ha (BG Hu (BG KY (qv 0) Ak) (BG Uz Ak (qv 1))) Ak))) (qO (CH (BG uD (BG uD (BG aS (Bg X6 (qv 2) (qv 3)) (qv 5)) (qv 6)) (BG aS (Bg X6 (qv 2) (qv 3)) (BG Na (BG Na (qv 4) Ak) (qv 5)))))))))))),?_⟩;right;have hm:=Ci (n / 24%8) (by omega:1+n / 3%8≠0);have hm2:=BP (n / 24%8) (by omega:0<1+n / 3%8);have hL:("abcdefghijklmnopqrstuvwxyz":Str).length<=An:=by nofun
 have len:∀c i,(Jk c i).length=i.toNat:=λc i=>by
  show Ll _=_;rw[<- BH,Ss,Br]
 obtain⟨c,hc,sc⟩:=kI (i:=n / 192%26) (by ext) (by ext);refine⟨⟨by decide,by decide⟩,CD (λh2=>CD (λh5=>⟨hL,?_⟩) λh5=>⟨⟨by decide,by decide⟩,hL,?_⟩) λh2=>⟨⟨by decide,by decide⟩,⟨by decide,by decide⟩,by ext,⟨by decide,by decide⟩,Yh (by decide) (by ext),hL,?_⟩⟩
 .change Cp (FK CT.cps.toList _) _;rw[hc,BW];refine⟨Yh (by decide) (by ext),⟨by decide,by decide⟩,ZU ⟨by ext,by ext⟩ (Dn.of (q _ ?_))⟩;unfold K5;rw[if_pos h2,if_pos h5];exact⟨c,hc,sc,rfl⟩
 .obtain⟨d,hd,sd⟩:=kI (i:=(n / 192%26+1+n / 4992%25)%26) (by ext) (by ext);change Cp (FK CT.cps.toList _) _;rw[hd,BW];refine⟨Yh (by decide) (by ext),⟨by decide,by decide⟩,ZU ⟨by ext,by ext⟩ (Dn.of (q _ ?_))⟩;unfold K5;rw[if_pos h2,if_neg h5];exact⟨d,hd,sd,rfl⟩
 .obtain⟨d,hd,sd⟩:=kI (i:=(n / 4992+7*k)%26) (by ext) (by ext);change Cp (FK CT.cps.toList _) _;rw[hd,BW];refine⟨hL,?_⟩;change Cp (FK CT.cps.toList _) _;rw[hc,BW];refine ZU ⟨hm,by ext⟩ ⟨GK ?_,hL,?_⟩
  .rw[len];show _+1<=_;ext
  change Cp (FK CT.cps.toList _) _;rw[hc,BW];refine ZU ⟨by ext,by ext⟩ ⟨GK ?_,Dn.of (q _ ?_)⟩
  .rw[Str.length_append,len,len];show _+1+_<=_;ext
  .unfold K5;rw[if_neg h2];exact⟨c,d,hc,hd,sc,sd,rfl⟩
theorem Td (n:Nat):(0:Int)<2^n:=Qb (by decide)
theorem Yu:∀{ws:List (Str×Int)},(ws.map (·.1)).Nodup->∀{p:Str×Int},p∈ws->ws.lookup p.1=some p.2
 |[],_,p,h=>nomatch h
 |(y,n)::r,nd,p,h=>by
  rw[AQ,El]at nd;rcases A5.mp h with rfl|h
  .rw[BK,beq_self_eq_true]
  .have ne:(p.1 == y)=false:=by
    refine JX.mpr λe=>nd.1 ?_;exact Ap.mpr ⟨p,h,eq_of_beq e⟩
   rw[BK,ne];exact Yu nd.2 h
noncomputable abbrev PL (bs:List (Str×Int×Int)):List (Str×Int):=bs.map λb=>(b.1,b.2.1)
structure Sp (bs:List (Str×Int×Int))(es:List (Str×Int)):Prop where
 b:bs.length<=12/\∀b∈bs,Kk b.1/\1<=b.2.1/\b.2.1<=64
 d:es.length<=6/\∀d∈es,Kk d.1/\1<=d.2/\d.2<=64
 nb:(bs.map (·.1)).Nodup
 nd:(es.map (·.1)).Nodup
def Sy (bs:List (Str×Int×Int))(es:List (Str×Int))(w:Int)(t:Tm):Prop:=Wd (PL bs) es t w/\t.deep=1/\t.parts=1
def zD:DW:=λds M Q=>Te ds λx1 x2 x3 x4=>E4 x1 λn=>E4 x2 λwd=>∃(bs:List (Str×Int×Int)) (es:List (Str×Int)),x3=.lst (bs.map Fa)/\x4=.lst (es.map G9)/\Sp bs es/\(1<=wd/\wd<=64)/\0<=n/\∀t,Sy bs es wd t->Q t.D M
theorem bG:Od T T.x80 1 zD:=by
 refine Co.p4 T.x80.d.F ["number", "want", "boxes", "doors", "fit"] λx1 x2 x3 x4 M Q hr nN h1=>?_;obtain⟨n,rfl,h2⟩:=CY h1;symm;obtain⟨wd,e1',bs,es,e2',e3',sp,⟨w1,w64⟩,n0,q⟩:=CY h2;cutsat;subst e1' e2' e3';refine⟨_,(qC (kF (caps:=[("want",1)]) (i:=4) nN rfl rfl ⟨rfl,by rfl,by rfl,by rfl,rfl,by rfl,by nofun⟩ rfl (J0 (qv 2)) (λ_ _ _ _ _ _=>(CG (qA BX (qA (Bg BE (qv 0) Ak) qN)))) (λ_ _ _ _ _ _=>(AY CS (Bg BE (qv 0) Ak) (qv 1)))) (qC (CC 4 nN (BG ZR (qv 4) (Jm (caps:=[("want",1)]) ⟨rfl,by rfl,by rfl,by rfl,rfl,by rfl,by nofun⟩ rfl (J0 (qv 2)) (λ_ _ _ _ _ _=>(CG (qA BX (qA (Bg BE (qv 0) Ak) qN)))) (λ_ _ _ _ _ _=>(AY CS (Bg BE (qv 0) Ak) (qv 1)))))) (qC (CC 4 nN (BG jj (qv 4) (Jm (caps:=[("want",1)]) ⟨rfl,by rfl,by rfl,by rfl,rfl,by rfl,by nofun⟩ rfl (J0 (qv 3)) (λ_ _ _ _ _ _=>(CG (qA BX (qA (Bg BE (qv 0) Ak) qN)))) (λ_ _ _ _ _ _=>(AY CS (Bg BE (qv 0) Ak) (qv 1)))))) (qC (Fb (Kf AN Bl Bk QZ (qv 4) (qA (CG (qA BX (qA (qv 1) (qA (BG Ha (BG Uz (BG KY (qv 0) Ak) Ak) (BG VS Ak (qv 1))) qN)))) qN))) (qO (CH (Bg Hy (qv 4) (BG Ha (qv 0) (Cv Ma T.B.len CK (qA (qv 4) qN)))))))))),?_⟩;right;have hp0:=Td wd.toNat
 have lb:=sp.b.1;have ld':=sp.d.1
 have lkb:∀b∈bs,b.2.1=wd->(PL bs).lookup b.1=some wd:=λb hb e=>by
  have:=Yu (ws:=PL bs) (p:=(b.1,b.2.1)) (by unfold PL;rw[BA];exact sp.nb) (Ap.mpr ⟨b,hb,rfl⟩);rw[e]at this;exact this
 have lkd:∀d∈es,d.2=wd->es.lookup d.1=some wd:=λd hd e=>by
  have:=Yu (p:=d) sp.nd hd;rw[e]at this;exact this
 refine ET.filt (ks:=bs) (g:=Fa) (f:=λb=>(Tm.box b.1).D) (pr:=λb=>decide (b.2.1=wd)) (GK (by ext)) trivial (λd hd R r=>?_) (λd hd R r=>?_) ?_
 .simp only[Fa];walk_at "cap";exact r
 .simp only[Fa];walk_at "cap";exact r
 have f1:=CA (λb:Str×Int×Int=>decide (b.2.1=wd)) bs;have f2:=CA (λd:Str×Int=>decide (d.2=wd)) es;refine ET.filt (ks:=bs) (g:=Fa) (f:=λb=>(Tm.late b.1).D) (pr:=λb=>decide (b.2.1=wd)) (GK (by ext)) trivial (λd hd R r=>?_) (λd hd R r=>?_) ?_
 .simp only[Fa];walk_at "cap";exact r
 .simp only[Fa];walk_at "cap";exact r
 refine⟨GK (by rw[Ab,Ab];ext),?_⟩;refine ET.filt (ks:=es) (g:=G9) (f:=λb=>(Tm.door b.1).D) (pr:=λb=>decide (b.2=wd)) (GK (by ext)) trivial (λd hd R r=>?_) (λd hd R r=>?_) ?_
 .simp only[G9];walk_at "cap";exact r
 .simp only[G9];walk_at "cap";exact r
 refine⟨GK (by rw[Ab,Ab,Ab];ext),λp hp=>⟨⟨by decide,by decide⟩,.inr (by decide),⟨by ext,by ext,by decide⟩,by ext,BS (by rw[Ab,Ab,Ab];ext),by ext,?_⟩⟩
 have all:∀d∈(((bs.filter λb=>decide (b.2.1=wd)).map λb=>(Tm.box b.1).D)++((bs.filter λb=>decide (b.2.1=wd)).map λb=>(Tm.late b.1).D)++((es.filter λb=>decide (b.2=wd)).map λb=>(Tm.door b.1).D)++[D.tup [D.str "num",D.int wd,D.int (n / 7*6364136223846793005%(1*2^wd.toNat))]]),∃t,Sy bs es wd t/\d=t.D:=λd hd=>by
  simp only[Dp,E9]at hd;rcases hd with((hd|hd)|hd)|hd
  .obtain⟨b,hb,rfl⟩:=Ap.mp hd;obtain⟨hb,e⟩:=Bw.mp hb;exact⟨_,⟨.box (lkb b hb (of_decide_eq_true e)),rfl,rfl⟩,rfl⟩
  .obtain⟨b,hb,rfl⟩:=Ap.mp hd;obtain⟨hb,e⟩:=Bw.mp hb;exact⟨_,⟨.late (lkb b hb (of_decide_eq_true e)),rfl,rfl⟩,rfl⟩
  .obtain⟨b,hb,rfl⟩:=Ap.mp hd;obtain⟨hb,e⟩:=Bw.mp hb;exact⟨_,⟨.door (lkd b hb (of_decide_eq_true e)),rfl,rfl⟩,rfl⟩
  .exact⟨.num wd (n / 7*6364136223846793005%(1*2^wd.toNat)),⟨.num ⟨w1,w64,Ci _ (by ext),by rw[Ng];exact BP _ hp0⟩,rfl,rfl⟩,hd⟩
 generalize hL:(((bs.filter λb=>decide (b.2.1=wd)).map λb=>(Tm.box b.1).D)++((bs.filter λb=>decide (b.2.1=wd)).map λb=>(Tm.late b.1).D)++((es.filter λb=>decide (b.2=wd)).map λb=>(Tm.door b.1).D)++[D.tup [D.str "num",D.int wd,D.int (n / 7*6364136223846793005%(1*2^wd.toNat))]])=L at all ⊢;have len:((bs.filter λb=>decide (b.2.1=wd)).map λb=>(Tm.box b.1).D).length+((bs.filter λb=>decide (b.2.1=wd)).map λb=>(Tm.late b.1).D).length+((es.filter λb=>decide (b.2=wd)).map λb=>(Tm.door b.1).D).length+1=L.length:=by rw[<- hL];simp only[As,EY]
 rw[len];have lp:0<L.length:=by ext
 obtain⟨d,hd,md⟩:=aC (xs:=L) (i:=n%(L.length:Int)) (Ci _ (by ext)) (BP _ (by ext));rw[hd,BW];obtain⟨t,ht,rfl⟩:=all d md;exact QQ (Sub.put hp) (q t ht)
noncomputable def pN:Nat->Nat
 |0=>1
 |n+1=>2*pN n+2
theorem pk (n:Nat):1<=pN n:=by cases n<;>simp[pN]
theorem iO {x w:Int}(h1:Wd bs es t x)(hk:u.kids=[t])(h:u.over [x]=some w):Wd bs es u w:=by
 refine .over (λi k a hk2 ha=>?_) h;rw[hk]at hk2
 match i with
 |0=>cases hk2;cases ha;exact h1
 |i+1=>cases hk2
theorem uj {x y w:Int}(h1:Wd bs es t x)(h2:Wd bs es u y)(h:(Tm.bin o t u).over [x,y]=some w):Wd bs es (.bin o t u) w:=by
 refine .over (λi k a hk ha=>?_) h
 match i with
 |0=>cases hk;cases ha;exact h1
 |1=>cases hk;cases ha;exact h2
 |i+2=>cases hk
theorem ζ {w:Int}(h0:Wd bs es c 1)(h1:Wd bs es t w)(h2:Wd bs es u w):Wd bs es (.pick c t u) w:=by
 refine .over (ws:=[1,w,w]) (λi k a hk ha=>?_) (by simp[Tm.over])
 match i with
 |0=>cases hk;cases ha;exact h0
 |1=>cases hk;cases ha;exact h1
 |2=>cases hk;cases ha;exact h2
 |i+3=>cases hk
structure P2 (bs:List (Str×Int×Int))(es:List (Str×Int))(w:Int)(n:Nat)(t:Tm):Prop where
 w:Wd (PL bs) es t w
 d:t.deep<=n+1
 p:t.parts<=pN n
def Wh (n:Nat)(ds:List D)(M:Mp)(Q:DV):Prop:=XH ds λx1 x2 x3 x4 x5=>E4 x1 λm=>E4 x2 λwd=>x3=.int n/\n<=2/\∃(bs:List (Str×Int×Int)) (es:List (Str×Int)),x4=.lst (bs.map Fa)/\x5=.lst (es.map G9)/\Sp bs es/\bs≠[]/\(1<=wd/\wd<=64)/\0<=m/\∀t,P2 bs es wd n t->Q t.D M
theorem Sy.tm {w:Int}(h:Sy bs es w t)(n:Nat):P2 bs es w n t:=⟨h.1,by rw[h.2.1];ext,by rw[h.2.2];cases n<;>simp[pN]⟩
theorem xk :GI 16 (x0::x1::x2::x3::x4::x5::x6::x7::x8::x9::x10::x11::x12::x13::x14::x15::some d::τ) M Q=Q d M:=rfl
theorem xj :FH 16 te E (x0::x1::x2::x3::x4::x5::x6::x7::x8::x9::x10::x11::x12::x13::x14::x15::o::τ) M=te (x0::x1::x2::x3::x4::x5::x6::x7::x8::x9::x10::x11::x12::x13::x14::x15::o::τ) M λd M1=>E.nx (x0::x1::x2::x3::x4::x5::x6::x7::x8::x9::x10::x11::x12::x13::x14::x15::some d::τ) M1:=rfl
attribute[local method_specs_simp]xk xj
attribute[local method_specs_simp ↓]zD Wh
theorem wN {n:Nat}{sq:DW}(G__law_term:Ok P w K mg base (n+1) T.x81.f T.x81.g ["number", "want", "deep", "boxes", "doors"] sq)(hq:∀m,n=m+1->sq=Wh m):Od T T.x81 (n+2) (Wh n):=by
 refine Co.p5 T.x81.d.F ["number", "want", "deep", "boxes", "doors", "kind", "rest", "base", "one", "two", "test", "low", "high", "wider", "row", "width", "word"] λx1 x2 x3 x4 x5 M Q hr nN h1=>?_;obtain⟨m,rfl,h2⟩:=CY h1;symm;obtain⟨wd,e1',e2',n2,bs,es,e3',e4',sp,ne,⟨w1,w64⟩,m0,q⟩:=CY h2;cutsat;subst e1' e2' e3' e4';refine⟨_,(qC (CC 5 nN (BG Ha (qv 0) Ak)) (qC (CC 6 nN (BG KY (qv 0) Ak)) (qC (ED (AY CS (qv 2) Ak) (qO (CH (Ay T.x80.d (bG T) nofun (qA (qv 0) (qA (qv 1) (qA (qv 3) (qA (qv 4) qN))))))) qE) (qC (ED (AY Lp (qv 5) Ak) (qO (CH (Ay T.x80.d (bG T) nofun (qA (qv 6) (qA (qv 1) (qA (qv 3) (qA (qv 4) qN))))))) qE) (qC (CC 7 nN (Bg Hy (HI (X7 (.int (.int (.int .nil))))) (qv 2))) (qC (CC 8 nN (BG Ha (qv 6) (qv 7))) (EW (CC 9 nN (BG KY (qv 6) (qv 7))) (qC (ED (AY CS (qv 5) Ak) (qO (CH (CG (qA BX (qA (Ay T.x81.d G__law_term nofun (qA (qv 6) (qA (qv 1) (qA (BG Na (qv 2) Ak) (qA (qv 3) (qA (qv 4) qN)))))) qN))))) qE) (qC (ED (AY CS (qv 5) Ak) (qC (CC 10 nN (Ay T.x81.d G__law_term nofun (qA (qv 8) (qA Ak (qA (BG Na (qv 2) Ak) (qA (qv 3) (qA (qv 4) qN))))))) (qO (CH (CG (qA BX (qA (qv 10) (qA (Ay T.x80.d (bG T) nofun (qA (qv 9) (qA (qv 1) (qA (qv 3) (qA (qv 4) qN))))) (qA (Ay T.x80.d (bG T) nofun (qA (BG KY (qv 9) Ak) (qA (qv 1) (qA (qv 3) (qA (qv 4) qN))))) qN)))))))) qE) (EW (ED ((VY (AY CS (qv 5) Ak) (V4 (AY Lq (qv 1) Ak)))).pt (qC (CC 11 nN (BG Hu Ak (BG Ha (qv 6) (BG Na (qv 1) Ak)))) (qC (CC 12 nN (Ay T.x81.d G__law_term nofun (qA (qv 8) (qA (BG Na (qv 1) (qv 11)) (qA (BG Na (qv 2) Ak) (qA (qv 3) (qA (qv 4) qN))))))) (qO (CH (CG (qA BX (qA (qv 12) (qA (Ay T.x81.d G__law_term nofun (qA (qv 9) (qA (qv 11) (qA (BG Na (qv 2) Ak) (qA (qv 3) (qA (qv 4) qN)))))) qN)))))))) qE) (EW (kF (caps:=[("want",1)]) (i:=13) nN rfl rfl ⟨rfl,by rfl,by rfl,by rfl,rfl,by rfl,by nofun⟩ rfl (J0 (qv 3)) (λ_ _ _ _ _ _=>(qv 0)) (λ_ _ _ _ _ _=>(AY XJ (Bg BE (qv 0) Ak) (qv 1)))) (EW (ED ((VY (AY CS (qv 5) Ak) (V4 (AY (VR (JK hr)) (qv 13) (HI qN))))).pt (qC (CC 14 nN (Bg Hy (qv 13) (BG Ha (qv 8) (Cv Ma T.B.len CK (qA (qv 13) qN))))) (qO (CH (CG (qA BX (qA (CG (qA (Bg Hy (HI (qA BX (qA BX qN))) (BG Ha (qv 6) Ak)) (qA (Bg BE (qv 14) Ak) qN))) (qA (BG Ha (qv 9) (BG Hu (BG Na (Bg BE (qv 14) Ak) (qv 1)) Ak)) (qA (qv 1) qN)))))))) qE) (EW (ED ((VY (AY O7 (qv 5) (CG (qA Ak (qA Ak qN))) (by with_unfolding_all rfl)) (V4 (AY CS (qv 1) Ak)))).pt (qC (CC 15 nN (Bg BE (Bg Hy (qv 3) (BG Ha (qv 6) (Cv Ma T.B.len CK (qA (qv 3) qN)))) Ak)) (qC (CC 12 nN (Ay T.x81.d G__law_term nofun (qA (qv 8) (qA (qv 15) (qA (BG Na (qv 2) Ak) (qA (qv 3) (qA (qv 4) qN))))))) (qO (CH (CG (qA (Bg Hy (HI (qA BX (qA BX qN))) (BG Na (qv 5) Ak)) (qA (qv 12) (qA (Ay T.x81.d G__law_term nofun (qA (qv 9) (qA (qv 15) (qA (BG Na (qv 2) Ak) (qA (qv 3) (qA (qv 4) qN)))))) qN)))))))) qE) (qC (CC 16 nN (Bg Hy (HI (X7 (.str (.str (.str (.str (.str .nil))))))) (BG Ha (qv 6) Ak))) (qC (CC 12 nN (Ay T.x81.d G__law_term nofun (qA (qv 8) (qA (qv 1) (qA (BG Na (qv 2) Ak) (qA (qv 3) (qA (qv 4) qN))))))) (qO (CH (CG (qA (qv 16) (qA (qv 12) (qA (Ay T.x81.d G__law_term nofun (qA (qv 9) (qA (qv 1) (qA (BG Na (qv 2) Ak) (qA (qv 3) (qA (qv 4) qN)))))) qN))))))))))))))))))))),?_⟩;cases n with
 |zero=>right;exact⟨⟨by decide,by decide⟩,bs,es,rfl,rfl,sp,⟨w1,w64⟩,m0,λt ht=>Dn.of (q t (ht.tm _))⟩
 |succ n=>
 cases hq n rfl;right;have R0:0<=m / 12:=by ext
 refine⟨⟨by decide,by decide⟩,CD (λc=>absurd c (by ext)) λ_=>CD (λc=>⟨bs,es,rfl,rfl,sp,⟨w1,w64⟩,R0,λt ht=>Dn.of (q t (ht.tm _))⟩) λc3=>?_⟩
 obtain⟨bv,hbv,b0,b1⟩:∃bv,FK [D.int 1,D.int 31,D.int 9973] ((n+1:Nat):Int)=some (.int bv)/\0<bv/\bv<1073741824:=by
  rcases(by omega:n=0\/n=1)with rfl|rfl
  .exact⟨31,rfl,by decide,by decide⟩
  .exact⟨9973,rfl,by decide,by decide⟩
 rw[hbv,BW];grind;refine⟨b0,?_⟩;obtain⟨kd,hkd⟩:∃kd,kd=m%12:=⟨_,rfl⟩;obtain⟨rs,hrs⟩:∃rs,rs=m / 12:=⟨_,rfl⟩;obtain⟨on,hon⟩:∃on,on=m / 12%bv:=⟨_,rfl⟩;have on0:0<=on:=by rw[hon];exact Ci _ (by ext)
 rw[<- hkd,<- hon,<- hrs];rw[<- hrs]at R0;have k12:3<=kd/\kd<12:=by ext
 refine⟨λτ M'=>M'=M/\∃tw,0<=tw/\τ=[some (.int m),some (.int wd),some (.int ((n+1:Nat):Int)),some (.lst (bs.map Fa)),some (.lst (es.map G9)),some (.int kd),some (.int rs),some (.int bv),some (.int on),some (.int tw),none,none,none,none,none,none,none],?_,?_⟩
 .grind;exact⟨⟨b0,b1⟩,_,SM R0 (by ext),rfl⟩
 intro τ M' hI';symm;obtain⟨e1',tw,tw0,e2'⟩:=hI';cutsat;subst e1' e2';grind;have en:D.int (((n+1:Nat):Int)-1)=D.int (n:Int):=by congr 1;ext
 have nn:n<=2:=by ext
 have lkb:∀b∈bs,(PL bs).lookup b.1=some b.2.1:=λb hb=>Yu (ws:=PL bs) (p:=(b.1,b.2.1)) (by unfold PL;rw[BA];exact sp.nb) (Ap.mpr ⟨b,hb,rfl⟩);have pp:=pk n;have bin:∀{o:FE} {t u:Tm} {x y:Int},P2 bs es x n t->P2 bs es y n u->(Tm.bin o t u).over [x,y]=some wd->P2 bs es wd (n+1) (.bin o t u):=λ{o t u x y} h1 h2 h=>⟨uj h1.w h2.w h,by have:=h1.d;have:=h2.d;simp only[Tm.deep];ext,by have:=h1.p;have:=h2.p;simp only[Tm.parts,pN];ext⟩;refine CD (λc=>⟨en,nn,bs,es,rfl,rfl,sp,ne,⟨w1,w64⟩,R0,λt ht=>Dn.of (q (.not t) ⟨iO ht.w rfl rfl,by have:=ht.d;simp only[Tm.deep];ext,by have:=ht.p;simp only[Tm.parts,pN];ext⟩)⟩) λc3'=>CD (λc=>⟨en,nn,bs,es,rfl,rfl,sp,ne,on0,λt ht=>⟨bs,es,rfl,rfl,sp,⟨w1,w64⟩,tw0,λt1 h1=>⟨⟨by decide,by decide⟩,bs,es,rfl,rfl,sp,⟨w1,w64⟩,by ext,λt2 h2=>Dn.of (q (.pick t t1 t2) ⟨ζ ht.w h1.1 h2.1,by have:=ht.d;have:=h1.2.1;have:=h2.2.1;simp only[Tm.deep];ext,by have:=ht.p;have:=h1.2.2;have:=h2.2.2;simp only[Tm.parts,pN];ext⟩)⟩⟩⟩) λc4=>?_;refine⟨λτ M2=>M2=M'/\τ=[some (.int m),some (.int wd),some (.int ((n+1:Nat):Int)),some (.lst (bs.map Fa)),some (.lst (es.map G9)),some (.int kd),some (.int rs),some (.int bv),some (.int on),some (.int tw),none,none,none,none,none,none,none],?_,?_⟩
 .grind;refine CD (λ_=>CD (λc=>?_) λ_=>trivial) λ_=>trivial;have r0:=Ci rs (by omega:wd-1≠0);have r1:=BP rs (by omega:0<wd-1);refine⟨by ext,en,nn,bs,es,rfl,rfl,sp,ne,⟨by ext,by ext⟩,on0,λt ht=>⟨en,nn,bs,es,rfl,rfl,sp,ne,⟨by ext,by ext⟩,tw0,λt1 h1=>Dn.of (q (.bin .join t t1) (bin ht h1 ?_))⟩⟩;simp only[Tm.over,XS,XR,XQ,qK,qL,qM];rw[if_pos (by ext)];congr 1
  ext
 rintro τ M2 ⟨rfl,rfl⟩;refine⟨λτ M'=>M'=M2/\τ=[some (.int m),some (.int wd),some (.int ((n+1:Nat):Int)),some (.lst (bs.map Fa)),some (.lst (es.map G9)),some (.int kd),some (.int rs),some (.int bv),some (.int on),some (.int tw),none,none,none,some (.lst ((bs.filter λb=>decide (wd<=b.2.1)).map Fa)),none,none,none],?_,?_⟩
 .grind;have lb:=sp.b.1;refine ET.filt (ks:=bs) (g:=Fa) (f:=Fa) (pr:=λb=>decide (wd<=b.2.1)) (GK (by ext)) trivial (λd hd R r=>?_) (λd hd R r=>?_) ?_
  .simp only[Fa];walk_at "cap";exact r
  .walk_at "cap";exact r
  exact⟨rfl,rfl⟩
 rintro τ M3 ⟨rfl,rfl⟩;refine⟨λτ M'=>M'=M3/\τ=[some (.int m),some (.int wd),some (.int ((n+1:Nat):Int)),some (.lst (bs.map Fa)),some (.lst (es.map G9)),some (.int kd),some (.int rs),some (.int bv),some (.int on),some (.int tw),none,none,none,some (.lst ((bs.filter λb=>decide (wd<=b.2.1)).map Fa)),none,none,none],?_,?_⟩
 .grind;refine CD (λ_=>CD (λc=>?_) λ_=>trivial) λ_=>trivial;have fne:bs.filter (λb=>decide (wd<=b.2.1))≠[]:=λe=>by rw[e]at c;cases c
  have fp:=O0.mpr fne;refine⟨by ext,?_⟩;obtain⟨d,hd,md⟩:=aC (xs:=(bs.filter λb=>decide (wd<=b.2.1)).map Fa) (i:=on%((bs.filter λb=>decide (wd<=b.2.1)).length:Int)) (Ci _ (by ext)) (by rw[Ab];exact BP _ (by ext));rw[hd,BW];obtain⟨b,mb,rfl⟩:=Ap.mp md;obtain⟨mb,eb⟩:=Bw.mp mb;have eb:=of_decide_eq_true eb;have lk:=lkb b mb;have p0:=Ci tw (by omega:b.2.1-wd+1≠0);have p1:=BP tw (by omega:0<b.2.1-wd+1);have big:4<=pN (n+1):=by simp only[pN];ext
  have ov:∀u,(Tm.part u (tw%(b.2.1-wd+1)) wd).over [b.2.1]=some wd:=λu=>by simp only[Tm.over,XS,XR,XQ,qK,qL,qM];rw[if_pos (by ext)]
  rcases(by omega:rs%2=0\/rs%2=1)with h|h<;>rw[h]
  .rw[show FK [D.str "box",D.str "late"] (0:Int)=some (D.str "box")from rfl,BW];simp only[Fa];grind;exact⟨by ext,Dn.of (q (.part (.box b.1) (tw%(b.2.1-wd+1)) wd) ⟨iO (.box lk) rfl (ov _),by simp only[Tm.deep];ext,by simp only[Tm.parts];ext⟩)⟩
  .rw[show FK [D.str "box",D.str "late"] (1:Int)=some (D.str "late")from rfl,BW];simp only[Fa];grind;exact⟨by ext,Dn.of (q (.part (.late b.1) (tw%(b.2.1-wd+1)) wd) ⟨iO (.late lk) rfl (ov _),by simp only[Tm.deep];ext,by simp only[Tm.parts];ext⟩)⟩
 rintro τ M4 ⟨rfl,rfl⟩;refine⟨λτ M'=>M'=M4/\τ=[some (.int m),some (.int wd),some (.int ((n+1:Nat):Int)),some (.lst (bs.map Fa)),some (.lst (es.map G9)),some (.int kd),some (.int rs),some (.int bv),some (.int on),some (.int tw),none,none,none,some (.lst ((bs.filter λb=>decide (wd<=b.2.1)).map Fa)),none,none,none],?_,?_⟩
 .grind;refine CD (λc78=>CD (λc1=>?_) λ_=>trivial) λ_=>trivial;have bp:=O0.mpr ne;refine⟨by ext,?_⟩;obtain⟨d,hd,md⟩:=aC (xs:=bs.map Fa) (i:=rs%(bs.length:Int)) (Ci _ (by ext)) (by rw[Ab];exact BP _ (by ext));rw[hd,BW];obtain⟨b,mb,rfl⟩:=Ap.mp md;obtain⟨_,b1,b64⟩:=sp.b.2 b mb;simp only[Fa];grind;refine⟨en,nn,bs,es,rfl,rfl,sp,ne,⟨b1,b64⟩,on0,λt ht=>?_⟩;rcases c78 with h|h
  .rw[show kd-7=0 by ext,show FK [D.str "less",D.str "same"] (0:Int)=some (D.str "less")from rfl,BW];exact⟨en,nn,bs,es,rfl,rfl,sp,ne,⟨b1,b64⟩,tw0,λt1 h1=>Dn.of (q (.bin .less t t1) (bin ht h1 (by simp[Tm.over,c1])))⟩
  .rw[show kd-7=1 by ext,show FK [D.str "less",D.str "same"] (1:Int)=some (D.str "same")from rfl,BW];exact⟨en,nn,bs,es,rfl,rfl,sp,ne,⟨b1,b64⟩,tw0,λt1 h1=>Dn.of (q (.bin .same t t1) (bin ht h1 (by simp[Tm.over,c1])))⟩
 rintro τ M5 ⟨rfl,rfl⟩;grind
 obtain⟨o,ho,oj⟩:∃o,FK [D.str "and",D.str "or",D.str "xor",D.str "plus",D.str "minus"] (rs%5)=some (.str o.nm)/\∀t u,(Tm.bin o t u).over [wd,wd]=some wd:=by
  rcases(by omega:rs%5=0\/rs%5=1\/rs%5=2\/rs%5=3\/rs%5=4)with h|h|h|h|h<;>rw[h]
  .exact⟨.and,rfl,λt u=>by simp[Tm.over]⟩
  .exact⟨.or,rfl,λt u=>by simp[Tm.over]⟩
  .exact⟨.xor,rfl,λt u=>by simp[Tm.over]⟩
  .exact⟨.plus,rfl,λt u=>by simp[Tm.over]⟩
  .exact⟨.minus,rfl,λt u=>by simp[Tm.over]⟩
 rw[ho,BW];exact⟨en,nn,bs,es,rfl,rfl,sp,ne,⟨w1,w64⟩,on0,λt ht=>⟨en,nn,bs,es,rfl,rfl,sp,ne,⟨w1,w64⟩,tw0,λt1 h1=>Dn.of (q (.bin o t t1) (bin ht h1 (oj t t1)))⟩⟩
theorem lB (T:Tv P w K mg base):∀n,Od T T.x81 (n+2) (Wh n)
 |0=>wN T (V9 λ_ _ _ h=>h) λm h=>by cases h
 |n+1=>wN T (lB T n) λm h=>by cases h;rfl
theorem ZV {j:Nat}{t:GU}{E:J2}{τ:GA}{M:Mp}{p:Ao}{xs:List D}(h:τ[j]? = some (some (.ref p)))(hM:M p=some (.lst xs)):Qn j t E τ M=t E (τ.set j (some (.lst xs))) (JL M p):=by
 unfold Qn;rw[h,Pn,BW,QR,hM]
structure bP (bs:List (Str×Int×Int))(es:List (Str×Int))(k:Nat)(wr:List (Str×Tm)):Prop where
 s:List.Sublist (wr.map (·.1)) ((bs.take k).map (·.1))
 t:∀u∈wr,∃b∈bs,u.1=b.1/\P2 bs es b.2.1 2 u.2
def bc:DW:=λds M Q=>IZ ds λx1 x2 x3=>E4 x1 λm=>∃(bs:List (Str×Int×Int)) (es:List (Str×Int)),x2=.lst (bs.map Fa)/\x3=.lst (es.map G9)/\Sp bs es/\bs≠[]/\0<=m/\∀wr:List (Str×Tm),wr.length<=bs.length->(wr.map (·.1)).Nodup->(∀u∈wr,∃b∈bs,u.1=b.1/\P2 bs es b.2.1 2 u.2)->Q (.lst (wr.map Kv)) M
theorem Zhh:Od T T.x82 5 bc:=by
 refine Co.p3 T.x82.d.F ["number", "boxes", "doors", "which", "last_first", "writes", "row"] λx1 x2 x3 M Q hr nN h1=>?_;symm;obtain⟨m,e1',bs,es,e2',e3',sp,ne,m0,q⟩:=CY h1;cutsat;subst e1' e2' e3';refine⟨_,(qC (CC 3 nN (BG Ha (qv 0) Ak)) (qC (CC 4 nN (BG Ha (BG KY (qv 0) Ak) Ak)) (qC (CC 0 nN (BG KY (qv 0) Ak)) (EW (CC 5 nN (JG qN)) (EW (KZ AK rfl (J0 (qv 1)) (Nb (i:=6) nN rfl (B4 rfl)) (EW (ED (AY CS (BG Ha (qv 3) Ak) Ak) (qO (Fb (Kf AN Bl Bk QZ (qv 5) (qA (CG (qA (Bg BE (qv 6) Ak) (qA (Ay T.x81.d (lB T 2) nofun (qA (BG Ha (qv 0) (BG Sm Ak Ak)) (qA (Bg BE (qv 6) Ak) (qA Ak (qA (qv 1) (qA (qv 2) qN)))))) qN))) qN)))) qE) (qC (CC 3 nN (BG KY (qv 3) Ak)) (qO (CC 0 nN (BG KY (qv 0) (BG Sm Ak Ak))))))) (EW (ED (AY CS (qv 4) Ak) (qO (Fb (Ul AN PySem.F.slot_list_reverse PySem.F.type_list_reverse Zov (qv 5)))) qE) (V3 5 (qO (CH (qv 5)))))))))),?_⟩;right;have lb:=sp.b.1;refine⟨⟨by decide,by decide⟩,⟨by decide,by decide⟩,?_⟩;refine⟨λτ M'=>∃p,M p=none/\M'=put M p (.lst [])/\τ=[some (.int (m / 16)),some (.lst (bs.map Fa)),some (.lst (es.map G9)),some (.int (m%8)),some (.int (m / 8%2)),some (.ref p),none],?_,?_⟩
 .grind;exact λp hp=>⟨p,hp,rfl,rfl⟩
 intro τ M1 hI';symm;obtain⟨p,hp,e1',e2'⟩:=hI';cutsat;subst e1' e2';refine⟨λτ M'=>∃(wr:List (Str×Tm)) (v0 v3 v6:Option D),M'=put M p (.lst (wr.map Kv))/\τ=[v0,some (.lst (bs.map Fa)),some (.lst (es.map G9)),v3,some (.int (m / 8%2)),some (.ref p),v6]/\bP bs es bs.length wr,?_,?_⟩
 .grind;refine⟨λk τ M'=>∃(wr:List (Str×Tm)) (m' w':Int) (v6:Option D),M'=put M p (.lst (wr.map Kv))/\τ=[some (.int m'),some (.lst (bs.map Fa)),some (.lst (es.map G9)),some (.int w'),some (.int (m / 8%2)),some (.ref p),v6]/\0<=m'/\bP bs es k wr,⟨[],m / 16,m%8,none,rfl,rfl,by ext,⟨by simp,λu hu=>nomatch hu⟩⟩,λ_ _ _ _=>trivial,?_,?_⟩
  .intro k d τ M' hd hI';symm;obtain⟨wr,m',w',v6,e1',e2',m0',ws⟩:=hI';cutsat;subst e1' e2';obtain⟨b,hb,rfl⟩:=Mc hd;have mb:=Aw hb;obtain⟨_,b1,b64⟩:=sp.b.2 b mb;have hk:=(Ai.mp hb).1;have et:(bs.take (k+1)).map (·.1)=(bs.take k).map (·.1)++[b.1]:=by rw[Ba,hb,AI];rfl
   have lw:wr.length<=k:=by
    have:=ws.s.length_le;rw[Ab,Ab,AZ]at this;ext
   have keep:bP bs es (k+1) wr:=⟨by rw[et];exact ws.s.trans (List.sublist_append_left ..),ws.t⟩;refine⟨λτ M''=>∃wr':List (Str×Tm),M''=put M p (.lst (wr'.map Kv))/\τ=[some (.int m'),some (.lst (bs.map Fa)),some (.lst (es.map G9)),some (.int w'),some (.int (m / 8%2)),some (.ref p),some (Fa b)]/\bP bs es (k+1) wr',?_,?_⟩
   .simp only[Fa];grind;refine CD (λc=>?_) λc=>⟨wr,rfl,keep⟩;refine⟨⟨by decide,by decide,by decide⟩,bs,es,rfl,rfl,sp,ne,⟨b1,b64⟩,by ext,λt ht=>⟨BS (by ext),wr++[(b.1,t)],by rw[AI];rfl,⟨?_,λu hu=>?_⟩⟩⟩
    .rw[et,AI];exact ws.s.append (Zf _)
    .rcases AT.mp hu with hu|hu
     .exact ws.t u hu
     .rw[AL.mp hu];exact⟨b,mb,rfl,ht⟩
   .intro τ M'' hI';symm;obtain⟨wr',e1',e2',ws'⟩:=hI';cutsat;subst e1' e2';grind;exact⟨⟨by decide,by decide⟩,⟨by decide,by decide,by decide⟩,⟨by decide,by decide⟩,wr',_,_,_,rfl,rfl,by ext,ws'⟩
  .intro τ M' hI';symm;obtain⟨wr,m',w',v6,e1',e2',m0',ws⟩:=hI';cutsat;subst e1' e2';rw[Ab]at ws;exact⟨wr,_,_,v6,rfl,rfl,ws⟩
 intro τ M2 hI';symm;obtain⟨wr,v0,v3,v6,e1',e2',ws⟩:=hI';cutsat;subst e1' e2';have sub:=ws.s;rw[Be]at sub;have nd:=Gn sub sp.nb
 have lw:wr.length<=bs.length:=by
  have:=sub.length_le;rw[Ab,Ab]at this;exact this
 refine⟨λτ M'=>∃(wr':List (Str×Tm)),M'=put M p (.lst (wr'.map Kv))/\τ=[v0,some (.lst (bs.map Fa)),some (.lst (es.map G9)),v3,some (.int (m / 8%2)),some (.ref p),v6]/\(wr'=wr\/wr'=wr.reverse),?_,?_⟩
 .grind;refine CD (λc=>?_) λc=>⟨wr,rfl,.inl rfl⟩;unfold Xu;rw[QR];refine⟨rfl,?_⟩;rw[Dc];exact⟨wr.reverse,by rw[QX,Ri],.inr rfl⟩
 intro τ M3 hI';symm;obtain⟨wr',e1',e2',hw⟩:=hI';cutsat;subst e1' e2';rw[ZV rfl Dc,TB hp];simp only[Ca,CI];grind;rcases hw with rfl|rfl
 .exact Dn.of (q _ lw nd ws.t)
 .refine Dn.of (q _ (by rw[OZ];exact lw) ?_ λu hu=>ws.t u (Rc.mp hu));rw[Ri];exact List.pairwise_reverse.mpr (nd.imp λh e=>h e.symm)
theorem P2.two (h:P2 bs es wd n t)(hn:n<=2):P2 bs es wd 2 t:=by
 have h1:=h.d;have h2:=h.p;rcases(by omega:n=0\/n=1\/n=2)with rfl|rfl|rfl
 .exact⟨h.w,by ext,A3 h2 (by decide)⟩
 .exact⟨h.w,by ext,A3 h2 (by decide)⟩
 .exact h
def bC:DW:=λds M Q=>XH ds λx1 x2 x3 x4 x5=>E4 x1 λm=>E4 x2 λwd=>∃n:Nat,x3=.int n/\n<=2/\∃(bs:List (Str×Int×Int)) (es:List (Str×Int)),x4=.lst (bs.map Fa)/\x5=.lst (es.map G9)/\Sp bs es/\bs≠[]/\(1<=wd/\wd<=64)/\0<=m/\∀t,P2 bs es wd 2 t->Q t.D M
theorem υ:Od T T.x81 4 bC:=by
 have key:∀ds M Q,bC ds M Q->∃n,n<=2/\Wh n ds M Q:=λds M Q h=>by
  symm;obtain⟨x1,x2,x3,x4,x5,e1',h1⟩:=Up h;cutsat;subst e1';obtain⟨m,rfl,h2⟩:=CY h1;symm;obtain⟨wd,e1',n,e2',n2,bs,es,h3,h4,h5,h6,h7,h8,q⟩:=CY h2;cutsat;subst e1' e2';exact⟨n,n2,rfl,n2,bs,es,h3,h4,h5,h6,h7,h8,λt ht=>q t (ht.two n2)⟩
 have F:∀n,n<=2->Od T T.x81 4 (Wh n):=λn hn=>(lB T n).mono (by ext);refine⟨λvs H Q E ⟨Z,ds,M,Q2,hr,a,h,k⟩=>?_,λA outer s H args us vs Q E e1 e2 e3 e4 ⟨Z,ds,M,Q2,hr,a,h,k⟩=>?_⟩
 .obtain⟨n,hn,h⟩:=key ds M Q2 h;exact(F n hn).len vs H Q E ⟨Z,ds,M,Q2,hr,a,h,k⟩
 .obtain⟨n,hn,h⟩:=key ds M Q2 h;exact(F n hn).run A outer s H args us vs Q E e1 e2 e3 e4 ⟨Z,ds,M,Q2,hr,a,h,k⟩
structure WkX (wk:Wk):Prop where
 ok:wk.Ok
 nb:1<=wk.bs.length/\wk.bs.length<=3
 nd:wk.ds.length<=2
def mC (ms:List Int)(nm:Int)(bs:List (Str×Int×Int)):Prop:=∀(i:Nat) b m,bs[i]? = some b->ms[i]? = some m->K5 nm i b.1/\(1<=b.2.1/\b.2.1<=m/\m<=64)/\0<=b.2.2/\b.2.2<2^b.2.1.toNat
def lZ (ms:List Int)(nm:Int)(es:List (Str×Int)):Prop:=∀(i:Nat) d m,es[i]? = some d->ms[3+i]? = some m->K5 nm (3+i) d.1/\1<=d.2/\d.2<=m/\m<=64
noncomputable def Gg (r:Str×Tm×List (Str×Tm)):D:=.tup [.str r.1,r.2.1.D,.lst (r.2.2.map Kv)]
def fh:DW:=λds M Q=>Te ds λx1 x2 x3 x4=>∃(ns ms:List Int),x1=.lst (ns.map D.int)/\x2=.tup (ms.map D.int)/\(∃md,x3=.int md/\0<=md/\md<=2)/\x4=.int 4/\(ms.length=5/\∀m∈ms,1<=m/\m<=64)/\∀wk,WkX wk->Q (.tup [.lst (wk.bs.map Fa),.lst (wk.ds.map G9),.lst (wk.rs.map Gg)]) M
def gr (bs:List (Str×Int×Int))(es:List (Str×Int))(nm:Int)(rs:List (Str×Tm×List (Str×Tm))):Prop:=∀(i:Nat) r,rs[i]? = some r->K5 nm (5+i) r.1/\Q0 (PL bs) es r.2.1 r.2.2
theorem hU {α:Type}{nm:Int}(f:α->Str)(c:Nat){xs:List α}(hl:c+xs.length<=9)(h:∀(i:Nat) x,xs[i]? = some x->K5 nm ((c+i:Nat):Int) (f x)):(xs.map f).Nodup:=by
 unfold Ez;rw[List.pairwise_iff_getElem];intro i j hi hj hij e;rw[Ab]at hi hj;have g1:=h i _ (Ag hi);have g2:=h j _ (Ag hj);rw[Jy,Jy]at e;rw[<- e]at g2;have:=K5.inj g1 g2 (by ext) (by ext);ext
theorem Sp.take {bs:List (Str×Int×Int)}{es:List (Str×Int)}(h:Sp bs es)(i j:Nat):Sp (bs.take i) (es.take j):=by
 refine⟨⟨by rw[AZ];have:=h.b.1;ext,λb hb=>h.b.2 b (Gm hb)⟩,⟨by rw[AZ];have:=h.d.1;ext,λb hb=>h.d.2 b (Gm hb)⟩,?_,?_⟩
 .exact Gn ((GB i bs).map _) h.nb
 .exact Gn ((GB j es).map _) h.nd
theorem ln {ms:List Int}{nm:Int}{bs:List (Str×Int×Int)}{es:List (Str×Int)}(m5:ms.length=5)(hb:mC ms nm bs)(he:lZ ms nm es)(b3:bs.length<=3)(e2:es.length<=2):Sp bs es:=by
 have gb:∀(i:Nat) b,bs[i]? = some b->∃m,ms[i]? = some m:=λi b h=>⟨_,Ag (by have:=(Ai.mp h).1;ext)⟩;have ge:∀(i:Nat) b,es[i]? = some b->∃m,ms[3+i]? = some m:=λi b h=>⟨_,Ag (by have:=(Ai.mp h).1;ext)⟩;refine⟨⟨by ext,λb mb=>?_⟩,⟨by ext,λd md=>?_⟩,hU (α:=Str×Int×Int) (nm:=nm) (·.1) 0 (by ext) λi x hx=>?_,hU (α:=Str×Int) (nm:=nm) (·.1) 3 (by ext) λi x hx=>?_⟩
 .obtain⟨i,hi⟩:=Bp.mp mb;obtain⟨m,hm⟩:=gb i b hi;obtain⟨h1,h2,_⟩:=hb i b m hi hm;exact⟨h1.ok,by ext,by ext⟩
 .obtain⟨i,hi⟩:=Bp.mp md;obtain⟨m,hm⟩:=ge i d hi;obtain⟨h1,h2,h3,h4⟩:=he i d m hi hm;exact⟨h1.ok,by ext,by ext⟩
 .obtain⟨m,hm⟩:=gb i x hx;have:=(hb i x m hx hm).1;rw[E7];exact this
 .obtain⟨m,hm⟩:=ge i x hx;have:=(he i x m hx hm).1;rw[show((3+i:Nat):Int)=3+(i:Int) by ext];exact this
theorem Wd.mono2 {bs bs' es es':List (Str×Int)}{t:Tm}{n:Int}(hb:∀z n,bs.lookup z=some n->bs'.lookup z=some n)(he:∀z n,es.lookup z=some n->es'.lookup z=some n)(h:Wd bs es t n):Wd bs' es' t n:=by
 induction h with
 |num a=>exact .num a
 |box a=>exact .box (hb _ _ a)
 |late a=>exact .late (hb _ _ a)
 |door a=>exact .door (he _ _ a)
 |over _ ho ih=>exact .over ih ho
theorem jC:∀k (ws:List (Str×Int)) (z:Str) (n:Int),(ws.take k).lookup z=some n->ws.lookup z=some n
 |0,_,_,_,h=>by rw[LH]at h;cases h
 |k+1,[],_,_,h=>by cases h
 |k+1,(y,a)::ws,z,n,h=>by
  rw[OY,BK]at h;rw[BK];cases e:z == y with
  |true=>rw[e]at h;exact h
  |false=>rw[e]at h;exact jC k ws z n h
attribute[local method_specs_simp]bC
attribute[local method_specs_simp ↓]fc bc zE bC fh
theorem Zhi:Od T T.x83 6 fh:=by
 refine Co.p4 T.x83.d.F ["script", "mods", "most_doors", "most_rules", "head", "sizes", "firsts", "naming", "boxes", "k", "width", "doors", "rules", "many", "number", "guard", "writes"] λx1 x2 x3 x4 M Q hr nN h=>?_;symm;obtain⟨ns,ms,e1',e2',⟨md,e3',md0,md2⟩,e4',⟨m5,hms⟩,q⟩:=h;cutsat;subst e1' e2' e3' e4';refine⟨_,(qC (CC 4 nN (BG Ha (Ay T.x77.d (UV T) nofun (qA (qv 0) (qA Ak qN))) (BG Sm Ak Ak))) (qC (CC 5 nN (BG Ha (Ay T.x77.d (UV T) nofun (qA (qv 0) (qA Ak qN))) (BG Sm Ak Ak))) (qC (CC 6 nN (BG Ha (Ay T.x77.d (UV T) nofun (qA (qv 0) (qA Ak qN))) (BG Sm Ak Ak))) (EW (CC 7 nN (BG Ha (Ay T.x77.d (UV T) nofun (qA (qv 0) (qA Ak qN))) (BG Sm Ak Ak))) (qC (CC 8 nN (JG qN)) (EW (KZ AK rfl (aV T.B.range (qA (BG Hu Ak (BG Ha (qv 4) Ak)) qN)) (Nb (i:=9) nN rfl (B4 rfl)) (qC (CC 10 nN (BG Hu Ak (BG Ha (qv 5) (Bg BE (qv 1) (qv 9))))) (qC (Fb (Kf AN Bl Bk QZ (qv 8) (qA (CG (qA (Ay T.x79.d (kY T) nofun (qA (qv 7) (qA (qv 9) qN))) (qA (qv 10) (qA (BG Ha (qv 6) (BG VS Ak (qv 10))) qN)))) qN))) (qC (CC 5 nN (BG KY (qv 5) Ak)) (qO (CC 6 nN (BG KY (qv 6) Ak))))))) (V3 8 (qC (CC 11 nN (JG qN)) (EW (KZ AK rfl (aV T.B.range (qA (BG Ha (BG KY (qv 4) Ak) (BG Hu (qv 2) Ak)) qN)) (Nb (i:=9) nN rfl (B4 rfl)) (qC (Fb (Kf AN Bl Bk QZ (qv 11) (qA (CG (qA (Ay T.x79.d (kY T) nofun (qA (qv 7) (qA (BG Hu Ak (qv 9)) qN))) (qA (BG Hu Ak (BG Ha (qv 5) (Bg BE (qv 1) (BG Hu Ak (qv 9))))) qN))) qN))) (qO (CC 5 nN (BG KY (qv 5) Ak))))) (V3 11 (qC (CC 12 nN (JG qN)) (EW (CC 13 nN (BG Hu Ak (BG Ha (BG KY (qv 4) Ak) (qv 3)))) (EW (KZ AK rfl (aV T.B.range (qA (qv 13) qN)) (Nb (i:=9) nN rfl (B4 rfl)) (EW (CC 14 nN (BG Ha (Ay T.x77.d (UV T) nofun (qA (qv 0) (qA (BG Hu Ak (BG Uz Ak (qv 9))) qN))) (BG Sm Ak Ak))) (EW (CC 15 nN (Ay T.x81.d (υ T) nofun (qA (qv 14) (qA Ak (qA (Bg Hy (HI (X7 (.int (.int (.int (.int .nil)))))) (BG Na (qv 13) Ak)) (qA (II Yj (qv 8) V1 (Tw Ak)) (qA (II Yj (qv 11) V1 (Tw Ak)) qN))))))) (EW (CC 16 nN (Ay T.x82.d (Zhh T) nofun (qA (BG Ha (Ay T.x77.d (UV T) nofun (qA (qv 0) (qA (BG Hu Ak (BG Uz Ak (qv 9))) qN))) (BG Sm Ak Ak)) (qA (qv 8) (qA (qv 11) qN))))) (qO (Fb (Kf AN Bl Bk QZ (qv 12) (qA (CG (qA (Ay T.x79.d (kY T) nofun (qA (qv 7) (qA (BG Hu Ak (qv 9)) qN))) (qA (qv 15) (qA (qv 16) qN)))) qN)))))))) (V3 12 (qO (CH (CG (qA (qv 8) (qA (qv 11) (qA (qv 12) qN)))))))))))))))))))),?_⟩;right;intro z0;refine⟨⟨by decide,by decide,by decide⟩,λz1=>⟨⟨by decide,by decide,by decide⟩,λz2=>⟨⟨by decide,by decide,by decide⟩,?_⟩⟩⟩;obtain⟨hd,ehd,hd0⟩:∃hd:Int,hd=z0%1000000/\0<=hd:=⟨_,rfl,by ext⟩;obtain⟨sz,esz,sz0⟩:∃sz:Int,sz=z1%1000000000000/\0<=sz:=⟨_,rfl,by ext⟩;obtain⟨fr,efr,fr0⟩:∃fr:Int,fr=z2%10000000000000000000000000000000000000000/\0<=fr:=⟨_,rfl,by ext⟩;rw[<- ehd,<- esz,<- efr];refine⟨λτ M'=>M'=M/\∃nm:Int,(0<=nm/\nm<10^9)/\τ=[some (.lst (ns.map D.int)),some (.tup (ms.map D.int)),some (.int md),some (.int 4),some (.int hd),some (.int sz),some (.int fr),some (.int nm),none,none,none,none,none,none,none,none,none],?_,?_⟩
 .grind;exact λz=>⟨⟨by decide,by decide,by decide⟩,_,⟨by ext,by ext⟩,rfl⟩
 intro τ M1 hI';symm;obtain⟨e1',nm,nb,e2'⟩:=hI';cutsat;subst e1' e2';grind;intro p hp;refine⟨λτ M'=>∃(bs:List (Str×Int×Int)) (sz fr:Int) (v9 v10:Option D),M'=put M1 p (.lst (bs.map Fa))/\0<=sz/\(1<=bs.length/\bs.length<=3)/\mC ms nm bs/\τ=[some (.lst (ns.map D.int)),some (.tup (ms.map D.int)),some (.int md),some (.int 4),some (.int hd),some (.int sz),some (.int fr),some (.int nm),some (.ref p),v9,v10,none,none,none,none,none,none],?_,?_⟩
 .grind;refine⟨by ext,λk τ M'=>∃(bs:List (Str×Int×Int)) (sz fr:Int) (v9 v10:Option D),M'=put M1 p (.lst (bs.map Fa))/\0<=sz/\0<=fr/\bs.length=k/\mC ms nm bs/\τ=[some (.lst (ns.map D.int)),some (.tup (ms.map D.int)),some (.int md),some (.int 4),some (.int hd),some (.int sz),some (.int fr),some (.int nm),some (.ref p),v9,v10,none,none,none,none,none,none],⟨[],sz,fr,none,none,rfl,sz0,fr0,rfl,(λi b m h=>by simp at h),rfl⟩,λ_ _ _ _=>trivial,?_,?_⟩
  .intro k d τ M' hd' hI';symm;obtain⟨bs,sz,fr,v9,v10,e1',sz0,fr0,hl,hb,e2'⟩:=hI';cutsat;subst e1' e2';obtain⟨hk,rfl⟩:=Yi hd';have hk3:k<3:=by ext
   obtain⟨mk,hmk⟩:∃mk,ms[k]? = some mk:=⟨_,Ag (by ext)⟩;obtain⟨mR,mk64⟩:=hms mk (Aw hmk);grind;rw[WI,Oj (show(ms.map D.int)[k]? = some (.int mk) by rw[AH,hmk];rfl),BW];grind;have w0:=Ci sz (by omega:mk≠0);have w1:=BP sz (by omega:0<mk);have hp0:=Td (1+sz%mk).toNat
   refine⟨by ext,⟨nb.1,nb.2,by ext,by ext⟩,λz hz=>⟨⟨by ext,by ext,by decide⟩,by ext,BS (by ext),⟨by decide,by decide⟩,⟨by decide,by decide⟩,bs++[(z,1+sz%mk,fr%(1*2^(1+sz%mk).toNat))],_,_,_,_,by rw[AI];rfl,by ext,by ext,by rw[As,hl];rfl,λi b m hi hm=>?_,rfl⟩⟩;rcases Kb i bs.length with h|h|h
   .rw[C1 h]at hi;exact hb i b m hi hm
   .subst h;rw[Cj (AJ _)]at hi;simp at hi;rw[<- hl]at hmk hz;rw[hmk]at hm;cases hm;rw[<- hi]
    exact ⟨hz,⟨by show 1<=1+sz%mk;ext,by show 1+sz%mk<=mk;ext,by ext⟩,Ci _ (by ext),by
     exact BP _ hp0⟩
   .rw[Bz (by simp;ext)]at hi;cases hi
  .intro τ M' hI';symm;obtain⟨bs,sz,fr,v9,v10,e1',sz0,fr0,hl,hb,e2'⟩:=hI';cutsat;subst e1' e2';rw[V5]at hl;exact⟨bs,sz,fr,v9,v10,rfl,sz0,⟨by ext,by ext⟩,hb,rfl⟩
 intro τ M2 hI';symm;obtain⟨bs,sz,fr,v9,v10,e1',sz0,⟨b1,b3⟩,hb,e2'⟩:=hI';cutsat;subst e1' e2';rw[ZV rfl Dc,TB hp];simp only[Ca,CI];grind;intro p hp;refine⟨λτ M'=>∃(es:List (Str×Int)) (sz:Int) (v9:Option D),M'=put M1 p (.lst (es.map G9))/\es.length<=2/\lZ ms nm es/\τ=[some (.lst (ns.map D.int)),some (.tup (ms.map D.int)),some (.int md),some (.int 4),some (.int hd),some (.int sz),some (.int fr),some (.int nm),some (.lst (bs.map Fa)),v9,v10,some (.ref p),none,none,none,none,none],?_,?_⟩
 .grind;have q0:=Ci (hd / 3) (by omega:md+1≠0);have q1:=BP (hd / 3) (by omega:0<md+1);refine⟨⟨by decide,by decide⟩,by ext,⟨by ext,by ext⟩,λk τ M'=>∃(es:List (Str×Int)) (sz:Int) (v9:Option D),M'=put M1 p (.lst (es.map G9))/\0<=sz/\es.length=k/\lZ ms nm es/\τ=[some (.lst (ns.map D.int)),some (.tup (ms.map D.int)),some (.int md),some (.int 4),some (.int hd),some (.int sz),some (.int fr),some (.int nm),some (.lst (bs.map Fa)),v9,v10,some (.ref p),none,none,none,none,none],⟨[],sz,v9,rfl,sz0,rfl,(λi b m h=>by simp at h),rfl⟩,λ_ _ _ _=>trivial,?_,?_⟩
  .intro k d τ M' hd' hI';symm;obtain⟨es,sz,v9,e1',sz0,hl,he,e2'⟩:=hI';cutsat;subst e1' e2';obtain⟨hk,rfl⟩:=Yi hd';have hk2:k<2:=by ext
   obtain⟨mk,hmk⟩:∃mk,ms[3+k]? = some mk:=⟨_,Ag (by ext)⟩;obtain⟨mR,mk64⟩:=hms mk (Aw hmk);grind;rw[show(3:Int)+(0+(k:Int))=((3+k:Nat):Int) by ext,Oj (show(ms.map D.int)[3+k]? = some (.int mk) by rw[AH,hmk];rfl)];simp only[BW];grind;have w0:=Ci sz (by omega:mk≠0);have w1:=BP sz (by omega:0<mk);refine⟨⟨nb.1,nb.2,by ext,by ext⟩,λz hz=>⟨by ext,BS (by ext),⟨by decide,by decide⟩,es++[(z,1+sz%mk)],_,_,by rw[AI];rfl,by ext,by rw[As,hl];rfl,λi b m hi hm=>?_,rfl⟩⟩;rcases Kb i es.length with h|h|h
   .rw[C1 h]at hi;exact he i b m hi hm
   .subst h;rw[Cj (AJ _)]at hi;simp at hi;rw[<- hl]at hmk hz;rw[hmk]at hm;cases hm;rw[<- hi];exact⟨by rw[show(3:Int)+(es.length:Int)=((3+es.length:Nat):Int) by ext];exact hz,by show 1<=1+sz%mk;ext,by show 1+sz%mk<=mk;ext,by ext⟩
   .rw[Bz (by simp;ext)]at hi;cases hi
  .intro τ M' hI';symm;obtain⟨es,sz,v9,e1',sz0,hl,he,e2'⟩:=hI';cutsat;subst e1' e2';rw[V5]at hl;exact⟨es,sz,v9,rfl,by ext,he,rfl⟩
 intro τ M3 hI';symm;obtain⟨es,sz,v9,e1',e2,he,e2'⟩:=hI';cutsat;subst e1' e2';rw[ZV rfl Dc,TB hp];simp only[Ca,CI];grind;intro p hp;have sp:=ln m5 hb he b3 e2;have sp2:=sp.take 2 1;have bne:bs≠[]:=λe=>by rw[e]at b1;cases b1
 have bne2:bs.take 2≠[]:=λe=>by
  have:=congrArg Ey e;rw[AZ,FQ]at this;ext
 refine⟨λτ M'=>M'=put M1 p (.lst [])/\∃mn:Int,(1<=mn/\mn<=4)/\τ=[some (.lst (ns.map D.int)),some (.tup (ms.map D.int)),some (.int md),some (.int 4),some (.int hd),some (.int sz),some (.int fr),some (.int nm),some (.lst (bs.map Fa)),v9,v10,some (.lst (es.map G9)),some (.ref p),some (.int mn),none,none,none],?_,?_⟩
 .grind;exact⟨⟨by decide,by decide⟩,_,⟨by ext,by ext⟩,rfl⟩
 intro τ M4 hI';symm;obtain⟨e1',mn,⟨mn1,mn4⟩,e2'⟩:=hI';cutsat;subst e1' e2';refine⟨λτ M'=>∃(rs:List (Str×Tm×List (Str×Tm))) (v9 v14 v15 v16:Option D),M'=put M1 p (.lst (rs.map Gg))/\rs.length<=4/\gr bs es nm rs/\τ=[some (.lst (ns.map D.int)),some (.tup (ms.map D.int)),some (.int md),some (.int 4),some (.int hd),some (.int sz),some (.int fr),some (.int nm),some (.lst (bs.map Fa)),v9,v10,some (.lst (es.map G9)),some (.ref p),some (.int mn),v14,v15,v16],?_,?_⟩
 .grind;refine⟨by ext,λk τ M'=>∃(rs:List (Str×Tm×List (Str×Tm))) (v9 v14 v15 v16:Option D),M'=put M1 p (.lst (rs.map Gg))/\rs.length=k/\gr bs es nm rs/\τ=[some (.lst (ns.map D.int)),some (.tup (ms.map D.int)),some (.int md),some (.int 4),some (.int hd),some (.int sz),some (.int fr),some (.int nm),some (.lst (bs.map Fa)),v9,v10,some (.lst (es.map G9)),some (.ref p),some (.int mn),v14,v15,v16],⟨[],v9,none,none,none,rfl,rfl,(λi r h=>by simp at h),rfl⟩,λ_ _ _ _=>trivial,?_,?_⟩
  .intro k d τ M' hd' hI';symm;obtain⟨rs,v9,v14,v15,v16,e1',hl,hrs,e2'⟩:=hI';cutsat;subst e1' e2';obtain⟨hk,rfl⟩:=Yi hd';have hk4:k<4:=by ext
   refine⟨λτ M'=>M'=put M1 p (.lst (rs.map Gg))/\∃nu:Int,0<=nu/\τ=[some (.lst (ns.map D.int)),some (.tup (ms.map D.int)),some (.int md),some (.int 4),some (.int hd),some (.int sz),some (.int fr),some (.int nm),some (.lst (bs.map Fa)),some (.int (0+(k:Int))),v10,some (.lst (es.map G9)),some (.ref p),some (.int mn),some (.int nu),v15,v16],?_,?_⟩
   .grind;exact⟨Yh (by decide) (by ext),by ext,λz=>⟨⟨by decide,by decide,by decide⟩,_,by ext,rfl⟩⟩
   intro τ M5 hI';symm;obtain⟨e1',nu,nu0,e2'⟩:=hI';cutsat;subst e1' e2';refine⟨λτ M'=>M'=put M1 p (.lst (rs.map Gg))/\∃t:Tm,P2 (bs.take 2) (es.take 1) 1 2 t/\τ=[some (.lst (ns.map D.int)),some (.tup (ms.map D.int)),some (.int md),some (.int 4),some (.int hd),some (.int sz),some (.int fr),some (.int nm),some (.lst (bs.map Fa)),some (.int (0+(k:Int))),v10,some (.lst (es.map G9)),some (.ref p),some (.int mn),some (.int nu),some t.D,v16],?_,?_⟩
   .grind
    obtain⟨dp,hdp,dp2⟩:∃dp:Nat,FK [D.int 2,D.int 2,D.int 2,D.int 1] (mn-1)=some (.int dp)/\dp<=2:=by
     rcases(by omega:mn=1\/mn=2\/mn=3\/mn=4)with h|h|h|h<;>rw[h]
     .exact⟨2,rfl,by decide⟩
     .exact⟨2,rfl,by decide⟩
     .exact⟨2,rfl,by decide⟩
     .exact⟨1,rfl,by decide⟩
    rw[hdp,BW];exact⟨dp,rfl,dp2,bs.take 2,es.take 1,by rw[L3.cutD_toI _ (by decide),<- Lb];rfl,by rw[L3.cutD_toI _ (by decide),<- Lb];rfl,sp2,bne2,nu0,λt ht=>⟨t,ht,rfl⟩⟩
   intro τ M6 hI';symm;obtain⟨e1',t,ht,e2'⟩:=hI';cutsat;subst e1' e2';refine⟨λτ M'=>M'=put M1 p (.lst (rs.map Gg))/\∃wr:List (Str×Tm),Q0 (PL bs) es t wr/\τ=[some (.lst (ns.map D.int)),some (.tup (ms.map D.int)),some (.int md),some (.int 4),some (.int hd),some (.int sz),some (.int fr),some (.int nm),some (.lst (bs.map Fa)),some (.int (0+(k:Int))),v10,some (.lst (es.map G9)),some (.ref p),some (.int mn),some (.int nu),some t.D,some (.lst (wr.map Kv))],?_,?_⟩
   .grind;refine⟨Yh (by decide) (by ext),by ext,λz=>⟨⟨by decide,by decide,by decide⟩,bs,es,rfl,rfl,sp,bne,by ext,λwr hwl hwn hwt=>⟨wr,⟨?_,by ext,λu hu=>?_,hwn⟩,rfl⟩⟩⟩
    .refine⟨⟨A3 ht.p (by decide),A3 ht.d (by decide)⟩,Wd.mono2 (λz n h=>?_) (λz n h=>jC _ _ z n h) ht.w⟩;refine jC 2 _ z n ?_;unfold PL at h ⊢;rw[<- Lb];exact h
    .obtain⟨b,mb,e,hu'⟩:=hwt u hu;rw[e];exact⟨b.2.1,Yu (p:=(b.1,b.2.1)) (by unfold PL;rw[BA];exact sp.nb) (Ap.mpr ⟨b,mb,rfl⟩),⟨A3 hu'.p (by decide),A3 hu'.d (by decide)⟩,hu'.w⟩
   intro τ M7 hI';symm;obtain⟨e1',wr,hwr,e2'⟩:=hI';cutsat;subst e1' e2';grind;refine⟨⟨nb.1,nb.2,by ext,by ext⟩,λz hz=>⟨BS (by ext),rs++[(z,t,wr)],_,_,_,_,by rw[AI];rfl,by rw[As,hl];rfl,λi r hi=>?_,rfl⟩⟩;rcases Kb i rs.length with h|h|h
   .rw[C1 h]at hi;exact hrs i r hi
   .subst h;rw[Cj (AJ _)]at hi;simp at hi;rw[<- hi];rw[WI,<- hl]at hz;exact⟨hz,hwr⟩
   .rw[Bz (by simp;ext)]at hi;cases hi
  .intro τ M' hI';symm;obtain⟨rs,v9,v14,v15,v16,e1',hl,hrs,e2'⟩:=hI';cutsat;subst e1' e2';rw[V5]at hl;exact⟨rs,v9,v14,v15,v16,rfl,by ext,hrs,rfl⟩
 intro τ M8 hI';symm;obtain⟨rs,v9,v14,v15,v16,e1',r4,hrs,e2'⟩:=hI';cutsat;subst e1' e2';rw[ZV rfl Dc,TB hp];simp only[Ca,CI];grind;have gb:∀(i:Nat) b,bs[i]? = some b->∃m,ms[i]? = some m:=λi b h=>⟨_,Ag (by have:=(Ai.mp h).1;ext)⟩;have ge:∀(i:Nat) b,es[i]? = some b->∃m,ms[3+i]? = some m:=λi b h=>⟨_,Ag (by have:=(Ai.mp h).1;ext)⟩;refine Dn.of (q ⟨bs,es,rs⟩ ⟨⟨⟨sp.b.1,λb mb=>?_⟩,sp.d,⟨by show rs.length<=8;ext,λr mr=>?_⟩,?_⟩,⟨b1,b3⟩,e2⟩)
 .obtain⟨i,hi⟩:=Bp.mp mb;obtain⟨m,hm⟩:=gb i b hi;obtain⟨h1,h2,h3,h4⟩:=hb i b m hi hm;exact⟨h1.ok,by ext,by ext,h3,h4⟩
 .obtain⟨i,hi⟩:=Bp.mp mr;obtain⟨h1,h2⟩:=hrs i r hi;exact⟨h1.ok,h2⟩
 .show(bs.map (·.1)++es.map (·.1)++rs.map (·.1)).Nodup
  have ix:∀x∈bs.map (·.1),∃i:Nat,i<3/\K5 nm i x:=λx hx=>by
   obtain⟨b,mb,rfl⟩:=Ap.mp hx;obtain⟨i,hi⟩:=Bp.mp mb;obtain⟨m,hm⟩:=gb i b hi;exact⟨i,by have:=(Ai.mp hi).1;ext,(hb i b m hi hm).1⟩
  have iy:∀x∈es.map (·.1),∃i:Nat,(3<=i/\i<5)/\K5 nm i x:=λx hx=>by
   obtain⟨b,mb,rfl⟩:=Ap.mp hx;obtain⟨i,hi⟩:=Bp.mp mb;obtain⟨m,hm⟩:=ge i b hi;exact⟨3+i,by have:=(Ai.mp hi).1;ext,by have:=(he i b m hi hm).1;rw[show((3+i:Nat):Int)=3+(i:Int) by ext];exact this⟩
  have iz:∀x∈rs.map (·.1),∃i:Nat,(5<=i/\i<9)/\K5 nm i x:=λx hx=>by
   obtain⟨r,mr,rfl⟩:=Ap.mp hx;obtain⟨i,hi⟩:=Bp.mp mr;exact⟨5+i,by have:=(Ai.mp hi).1;ext,by have:=(hrs i r hi).1;rw[show((5+i:Nat):Int)=5+(i:Int) by ext];exact this⟩
  rw[Fq,Fq];refine⟨⟨sp.nb,sp.nd,λx hx y hy e=>?_⟩,hU (α:=Str×Tm×List (Str×Tm)) (nm:=nm) (·.1) 5 (by ext) (λi r hi=>by have:=(hrs i r hi).1;rw[show((5+i:Nat):Int)=5+(i:Int) by ext];exact this),λx hx y hy e=>?_⟩
  .subst e;obtain⟨i,hi,h1⟩:=ix x hx;obtain⟨j,hj,h2⟩:=iy x hy;have:=K5.inj h1 h2 (by ext) (by ext);ext
  .subst e;obtain⟨j,hj,h2⟩:=iz x hy;rcases AT.mp hx with hx|hx
   .obtain⟨i,hi,h1⟩:=ix x hx;have:=K5.inj h1 h2 (by ext) (by ext);ext
   .obtain⟨i,hi,h1⟩:=iy x hx;have:=K5.inj h1 h2 (by ext) (by ext);ext
theorem xt (h:Bh M (.ref p)=some xs):HH M (.ref p)=some xs:=h
theorem Zou (ls:List Str)(j:Nat):(ls.eraseIdx j).map D.str=(ls.map D.str).eraseIdx j:=by
 induction ls generalizing j with
 |nil=>rfl
 |cons x r ih=>cases j with
  |zero=>rfl
  |succ j=>simp[ih]
def ck:DW:=λds M Q=>FI ds λx y=>E4 x λn=>∃rs:List (Str×Tm×List (Str×Tm)),y=.lst (rs.map Gg)/\rs.length<=8/\0<=n/\∀zs:List Str,zs.Perm (rs.map (·.1))->Q (.lst (zs.map D.str)) M
attribute[local method_specs_simp ↓]ck
theorem Zim:Od T T.x84 1 ck:=by
 refine Co.p2 T.x84.d.F ["number", "rules", "left", "order", "at"] λx y M Q hr nN h1=>?_;symm;obtain⟨n,e1',rs,e2',hl,n0,q⟩:=CY h1;cutsat;subst e1' e2';clear h1;refine⟨_,(qC (xg (caps:=[]) (i:=2) nN rfl rfl ⟨rfl,by rfl,by rfl,by rfl,rfl,by rfl,by nofun⟩ rfl (J0 (qv 1)) (λ_ _ _ _ _ _=>(Bg BE (qv 0) Ak))) (qC (CC 3 nN (JG qN)) (EW (UQ AK (AY (VR (JK hr)) (qv 2) (HI qN)) (qC (CC 4 nN (BG Ha (qv 0) (Cv Ma T.B.len CK (qA (qv 2) qN)))) (qC (CC 0 nN (BG KY (qv 0) (Cv Ma T.B.len CK (qA (qv 2) qN)))) (qO (Fb (Kf AN Bl Bk QZ (qv 3) (qA (Kf AN Mu Mt me (qv 2) (qA (qv 4) qN)) qN))))))) (V3 3 (qO (CH (qv 3))))))),?_⟩;right;refine ET.of (f:=λr=>D.str r.1) (GK (by ext)) trivial (λr hr R h=>?_) ?_
 .simp only[Gg];walk_at "cap";exact h
 intro p hp p1 hp1;have ne:p≠p1:=λe=>by rw[e,Dc]at hp1;cases hp1
 have hM1:M p1=none:=by rw[Dy (Bm ne)]at hp1;exact hp1
 generalize D.lst (rs.map Gg)=Y;refine⟨λτ M'=>∃zs:List Str,(zs.Perm (rs.map (·.1))/\Sub M M'/\M' p1=some (.lst (zs.map D.str)))/\∃a b,τ=[a,some Y,some (.ref p),some (.ref p1),b],?_,?_⟩
 .refine⟨λk τ M'=>∃(n:Int) (ls os:List Str),(0<=n/\ls.length=k/\(os++ls).Perm (rs.map (·.1))/\Sub M M'/\M' p=some (.lst (ls.map D.str))/\M' p1=some (.lst (os.map D.str)))/\∃b,τ=[some (.int n),some Y,some (.ref p),some (.ref p1),b],⟨_,n,rs.map (·.1),[],⟨n0,rfl,by rw[FP],(Sub.put hp).puts hM1,by rw[Dy ne,Dc,BA];rfl,Dc⟩,none,rfl⟩,?_⟩;intro k τ M' hI';refine Aq λG' kk'=>?_;obtain⟨n,ls,os,⟨n0,lk,pm,sb,h1,h2⟩,b,e1'⟩:=hI';refine kk' ?_;clear kk';subst e1';have ll:=pm.length_eq;rw[As,Ab]at ll;grind;rw[gB h1,BW];refine CD (λc=>?_) λc=>?_
  .have lp:0<ls.length:=by
    cases ls with
    |nil=>cases c
    |cons x r=>exact Nz _
   have b0:=Ci n (show(ls.length:Int)≠0 by ext);have b1:=BP n (show(0:Int)<ls.length by ext);obtain⟨j,hj⟩:=Int.eq_ofNat_of_zero_le b0;have jl:j<ls.length:=by ext
   rw[xt (gB h1),BW,BW,h1,t3,Ab,hj];refine⟨by ext,⟨by ext,by ext⟩,IF h2,IF h1,j,.str ls[j],rfl,by ext,by rw[AH,Ag jl];rfl,?_⟩;rw[VU (by rw[Dy (Bm ne)];exact h2)];refine⟨BS (by rw[Ab];ext),ls.length-1,by ext,n / ls.length,ls.eraseIdx j,os++[ls[j]],⟨SM n0 (by ext),by rw[Gc jl],?_,(sb.puts hp).puts hM1,by rw[Dy ne,Dc,<- Zou],by rw[Dc,AI];rfl⟩,_,rfl⟩;rw[Bs];exact((Ky ls j jl).append_left os).trans pm
  .have e:ls=[]:=by
    cases ls with
    |nil=>rfl
    |cons x r=>exact absurd rfl c
   subst e;rw[CL]at pm;exact⟨os,⟨pm,sb,h2⟩,_,_,rfl⟩
 intro τ M' hI';symm;obtain⟨zs,⟨pm,sb,hz⟩,a,b,e1'⟩:=hI';cutsat;subst e1';rw[pM (p:=p1) rfl hz];simp only[Ca,CI];grind;refine QQ (λx o e=>?_) (q zs pm);have nx:x≠p1:=λc=>by rw[c,hM1]at e;cases e
 rw[I8 nx];exact sb x o e
noncomputable def Tm.items:Tm->List (L3.D×Option Tm)
 |.num w n=>[(.int w,none),(.int n,none)]
 |.box x | .late x | .door x=>[(.str x,none)]
 |.not t=>[(t.D,some t)]
 |.bin _ t u=>[(t.D,some t),(u.D,some u)]
 |.pick c t u=>[(c.D,some c),(t.D,some t),(u.D,some u)]
 |.part t lo many=>[(t.D,some t),(.int lo,none),(.int many,none)]
noncomputable def Tm.head:Tm->Str
 |.num _ _=>"num" |.box _=>"box" |.late _=>"late" |.door _=>"door" |.not _=>"not" |.bin o _ _=>o.nm | .pick _ _ _=>"pick" |.part _ _ _=>"part"
theorem Tm.D_items (t:Tm):t.D=.tup (.str t.head::t.items.map (·.1)):=by cases t<;>rfl
noncomputable def G8 (form:Str)(i:L3.D×Option Tm):List Str:=match i.2 with
 |some u=>u.names form
 |none=>[]
noncomputable def B8 (form:Str):List (L3.D×Option Tm)->List Str
 |[]=>[]
 |i::r=>G8 form i++B8 form r
theorem Yy (form:Str):∀a b,B8 form (a++b)=B8 form a++B8 form b
 |[],b=>rfl
 |i::r,b=>by rw[Ei,B8,B8,Yy form r b,Bs]
theorem ZkH {t:Tm}(h:¬t.head=form):t.names form=B8 form t.items:=by
 cases t<;>simp[Tm.names,Tm.leaves,Tm.items,B8,G8,Tm.nameOf,HS,Tm.head]at h ⊢<;>(try (intro e;exact absurd e.symm h))
theorem ZmC {t:Tm}(h:HM t.head):∃x,t.items=[(.str x,none)]/\t.names t.head=[x]:=by
 cases t with
 |box x | late x | door x=>exact⟨x,rfl,by simp[Tm.names,Tm.leaves,Tm.nameOf,Tm.head]⟩
 |num _ _=>exact absurd h (by unfold HM;simp only[Tm.head];nofun)
 |not _=>exact absurd h (by unfold HM;simp only[Tm.head];nofun)
 |pick _ _ _=>exact absurd h (by unfold HM;simp only[Tm.head];nofun)
 |part _ _ _=>exact absurd h (by unfold HM;simp only[Tm.head];nofun)
 |bin o _ _=>
  have:=FE.nm_ne (o:=o);rcases h with h|h|h
  .exact absurd h this.2.1
  .exact absurd h this.2.2.1
  .exact absurd h this.2.2.2.1
theorem ZoJ {t u:Tm}(h:(d,some u)∈t.items):d=u.D/\u∈t.kids:=by
 cases t<;>simp[Tm.items,Tm.kids]at h ⊢
 .exact⟨by rw[h.1,h.2],h.2⟩
 .rcases h with h|h<;>exact⟨by rw[h.1,h.2],by simp[h.2]⟩
 .rcases h with h|h|h<;>exact⟨by rw[h.1,h.2],by simp[h.2]⟩
 .exact⟨by rw[h.1,h.2],h.2⟩
theorem ZmS {t:Tm}(h:(d,none)∈t.items):(∃i,d=.int i)\/∃x,d=.str x:=by
 cases t<;>simp[Tm.items]at h
 .rcases h with h|h<;>exact .inl ⟨_,h⟩
 .exact .inr ⟨_,h⟩
 .exact .inr ⟨_,h⟩
 .exact .inr ⟨_,h⟩
 .rcases h with h|h<;>exact .inl ⟨_,h⟩
theorem yp (d:L3.D)(ds:List L3.D):L3.cutD (d::ds) (some 1) none=ds:=by
 rw[Zn1 _ (by decide)];rfl
theorem Zom (form:Str)(t:Tm):(t.names form).length<=t.parts:=A3 (DZ _ _) t.leaves_len
def YB (n:Nat)(ds:List D)(M:Mp)(Q:DV):Prop:=FI ds λx f=>Cp (IG x) λt=>Gh f λform=>t.deep<=n/\t.parts<=1000/\HM form/\Q (.lst ((t.names form).map D.str)) M
attribute[local method_specs_simp ↓]YB
theorem ZeQ (G__law_read:Od T T.x85 (n+3) (YB n)):Od T T.x85 (n+4) (YB (n+1)):=by
 refine Co.p2 T.x85.d.F ["term", "word", "found", "part"] λx f M Q hr nN h1=>?_;obtain⟨t,rfl,h2⟩:=Oi h1;symm;obtain⟨form,e1',hd,hp,hn,q⟩:=Ea h2;cutsat;subst e1';refine⟨_,(qC (ED (AY CS (Bg BE (qv 0) Ak) (qv 1)) (qO (CH (HI (qA (Bg BE (qv 0) Ak) qN)))) qE) (qC (CC 2 nN (HI qN)) (EW (KZ AK rfl (QV (II nY (qv 0) (Tw Ak) V1)) (Nb (i:=3) nN rfl (B4 rfl)) (qO (ED (GL (Cv (nI "tuple") T.B.isinstance YS (qA (qv 3) (qA (mP T.B.tuple IB) qN)))) (qO (CC 2 nN (BG ZR (qv 2) (Ay T.x85.d G__law_read nofun (qA (qv 3) (qA (qv 1) qN)))))) qE))) (qO (CH (qv 2)))))),?_⟩;rw[t.D_items];right;by_cases hf:t.head=form
 .rw[if_pos hf];subst hf;obtain⟨x,e1,e2⟩:=ZmC hn;rw[e2]at q;rw[e1];simp only[AQ,Dx];grind;exact Dn.of q
 rw[if_neg hf];have hlen:=Zom form t;rw[ZkH hf]at q hlen;refine⟨λτ M'=>M'=M/\∃v3,τ=[some (.tup (.str t.head::t.items.map (·.1))),some (.str form),some (.lst ((B8 form t.items).map D.str)),v3],?_,?_⟩
 .grind;rw[show L3.cutD (D.str t.head::t.items.map (·.1)) (some 1) none=t.items.map (·.1)from yp _ _];refine⟨λk τ M'=>M'=M/\∃v3,τ=[some (.tup (.str t.head::t.items.map (·.1))),some (.str form),some (.lst ((B8 form (t.items.take k)).map D.str)),v3],⟨rfl,none,rfl⟩,λ_ _ _ _=>trivial,?_,?_⟩
  .rintro k y τ M' hy ⟨rfl,v3,rfl⟩;obtain⟨i,hu,rfl⟩:=Mc hy;obtain⟨d,o⟩:=i;dsimp only at hy ⊢;have e1:t.items.take (k+1)=t.items.take k++[(d,o)]:=by rw[Ba,hu];rfl
   have hmem:=Aw hu
   have e2:B8 form t.items=B8 form (t.items.take k)++G8 form (d,o)++B8 form (t.items.drop (k+1)):=by
    have:B8 form (t.items.take (k+1))=B8 form (t.items.take k)++G8 form (d,o):=by
     rw[e1,Yy];simp[B8]
    rw[<- this,<- Yy,HQ]
   rw[e2]at hlen;simp only[As]at hlen;cases o with
   |none=>
    have hd2:=ZmS hmem
    have e3:B8 form (t.items.take (k+1))=B8 form (t.items.take k):=by
     rw[e1,Yy];simp[B8,G8]
    rcases hd2 with⟨i,rfl⟩|⟨x,rfl⟩
    .grind;rw[e3];exact⟨_,rfl⟩
    .grind;rw[e3];exact⟨_,rfl⟩
   |some u=>
    obtain⟨rfl,hku⟩:=ZoJ hmem;have du:=Tm.deep_kid hku;have pu:=Tm.parts_of_kid hku;have hd3:=u.D_items
    have e3:B8 form (t.items.take (k+1))=B8 form (t.items.take k)++u.names form:=by
     rw[e1,Yy];simp[B8,G8]
    have isT:∀M2,KQ M2 u.D=some "tuple":=λM2=>by rw[hd3];rfl
    grind;rw[isT];simp only[G8]at hlen;grind;refine⟨by ext,by ext,hn,GK (by ext),some u.D,?_⟩;rw[e3,AI]
  .rintro τ M' ⟨rfl,v3,rfl⟩;refine⟨rfl,v3,?_⟩;rw[Ab,Be]
 .rintro τ M' ⟨rfl,v3,rfl⟩;grind;exact Dn.of q
theorem kZ (T:Tv P w K mg base):∀n:Nat,Od T T.x85 (n+3) (YB n)
 |0=>by
  have no:∀ds M Q,¬YB 0 ds M Q:=λds M Q h=>by
   obtain⟨x,f,rfl,h1⟩:=Lo h;obtain⟨t,rfl,h2⟩:=Oi h1;symm;obtain⟨form,e1',hd,hp,hn,q⟩:=Ea h2;cutsat;subst e1';have:=t.deep_pos;ext
  exact V9 no
 |n+1=>ZeQ T (kZ T n)
theorem jG (f:Str)(g:Tm)(ts:List Tm)(t:Tm):C7 f g (ts++[t])=C7 f g ts++t.names f:=by simp[C7]
theorem pR (h:On zs g ts)(f:Str):∀k,(C7 f g (ts.take k)).length<=100*(k+1)
 |0=>by
  have:=(h.t g AF).1.2;have l1:(g.names f).length<=g.leaves.length:=DZ _ _;have l2:=g.leaves_len;simp[C7];ext
 |k+1=>by
  have ih:=pR h f k;rw[Ba];cases e:ts[k]? with
  |none=>simpa using A3 ih (by ext)
  |some t=>have:=(h.t t (AE _ (Aw e))).1.2;have l1:(t.names f).length<=t.leaves.length:=DZ _ _;have l2:=t.leaves_len;show(C7 f g (ts.take k++[t])).length<=_;rw[jG,As];ext
theorem Κ (h:k∉AR.map (·.1)):Ht AR k v=AR++[(k,v)]:=by
 unfold Ht;rw[if_neg];intro e;obtain⟨x,hx,e⟩:=C8.mp e;exact h (Ap.mpr ⟨x,hx,of_decide_eq_true e⟩)
theorem ε (h:k∉f.map (·.1)):Du (f++[(k,v)]) k=some v:=by
 unfold Du;rw[List.find?_append,E3.mpr λx hx e=>h (Ap.mpr ⟨x,hx,of_decide_eq_true e⟩)];simp
theorem xc (h:p≠q):put (put M q b) p a=put (put M p a) q b:=by
 funext x;unfold put;by_cases h1:x=p
 .rw[if_pos h1,if_neg (λe=>h (h1.symm.trans e)),if_pos h1]
 .rw[if_neg h1,if_neg h1]
abbrev Rl:=Str×Tm×List (Str×Tm)
noncomputable def L5 (r:Rl):List Str:=C7 "late" r.2.1 (r.2.2.map (·.2))
noncomputable def Ly (nms zs:List Str)(ps:List (Str×Str))(r o:Rl):Bool:=(decide (nms.idxOf o.1<nms.idxOf r.1) && Tc ps o.1 r.1) || (decide (o.1∈PY zs r.1) && !((o.2.2.map (·.1)).filter λz=>decide (z∈L5 r)).isEmpty)
noncomputable def PU (wk:Wk)(zs:List Str)(ps:List (Str×Str))(r:Rl):List Str:=(wk.rs.filter (Ly wk.nms zs ps r)).map (·.1)
noncomputable def Zx (wk:Wk)(zs:List Str)(ps:List (Str×Str)):List (Str×List Str):=wk.rs.map λr=>(r.1,PU wk zs ps r)
def cf:DW:=λds M Q=>IZ ds λx y z=>∃(wk:Wk) (zs:List Str) (ps:List (Str×Str)),x=.lst (wk.rs.map Gg)/\y=.lst (zs.map D.str)/\z=.lst (ps.map Nr)/\wk.Ok/\zs.Perm wk.nms/\ps.length<=100/\Q (.dic (KG (Zx wk zs ps))) M
attribute[local method_specs_simp ↓]cf
theorem Zin:Od T T.x86 16 cf:=by
 refine Co.p3 T.x86.d.F ["rules", "order", "pairs", "wanted", "row", "rule", "late", "pair", "ahead", "other", "writes", "urgent", "clashing_v"] λx y z M Q hr nN h=>?_;symm;obtain⟨wk,zs,ps,e1',e2',e3',ok,pm,hl,q⟩:=h;cutsat;subst e1' e2' e3';have l8:=ok.r.1;have ll:zs.length<=8:=by rw[pm.length_eq,Ab];exact l8
 refine⟨_,(qC (CC 3 nN Jl) (qC (sY (caps:=[]) (i:=4) nN rfl rfl ⟨rfl,by rfl,by rfl,by rfl,rfl,by rfl,by nofun⟩ rfl (J0 (qv 0)) (λ_ _ _ _ _ _=>(Bg BE (qv 0) Ak))) (EW (KZ AK rfl (J0 (qv 0)) (Nb (i:=5) nN rfl (B4 rfl)) (EW (ZT (i:=6) nN rfl (Hb rfl) (Ay T.x85.d (kZ T 12) nofun (qA (Bg BE (qv 5) Ak) (qA BX qN)))) (EW (KZ AK rfl (J0 (Bg BE (qv 5) Ak)) (Nb (i:=7) nN rfl (B4 rfl)) (qO (ZT (i:=6) nN rfl (Hb rfl) (BG ZR (qv 6) (Ay T.x85.d (kZ T 12) nofun (qA (Bg BE (qv 7) Ak) (qA BX qN))))))) (qC (CC 8 nN (II Yj (qv 1) V1 (Tw (Kf AN Gk Gj (ZZ (Pa hr)) (qv 1) (qA (Bg BE (qv 5) Ak) qN))))) (qC (V2 (Kj hr) (qv 3) (Bg BE (qv 5) Ak) (JG qN) rfl) (EW (KZ AK rfl (J0 (qv 0)) (Nb (i:=9) nN rfl (B4 rfl)) (EW (kF (caps:=[("late",6)]) (i:=10) nN rfl rfl ⟨rfl,by rfl,by rfl,by rfl,rfl,by rfl,by nofun⟩ rfl (J0 (Bg BE (qv 9) Ak)) (λ_ _ _ _ _ _=>(Bg BE (qv 0) Ak)) (λ_ _ _ _ _ _=>(AY O7 (Bg BE (qv 0) Ak) (qv 1) (by with_unfolding_all rfl)))) (EW (CC 11 nN (JI Lp (Kf AN Gk Gj (ZZ (Pa hr)) (qv 4) (qA (Bg BE (qv 9) Ak) qN)) (Kf AN Gk Gj (ZZ (Pa hr)) (qv 4) (qA (Bg BE (qv 5) Ak) qN)))) (EW (CC 12 nN (fW (JI (ZE (JK hr)) (CG (qA (Bg BE (qv 9) Ak) (qA (Bg BE (qv 5) Ak) qN))) (qv 2) (by with_unfolding_all rfl)) (N8 (JI (ZE (JK hr)) (CG (qA (Bg BE (qv 5) Ak) (qA (Bg BE (qv 9) Ak) qN))) (qv 2) (by with_unfolding_all rfl))))) (qO (ED ((Tu ((VY (GL (qv 11)) (V4 (GL (qv 12))))).pt (VZ ((VY (AY O7 (Bg BE (qv 9) Ak) (qv 8) (by with_unfolding_all rfl)) (V4 (AY (VR (JK hr)) (qv 10) (HI qN))))).pt))).pt (qO (Fb (Kf AN Bl Bk QZ (Fl (Kj hr) (qv 3) (Bg BE (qv 5) Ak) (λ_ _=>rfl)) (qA (Bg BE (qv 9) Ak) qN)))) qE)))))) (xh 3 qE))))))) (qO (CH (Ln (qv 3))))))),?_⟩;right;intro p hp;refine ET.of (f:=λr=>D.str r.1) (GK (by ext)) trivial (λr hr R h=>?_) ?_
 .simp only[Gg];walk_at "cap";exact h
 generalize eZ:D.lst (zs.map D.str)=Z1;generalize eP:D.lst (ps.map Nr)=P1;generalize eR:D.lst (wk.rs.map Gg)=R1;generalize eN:D.lst (wk.rs.map λr=>D.str r.1)=N1;refine⟨λτ M'=>M'=put M p (.dic (KG (Zx wk zs ps)))/\∃a5 a6 a7 a8 a9 b0 b1 b2,τ=[some R1,some Z1,some P1,some (.ref p),some N1,a5,a6,a7,a8,a9,b0,b1,b2],?_,?_⟩
 .subst eR;grind;refine⟨λk τ M'=>M'=put M p (.dic (KG ((wk.rs.take k).map λr=>(r.1,PU wk zs ps r))))/\∃a5 a6 a7 a8 a9 b0 b1 b2,τ=[some (.lst (wk.rs.map Gg)),some Z1,some P1,some (.ref p),some N1,a5,a6,a7,a8,a9,b0,b1,b2],⟨rfl,none,none,none,none,none,none,none,none,rfl⟩,λ_ _ _ _=>trivial,?_,?_⟩
  .intro k y τ M' hy hI';symm;obtain⟨e1',a5,a6,a7,a8,a9,b0,b1,b2,e2'⟩:=hI';cutsat;subst e1' e2';obtain⟨r,hr1,rfl⟩:=Mc hy;have mr:=Aw hr1;have rd:=ok.rd mr;have one:=rd.t;have rl:=pR rd "late";generalize eR:D.lst (wk.rs.map Gg)=R1;generalize eM:put M p (.dic (KG ((wk.rs.take k).map λr=>(r.1,PU wk zs ps r))))=M1;simp only[Gg];grind;refine⟨λτ M2=>M2=M1/\τ=[some R1,some Z1,some P1,some (.ref p),some N1,some (Gg r),some (.lst ((r.2.1.names "late").map D.str)),a7,a8,a9,b0,b1,b2],?_,?_⟩
   .grind;exact⟨(one _ AF).1.1,A3 (one _ AF).1.2 (by decide),.inr (.inl rfl),rfl⟩
   rintro τ M2 ⟨rfl,rfl⟩;refine⟨λτ M3=>M3=M2/\∃a7,τ=[some R1,some Z1,some P1,some (.ref p),some N1,some (Gg r),some (.lst ((L5 r).map D.str)),a7,a8,a9,b0,b1,b2],?_,?_⟩
   .simp only[Gg];grind;refine⟨λi τ M3=>M3=M2/\∃a7,τ=[some R1,some Z1,some P1,some (.ref p),some N1,some (Gg r),some (.lst ((C7 "late" r.2.1 ((r.2.2.map (·.2)).take i)).map D.str)),a7,a8,a9,b0,b1,b2],⟨rfl,a7,by simp[C7,Gg]⟩,λ_ _ _ _=>trivial,?_,?_⟩
    .rintro i d τ M3 hd ⟨rfl,a7,rfl⟩;obtain⟨w0,hw0,rfl⟩:=Mc hd;have h1:(r.2.2.map (·.2))[i]? = some w0.2:=by rw[AH,hw0];rfl
     have hin:w0.2∈r.2.1::r.2.2.map (·.2):=AE _ (Aw h1);have hi:=(Ai.mp h1).1;have hl6:=rd.l;have r1:=rl i;have r2:=rl (i+1);have et:(r.2.2.map (·.2)).take (i+1)=(r.2.2.map (·.2)).take i++[w0.2]:=by rw[Ba,h1];rfl
     rw[et]at r2;rw[jG,As]at r2;simp only[Kv];grind;refine⟨(one _ hin).1.1,A3 (one _ hin).1.2 (by decide),.inr (.inl rfl),GK (by first | ext | (simp;ext)),some (Kv w0),?_⟩;rw[et,jG,AI];rfl
    .rintro τ M3 ⟨rfl,a7,rfl⟩;rw[Ab,show r.2.2.length=(r.2.2.map (·.2)).length by rw[Ab],Be];exact⟨rfl,a7,rfl⟩
   rintro τ M3 ⟨rfl,a7,rfl⟩;subst eZ;simp only[Gg];grind;rw[Pf,BW,Yk (pm.mem_iff.mpr (Ap.mpr ⟨r,mr,rfl⟩)),BW];intro q0 hq;have h3:M3 p=some (.dic (KG ((wk.rs.take k).map λr=>(r.1,PU wk zs ps r)))):=by rw[<- eM,Dc]
   have ne:p≠q0:=λe=>by rw[<- e,h3]at hq;cases hq
   rw[Dy ne,h3];generalize ef:KG ((wk.rs.take k).map λr=>(r.1,PU wk zs ps r))=f at h3 ⊢;have fl:f.length<=8:=by rw[<- ef];unfold KG;rw[Ab,Ab,AZ];ext
   refine⟨BS (by ext),?_⟩
   have hfr:(FF r.1:B7)∉f.map (·.1):=λh=>by
    rw[<- ef]at h;unfold KG at h;rw[BA,BA]at h;obtain⟨r',h1,h2⟩:=Ap.mp h;have e2:=DN h2;obtain⟨i,hi⟩:=Bp.mp h1;rw[List.getElem?_take]at hi;split at hi
    .next hik=>
     have nd:=ZQ ok;rw[Lc]at nd;have il:i<wk.nms.length:=by rw[Ab];exact(Ai.mp hi).1
     have:=(List.getElem?_inj il nd).mp (show wk.nms[i]? = wk.nms[k]? by unfold Wk.nms;rw[AH,AH,hi,hr1,G0,G0,e2]);ext
    .cases hi
   rw[Κ hfr,xc ne,iI,show zs.take (zs.idxOf r.1)=PY zs r.1 from rfl];generalize eD:(MO.dic (f++[(.inr r.1,.ref q0)]))=d1;subst eR;generalize eA:D.lst ((PY zs r.1).map D.str)=A1;generalize eL:D.lst ((L5 r).map D.str)=L1;refine⟨λτ M4=>M4=put (put M3 p d1) q0 (.lst ((PU wk zs ps r).map D.str))/\∃a9 b0 b1 b2,τ=[some (.lst (wk.rs.map Gg)),some (.lst (zs.map D.str)),some P1,some (.ref p),some N1,some (Gg r),some L1,a7,some A1,a9,b0,b1,b2],?_,?_⟩
   .grind;refine⟨λj τ M4=>M4=put (put M3 p d1) q0 (.lst ((((wk.rs.take j).filter (Ly wk.nms zs ps r)).map (·.1)).map D.str))/\∃a9 b0 b1 b2,τ=[some (.lst (wk.rs.map Gg)),some (.lst (zs.map D.str)),some P1,some (.ref p),some N1,some (Gg r),some L1,a7,some A1,a9,b0,b1,b2],⟨rfl,a9,b0,b1,b2,rfl⟩,λ_ _ _ _=>trivial,?_,?_⟩
    .intro j y τ M4 hy hI';symm;obtain⟨e1',a9,b0,b1,b2,e2'⟩:=hI';cutsat;subst e1' e2';obtain⟨o,ho,rfl⟩:=Mc hy;have mo:=Aw ho;have o6:=(ok.r.2 o mo).2.l;have hM:put (put M3 p d1) q0 (.lst ((((wk.rs.take j).filter (Ly wk.nms zs ps r)).map (·.1)).map D.str)) q0=some (.lst ((((wk.rs.take j).filter (Ly wk.nms zs ps r)).map (·.1)).map D.str)):=Dc;have hP:put (put M3 p d1) q0 (.lst ((((wk.rs.take j).filter (Ly wk.nms zs ps r)).map (·.1)).map D.str)) p=some d1:=by rw[Dy ne,Dc]
     have hS:∀u,put (put (put M3 p d1) q0 (.lst ((((wk.rs.take j).filter (Ly wk.nms zs ps r)).map (·.1)).map D.str))) q0 u=put (put M3 p d1) q0 u:=λu=>QX;generalize eM4:put (put M3 p d1) q0 (.lst ((((wk.rs.take j).filter (Ly wk.nms zs ps r)).map (·.1)).map D.str))=M4 at hM hP hS ⊢;simp only[Gg];grind;refine⟨λτ M5=>M5=M4/\τ=[some (.lst (wk.rs.map Gg)),some (.lst (zs.map D.str)),some P1,some (.ref p),some N1,some (Gg r),some L1,a7,some A1,some (Gg o),some (.lst (((o.2.2.map (·.1)).filter λz=>decide (z∈L5 r)).map D.str)),b1,b2],?_,?_⟩
     .subst eL;grind;refine ET.filt (f:=λw0=>D.str w0.1) (pr:=λw0=>decide (w0.1∈L5 r)) (GK (by ext)) trivial (λw0 hw R q1=>?_) (λw0 hw R q1=>?_) ⟨rfl,?_⟩
      .simp only[Kv];walk_at "cap";exact q1
      .simp only[Kv];walk_at "cap";exact q1
      .rw[RM,BA];rfl
     rintro τ M5 ⟨rfl,rfl⟩;refine⟨λτ M6=>M6=M5/\τ=[some (.lst (wk.rs.map Gg)),some (.lst (zs.map D.str)),some P1,some (.ref p),some N1,some (Gg r),some L1,a7,some A1,some (Gg o),some (.lst (((o.2.2.map (·.1)).filter λz=>decide (z∈L5 r)).map D.str)),some (.bl (decide (wk.nms.idxOf o.1<wk.nms.idxOf r.1))),b2],?_,?_⟩
     .subst eN;simp only[Gg];grind;rw[show(wk.rs.map λr=>D.str r.1)=wk.nms.map D.str by unfold Wk.nms;rw[BA];rfl,Pf,BW,Yk (Ap.mpr ⟨o,mo,rfl⟩),BW,BW,Yk (Ap.mpr ⟨r,mr,rfl⟩),BW];rw[show decide ((wk.nms.idxOf o.1:Int)<(wk.nms.idxOf r.1:Int))=decide (wk.nms.idxOf o.1<wk.nms.idxOf r.1)from decide_eq_decide.mpr Int.ofNat_lt]
     rintro τ M6 ⟨rfl,rfl⟩;refine⟨λτ M7=>M7=M6/\τ=[some (.lst (wk.rs.map Gg)),some (.lst (zs.map D.str)),some P1,some (.ref p),some N1,some (Gg r),some L1,a7,some A1,some (Gg o),some (.lst (((o.2.2.map (·.1)).filter λz=>decide (z∈L5 r)).map D.str)),some (.bl (decide (wk.nms.idxOf o.1<wk.nms.idxOf r.1))),some (.bl (Tc ps o.1 r.1))],?_,?_⟩
     .subst eP;simp only[Gg];grind;refine aL ?_;show if decide ((o.1,r.1)∈ps)=true then _ else _
      refine CD (λc=>⟨rfl,?_⟩) λc=>aL ⟨rfl,?_⟩
      .rw[show Tc ps o.1 r.1=true from decide_eq_true (.inl (of_decide_eq_true c))]
      .rw[show Tc ps o.1 r.1=decide ((r.1,o.1)∈ps)from decide_eq_decide.mpr ⟨λh=>h.resolve_left (by simpa using c),.inr⟩]
     rintro τ M7 ⟨rfl,rfl⟩;subst eA;simp only[Gg];grind;have et:wk.rs.take (j+1)=wk.rs.take j++[o]:=by rw[Ba,ho];rfl
     have hj:=(Ai.mp ho).1;have sl:((((wk.rs.take j).filter (Ly wk.nms zs ps r)).map (·.1)).map D.str).length<An:=BS (by rw[Ab,Ab];have:=CA (Ly wk.nms zs ps r) (wk.rs.take j);rw[AZ]at this;ext)
     have yes:∀{R:Prop},Ly wk.nms zs ps r o=true->R->Cp (DU M7 (.ref p)) λAR=>Cp (Du AR (.inr r.1)) λv=>KQ M7 v=some "list"/\G5 v [.str o.1] M7 λx M1=>M1=put (put M3 p d1) q0 (.lst ((((wk.rs.take (j+1)).filter (Ly wk.nms zs ps r)).map (·.1)).map D.str))/\R:=λhb h=>by
      rw[show DU M7 (.ref p)=some (f++[(.inr r.1,.ref q0)]) by rw[<- eD]at hP;simp only[DU,hP],BW,ε hfr,BW];refine⟨IF hM,?_⟩;rw[VU hM,hS];refine⟨sl,?_,h⟩;rw[et,DS,F4,if_pos hb,AI,AI];rfl
     have no:Ly wk.nms zs ps r o=false->M7=put (put M3 p d1) q0 (.lst ((((wk.rs.take (j+1)).filter (Ly wk.nms zs ps r)).map (·.1)).map D.str)):=λhb=>by
      rw[<- eM4,et,DS,F4,if_neg (by rw[hb];exact Am),Kq,CL]
     have tl:(decide (wk.nms.idxOf o.1<wk.nms.idxOf r.1) && Tc ps o.1 r.1)=false->∀{A B:Prop},(Ly wk.nms zs ps r o=true->A)->(Ly wk.nms zs ps r o=false->B)->if o.1∈PY zs r.1 then if (((o.2.2.map (·.1)).filter λz=>decide (z∈L5 r)).map D.str).isEmpty=false then A else B else B:=λh A B a b=>by
      have eq1:Ly wk.nms zs ps r o=(decide (o.1∈PY zs r.1) && !((o.2.2.map (·.1)).filter λz=>decide (z∈L5 r)).isEmpty):=by unfold Ly;rw[h,ME]
      rw[List.isEmpty_map];refine CD (λc=>CD (λd=>a ?_) λd=>b ?_) λc=>b ?_
      .rw[eq1,decide_eq_true c,d];rfl
      .rw[eq1,show List.isEmpty _=true by simpa using d,Jg,DO]
      .rw[eq1,decide_eq_false c,Fd]
     refine CD (λc1=>CD (λc2=>yes ?_ ⟨_,_,_,_,rfl⟩) λc2=>tl ?_ (λh=>yes h ⟨_,_,_,_,rfl⟩) λh=>⟨no h,_,_,_,_,rfl⟩) λc1=>tl ?_ (λh=>yes h ⟨_,_,_,_,rfl⟩) λh=>⟨no h,_,_,_,_,rfl⟩
     .unfold Ly;rw[decide_eq_true c1,c2];rfl
     .rw[JX.mpr c2,DO]
     .rw[decide_eq_false c1,Fd]
    .rintro τ M4 ⟨rfl,h⟩;rw[Ab,Be];exact⟨rfl,h⟩
   intro τ M4 hI';symm;obtain⟨e1',a9,b0,b1,b2,e2'⟩:=hI';cutsat;subst e1' e2';refine⟨p,q0,f,.inr r.1,(PU wk zs ps r).map D.str,rfl,by rw[Dy ne,Dc,eD],Dc,?_⟩;refine⟨?_,some (Gg r),some L1,a7,some A1,a9,b0,b1,b2,rfl⟩;rw[V0 (by rw[Dy (Bm ne)];exact hq),QX,<- eM,QX,Ba,hr1,AI];rw[show KG ((wk.rs.take k).map (λr=>(r.1,PU wk zs ps r))++(some r).toList.map λr=>(r.1,PU wk zs ps r))=f++[(.inr r.1,.lst ((PU wk zs ps r).map D.str))] by rw[<- ef];unfold KG;rw[AI];rfl]
  .rintro τ M' ⟨rfl,h⟩;rw[Ab,Be];exact⟨rfl,h⟩
 .intro τ M' hI';symm;obtain⟨e1',a5,a6,a7,a8,a9,b0,b1,b2,e2'⟩:=hI';cutsat;subst e1' e2';grind;rw[Dc];dsimp only;rw[V0 hp];exact Dn.of q
theorem QW:Ef ["script", "boxes", "doors", "rules", "works", "order", "due", "handed", "found", "name"] ["script"] (Gu iE):=(⟨rfl,rfl,rfl,by nofun,rfl,by nofun,by nofun⟩)
theorem tK :∀{l:List Str}{k:Nat},o∈l->(o∈l.take k↔l.idxOf o<k)
 |[],_,h=>nomatch h
 |a::l,0,_=>by simp
 |a::l,k+1,h=>by
  by_cases e:a=o
  .subst e;simp
  .have hl:=(A5.mp h).resolve_left λc=>e c.symm;rw[OY,BD,RL,show(a == o)=false by simpa using e,cond_false,tK hl];exact⟨λh=>by have:=h.resolve_left λc=>e c.symm;ext,λh=>.inr (by ext)⟩
theorem sD {rs:List Rl}(nd:(rs.map (·.1)).Nodup)(ho:o∈rs):rs.find? (DP o.1)=some o:=by
 induction rs with
 |nil=>exact nomatch ho
 |cons a l ih=>
  rw[AQ,El]at nd;rw[Ct];rcases A5.mp ho with rfl|h
  .rw[show DP o.1 o=true from decide_eq_true rfl]
  .rw[show DP o.1 a=false from decide_eq_false λe=>nd.1 (e ▸ Ap.mpr ⟨o,h,rfl⟩)];exact ih nd.2 h
theorem ZoU {a b:List Str}(h:∀z,z∈a↔z∈b):a.isEmpty=b.isEmpty:=by
 cases a with
 |nil=>cases b with
  |nil=>rfl
  |cons y l=>exact absurd ((h y).mpr AF) AS
 |cons x k=>cases b with
  |nil=>exact absurd ((h x).mp AF) AS
  |cons y l=>rfl
theorem jh {wk:Wk}(ok:wk.Ok){zs:List Str}{ps:List (Str×Str)}:Zx wk zs ps=Zv wk zs ps:=by
 have nd:=ZQ ok;rw[Lc]at nd;unfold Zx Zv Wk.nms;rw[BA];refine Dq λr hr=>?_;show(r.1,PU wk zs ps r)=(r.1,PP wk zs ps r.1);congr 1
 unfold PU PP Wk.nms;rw[RM];congr 1
 refine List.filter_congr λo ho=>?_;show Ly _ zs ps r o=O8 wk zs ps r.1 o.1;unfold Ly O8;rw[qG (sD nd ho) (sD nd hr),Bool.or_comm];congr 1
 .congr 2
  refine ZoU λz=>?_;unfold KC KR Qr;rw[Gy,Em,Em,PC,decide_eq_true_eq,decide_eq_true_eq,Gy];rfl
 .unfold Zu;rw[Dt,BM,decide_eq_true_eq,decide_eq_true_eq,Em];unfold PY;rw[tK (Ap.mpr ⟨o,ho,rfl⟩)]
theorem Mj.set {M M':Mp}{g:Str->List Str}{ns:List Str}{f:Str->Ao}(h:Mj M M' g ns f){n:Str}(hn:n∈ns){ys:List Str}:Mj M (put M' (f n) (.lst (ys.map D.str))) (λx=>if x=n then ys else g x) ns f:=by
 refine⟨h.s.puts (h.n n hn).1,λa ha=>?_,h.i⟩;refine⟨(h.n a ha).1,?_⟩;by_cases c:a=n
 .rw[c,Dc,if_pos rfl]
 .rw[Dy (λe=>c (h.i a ha n hn e)),if_neg c];exact(h.n a ha).2
theorem Mj.cg {M M':Mp}{g g':Str->List Str}{ns:List Str}{f:Str->Ao}(h:Mj M M' g ns f)(e:∀a∈ns,g' a=g a):Mj M M' g' ns f:=⟨h.s,λa ha=>by rw[e a ha];exact h.n a ha,h.i⟩
theorem jq {zs:List Str}(h:M p=some (.lst (zs.map D.str))):De M 40 (.ref p) (.lst (zs.map D.str))=some true:=by
 unfold De;rw[if_neg (by simp[DQ])];simp only[Bh,h]
 exact aW λd hd=>by
  obtain⟨z,-,rfl⟩:=Ap.mp hd;simp[De,DQ,KJ]
theorem pQ {ns:List Str}{f:Str->Ao}(nd:ns.Nodup){n:Str}(hn:n∈ns):Du (MT ns f) (.inr n)=some (.ref (f n)):=
 Wj (by unfold MT;rw[BA];unfold Ez at nd ⊢;rw[Cq];exact nd.imp λh e=>h (DN e)) (Ap.mpr ⟨n,hn,rfl⟩)
theorem lv {ns:List Str}{g:Str->List Str}(nd:ns.Nodup){n:Str}(hn:n∈ns):Du (KG (ns.map λn=>(n,g n))) (.inr n)=some (.lst ((g n).map D.str)):=
 Wj (jg (by rw[BA];exact(Lc ns).symm ▸ nd)) (Ap.mpr ⟨(n,g n),Ap.mpr ⟨n,hn,rfl⟩,rfl⟩)
theorem Mj.eq {M M':Mp}{g:Str->List Str}{ns:List Str}{f:Str->Ao}(h:Mj M M' g ns f):∃ks,DU M' (.dic (MT ns f))=some (Uu ks)/\DU M' (.dic (KG (ns.map λn=>(n,g n))))=some (LX ks)/\∀p∈ks,De M' 40 p.2.1 p.2.2=some true:=by
 refine⟨ns.map λn=>(.inr n,.ref (f n),.lst ((g n).map D.str)),?_,?_,λp hp=>?_⟩
 .show some (MT ns f)=_;unfold Uu MT;rw[BA];rfl
 .show some (KG _)=_;unfold LX KG;rw[BA,BA];rfl
 .obtain⟨n,hn,rfl⟩:=Ap.mp hp;exact jq (h.n n hn).2
attribute[local method_specs_simp ↓]rG
theorem oz:Od T T.x87 50 spLaw2:=by
 refine Co.ok2 T.x87.d.F QW (λds M Q h=>?_) (λcdv A outer s H E ds M Q hr h=>?_)
 .obtain⟨ns,rfl,_⟩:=h;rfl
 obtain⟨ns,rfl,h63,q⟩:=h;refine⟨_,(EW (nv (Ay T.x83.d (Zhi T) nofun (qA (qv 0) (qA (CG (X7 (.int (.int (.int (.int (.int .nil))))))) (qA Ak (qA Ak qN))))) (VX (is:=[1,2,3]) rfl (Nc (Md (i:=1) QW.nd rfl (B4 rfl)) (Nc (Md (i:=2) QW.nd rfl (B4 rfl)) (Nc (Md (i:=3) QW.nd rfl (B4 rfl)) UN))))) (EW (CC 4 QW.nd (Ay T.x35.d (up T) nofun (qA (Ee Ye T.B.list LN (qA (qv 1) qN)) (qA (Ee Ye T.B.list LN (qA (qv 2) qN)) (qA (Ee Ye T.B.list LN (qA (qv 3) qN)) qN))))) (EW (CC 5 QW.nd (Ay T.x84.d (Zim T) nofun (qA (BG Ha (Ay T.x77.d (UV T) nofun (qA (qv 0) (qA Ak qN))) (BG Sm Ak Ak)) (qA (qv 3) qN)))) (EW (CC 6 QW.nd (Ay T.x86.d (Zin T) nofun (qA (qv 3) (qA (qv 5) (qA (Ay T.x68.d (zO T) nofun (qA (qv 4) (qA (Ee Ye T.B.list LN (qA (qv 5) qN)) qN))) qN))))) (qC (CC 7 QW.nd (Ee Ye T.B.list LN (qA (qv 5) qN))) (EW (CC 8 QW.nd (Ay T.x74.d (sW T) nofun (qA (qv 4) (qA (qv 7) qN)))) (EW (ED ((Tu (Lw (GL (Cv (nI "dict") T.B.isinstance YS (qA (qv 8) (qA (mP T.B.dict LO) qN))))) (Tu (AY (j8 (Pa hr)) (qv 8) (qv 6)) (VZ (AY (VR (JK hr)) (qv 7) (qv 5)))))).pt (qO (CH Um)) qE) (EW (KZ AK rfl (J0 (qv 5)) (Nb (i:=9) QW.nd rfl (B4 rfl)) (qO (Fb (Kf AN Bl Bk QZ (Fl (Kj hr) (qv 8) (qv 9) (λ_ _=>rfl)) (qA (Bg Hy (qv 5) Ak) qN))))) (EW (KZ AK rfl (J0 (qv 5)) (Nb (i:=9) QW.nd rfl (B4 rfl)) (qO (ED (AY (VR (JK hr)) (Fl (Kj hr) (qv 8) (qv 9) (λ_ _=>rfl)) (BG ZR (Fl (Kj hr) (qv 6) (qv 9) (λ_ _=>rfl)) (HI (qA (Bg Hy (qv 5) Ak) qN)))) (qO (CH Um)) qE))) (qO (CH (R5 (JI (j5 (Pa hr)) (Ay T.x74.d (sW T) nofun (qA (qv 4) (qA (qv 7) qN))) (qv 6)) (N8 (JI (hW (JK hr)) (qv 7) (qv 5))))))))))))))),?_⟩
 (try simp only[N6,N4,N5])
 refine⟨λτ M'=>∃wk:Wk,wk.Ok/\τ=[some (.lst (ns.map D.int)),some (.lst (wk.bs.map Fa)),some (.lst (wk.ds.map G9)),some (.lst (wk.rs.map Gg)),none,none,none,none,none,none],?_,?_⟩
 .grind;refine⟨ns,[3,3,64,3,64],rfl,rfl,⟨2,rfl,by decide,by decide⟩,⟨rfl,by decide⟩,λwk wx=>⟨wk,wx.ok,rfl⟩⟩
 rintro τ M1 ⟨wk,ok,rfl⟩;have l8:=ok.r.1;refine⟨λτ M'=>τ=[some (.lst (ns.map D.int)),some (.lst (wk.bs.map Fa)),some (.lst (wk.ds.map G9)),some (.lst (wk.rs.map Gg)),some wk.D,none,none,none,none,none],?_,?_⟩
 .grind;refine⟨wk,_,ok,rfl,rfl,rfl,by rw[Ab],λi x r hx hr=>?_,rfl⟩;rw[AH,hr]at hx;cases hx;exact⟨_,rfl,rfl⟩
 rintro τ M2 rfl;refine⟨λτ M'=>∃zs:List Str,zs.Perm wk.nms/\τ=[some (.lst (ns.map D.int)),some (.lst (wk.bs.map Fa)),some (.lst (wk.ds.map G9)),some (.lst (wk.rs.map Gg)),some wk.D,some (.lst (zs.map D.str)),none,none,none,none],?_,?_⟩
 .grind;exact λz=>⟨⟨by decide,by decide,by decide⟩,wk.rs,rfl,l8,by ext,λzs pm=>⟨zs,pm,rfl⟩⟩
 rintro τ M3 ⟨zs,pm,rfl⟩;have lz:(D9 wk zs).length<=100:=A3 (kC (by rw[pm.length_eq,Ab];exact l8)) (by decide);have ll:zs.length<=8:=by rw[pm.length_eq,Ab];exact l8
 have nd:wk.nms.Nodup:=by have:=ZQ ok;rwa[Lc]at this
 refine⟨λτ M'=>τ=[some (.lst (ns.map D.int)),some (.lst (wk.bs.map Fa)),some (.lst (wk.ds.map G9)),some (.lst (wk.rs.map Gg)),some wk.D,some (.lst (zs.map D.str)),some (.dic (KG (Zv wk zs (D9 wk zs)))),none,none,none],?_,?_⟩
 .grind;refine⟨wk,zs,rfl,rfl,ok,pm,wk,zs,_,rfl,rfl,rfl,ok,pm,lz,?_⟩;rw[jh ok]
 rintro τ M4 rfl
 have gl:∀n,(PP wk zs (D9 wk zs) n).length<=8:=λn=>by
  unfold PP;exact A3 (CA _ _) (by rw[Ab];exact l8)
 have eK:Zv wk zs (D9 wk zs)=wk.nms.map λn=>(n,PP wk zs (D9 wk zs) n):=rfl;rw[eK];generalize eg:PP wk zs (D9 wk zs)=g at gl ⊢;generalize eB:D.lst (wk.bs.map Fa)=B1;generalize eD:D.lst (wk.ds.map G9)=D1;generalize eR:D.lst (wk.rs.map Gg)=R1;generalize eN:D.lst (ns.map D.int)=N1;generalize eW:wk.D=W1;grind;refine⟨λτ M'=>(∃f,Mj M4 M' g wk.nms f/\τ=[some N1,some B1,some D1,some R1,some W1,some (.lst (zs.map D.str)),some (.dic (KG (wk.nms.map λn=>(n,g n)))),some (.lst (zs.map D.str)),some (.dic (MT wk.nms f)),none]),?_,?_⟩
 .grind;exact⟨wk,zs,eW.symm,rfl,ok,pm,λf M' h=>⟨f,eg ▸ h,rfl⟩⟩
 rintro τ M5 ⟨f,hf,rfl⟩;refine⟨λτ M'=>M'=M5/\τ=[some N1,some B1,some D1,some R1,some W1,some (.lst (zs.map D.str)),some (.dic (KG (wk.nms.map λn=>(n,g n)))),some (.lst (zs.map D.str)),some (.dic (MT wk.nms f)),none],?_,?_⟩
 .grind;refine⟨hf.eq,?_⟩
  (try grind)
  rw[aJ,BW];trivial
 rintro τ M6 ⟨rfl,rfl⟩;generalize hz0:zs.headD "" = z0
 have Sg:∀{k:Nat} {n:Str},zs[k]? = some n->FK (zs.map D.str) 0=some (.str z0):=λ{k n} h=>by
  cases zs with
  |nil=>cases h
  |cons a l=>cases hz0;exact Oj (j:=0) rfl
 refine⟨λτ M'=>∃a,Mj M4 M' (λn=>g n++[z0]) wk.nms f/\τ=[some N1,some B1,some D1,some R1,some W1,some (.lst (zs.map D.str)),some (.dic (KG (wk.nms.map λn=>(n,g n)))),some (.lst (zs.map D.str)),some (.dic (MT wk.nms f)),a],?_,?_⟩
 .grind;refine⟨λk τ M'=>∃a,Mj M4 M' (λn=>if n∈zs.take k then g n++[z0]else g n) wk.nms f/\τ=[some N1,some B1,some D1,some R1,some W1,some (.lst (zs.map D.str)),some (.dic (KG (wk.nms.map λn=>(n,g n)))),some (.lst (zs.map D.str)),some (.dic (MT wk.nms f)),a],⟨none,hf.cg λa _=>by simp,rfl⟩,λ_ _ _ _=>trivial,?_,?_⟩
  .rintro k y τ M' hy ⟨a,h,rfl⟩;obtain⟨n,hn,rfl⟩:=Mc hy;have mn:=pm.mem_iff.mp (Aw hn);grind;rw[pQ nd mn,BW,Sg hn,BW,VU (h.n n mn).2];refine⟨IF (h.n n mn).2,BS (by rw[Ab];have:=gl n;split<;>simp<;>ext),_,?_,rfl⟩;have et:zs.take (k+1)=zs.take k++[n]:=by rw[Ba,hn];rfl
   have fr:n∉zs.take k:=λh=>by
    have h2:=(GB (k+1) zs).nodup (pm.nodup_iff.mpr nd);rw[et]at h2;exact(BN.mp h2).2.2 n h n (AL.mpr rfl) rfl
   have:=h.set mn (ys:=g n++[z0]);rw[if_neg fr];rw[AI]at this;refine this.cg λa ha=>?_;rw[et];by_cases c:a=n
   .rw[if_pos c,c,if_pos (AT.mpr (.inr AF))]
   .rw[if_neg c];simp[c]
  .rintro τ M' ⟨a,h,rfl⟩;rw[Ab,Be]at h;exact⟨a,h.cg λa ha=>by rw[if_pos (pm.mem_iff.mpr ha)],rfl⟩
 rintro τ M6 ⟨a,h6,rfl⟩;refine⟨λτ M'=>∃a,Mj M4 M' (λn=>g n++[z0]) wk.nms f/\τ=[some N1,some B1,some D1,some R1,some W1,some (.lst (zs.map D.str)),some (.dic (KG (wk.nms.map λn=>(n,g n)))),some (.lst (zs.map D.str)),some (.dic (MT wk.nms f)),a],?_,?_⟩
 .grind;refine⟨λk τ M'=>∃a,Mj M4 M' (λn=>g n++[z0]) wk.nms f/\τ=[some N1,some B1,some D1,some R1,some W1,some (.lst (zs.map D.str)),some (.dic (KG (wk.nms.map λn=>(n,g n)))),some (.lst (zs.map D.str)),some (.dic (MT wk.nms f)),a],⟨a,h6,rfl⟩,λ_ _ _ _=>trivial,?_,λτ M' h=>h⟩;rintro k y τ M' hy ⟨a,h,rfl⟩;obtain⟨n,hn,rfl⟩:=Mc hy;have mn:=pm.mem_iff.mp (Aw hn);grind;have lf:Bh M' (.ref (f n))=some ((g n++[z0]).map D.str):=by simp only[Bh,(h.n n mn).2]
  rw[pQ nd mn,BW,lv nd mn,BW,Sg hn,BW,show Bh M' (.lst ((g n).map D.str))=some ((g n).map D.str)from rfl,BW];refine⟨GK (by rw[Ab];have:=gl n;ext),?_⟩;rw[rM,lf,BW,show Bh M' (.lst ((g n).map D.str++[D.str z0]))=some ((g n++[z0]).map D.str) by rw[AI];rfl,BW,aJ,BW];exact⟨_,h,rfl⟩
 rintro τ M7 ⟨a,h7,rfl⟩;grind;refine⟨wk,zs,eW.symm,rfl,ok,pm,λf M' h=>?_⟩;rw[eg]at h;refine⟨h.eq,?_⟩;rw[aJ,BW];exact Dn.of (q _)
end
end My
namespace My
open PySem PySem.W PyProof.Rows
open L2 (Sf LB Gu Eb)
noncomputable abbrev kE (P:JD)(n:Str)(t:Nat)(v:Ad):LW:=⟨BI P n,.str n t,v⟩
noncomputable abbrev fF (n:Str)(s:A4)(m:Ad)(c:Nat):B9:=fnOf n n (Sf s) (LB s) (Gu s) .none .none .none m none (.ref c) .none
noncomputable abbrev fO (n:Str)(s:A4)(m:Ad)(c:Nat):Obj:=⟨.type "function",none,.func (fF n s m c),#[]⟩
noncomputable abbrev mV (n q:Str)(s:A4)(m:Ad)(c:Nat):B9:=fnOf n q (Sf s) (LB s) (Gu s) .none .none .none m none (.ref c) .none
noncomputable abbrev Pb (n q:Str)(s:A4)(m:Ad)(c:Nat):Obj:=⟨.type "function",none,.func (mV n q s m c),#[]⟩
noncomputable abbrev cO (n:Str)(t l a f:Nat)(x y z u v r:Ad)(i j:Nat):Obj:=⟨.type "code",none,.fields #[.str n t,.str n (t+1),.str "/claim/cut.py" (t+2),.int l 0,.int a 0,.int 0 0,.int 0 0,.int f 0,x,.bool true,.int 181 0,y,z,u,v,r,.int i 0,.int l 0,.str "/claim/cut.py" j],#[]⟩
noncomputable abbrev c1 (n:Str)(t l a b i:Nat):Obj:=cO n t l a 3 (.ref b) (.ref (b+1)) .none (.ref (b+2)) (.ref (b+3)) (.ref (b+4)) i (i+1)
noncomputable abbrev c2 (n:Str)(t l a b i:Nat):Obj:=cO n t l a 3 (.ref b) (.ref (b+1)) .none .none .none (.ref (b+2)) i (i+1)
noncomputable abbrev kR (P:JD)(n:Str)(t b:Nat):LW:=kE P n t (.ref b)
noncomputable abbrev PR:Ad:=.str "beatwright.words" 335
noncomputable abbrev Js:Ad:=.str "beatwright.terms" 383
noncomputable abbrev I0:Ad:=.str "beatwright.dims" 551
noncomputable abbrev KU:Ad:=.str "beatwright.works" 682
noncomputable abbrev HV:Ad:=.str "beatwright.papers" 789
noncomputable abbrev Rq:Ad:=.str "beatwright.clashes" 968
noncomputable abbrev PQ:Ad:=.str "beatwright.orders" 1013
noncomputable abbrev VF:Ad:=.str "beatwright.plans" 1058
noncomputable abbrev KS:Ad:=.str "law_beatwright_k41_needs" 1090
noncomputable abbrev oF (P:JD):Array LW:=#[⟨BI P "num",(.str "num" 389),(.int (0) 390)⟩,⟨BI P "box",(.str "box" 391),(.int (0) 392)⟩,⟨BI P "late",(.str "late" 393),(.int (0) 394)⟩,⟨BI P "door",(.str "door" 395),(.int (0) 396)⟩,⟨BI P "not",(.str "not" 397),(.int (1) 398)⟩,⟨BI P "and",(.str "and" 399),(.int (2) 400)⟩,⟨BI P "or",(.str "or" 401),(.int (2) 402)⟩,⟨BI P "xor",(.str "xor" 403),(.int (2) 404)⟩,⟨BI P "plus",(.str "plus" 405),(.int (2) 406)⟩,⟨BI P "minus",(.str "minus" 407),(.int (2) 408)⟩,⟨BI P "less",(.str "less" 409),(.int (2) 410)⟩,⟨BI P "same",(.str "same" 411),(.int (2) 412)⟩,⟨BI P "pick",(.str "pick" 413),(.int (3) 414)⟩,⟨BI P "join",(.str "join" 415),(.int (2) 416)⟩,⟨BI P "part",(.str "part" 417),(.int (1) 418)⟩]
noncomputable def hK (P:JD):Frag:=[(3,⟨(.type "dict"),none,.dict #[kE P "__name__" 165 (.str "law_beatwright_k41_needs" 1090),kE P "__doc__" 166 .none,kE P "__package__" 167 .none,kE P "__loader__" 168 (.builtin "__main__.__loader__#opaque"),kE P "__spec__" 169 .none,kR P "__annotations__" 170 6,kR P "__builtins__" 171 4,kE P "__file__" 173 (.str "/claim/cut.py" 172),kE P "__cached__" 174 .none,kR P "BeatError" 206 24,kR P "NoName" 222 37,kR P "Twice" 238 49,kR P "NoWidth" 254 61,kR P "NoWord" 270 73,kR P "TooMany" 286 85,kR P "Unknown" 302 97,kR P "Unlike" 318 109,kR P "NoOrder" 334 121,kE P "WIDEST" 338 (.int (64) 337),kR P "is_width" 345 130,kR P "fits" 353 137,kR P "check_width" 360 144,kR P "check_word" 368 151,kR P "cut" 376 158,kR P "bits_of" 382 163,kE P "MOST_PARTS" 386 (.int (100) 385),kE P "MOST_DEEP" 388 (.int (12) 387),kR P "HELD" 434 164,kR P "held_terms" 441 171,kR P "size_of" 452 178,kR P "width_of" 462 185,kR P "checked_width" 468 190,kR P "checked_num" 476 197,kR P "width_named" 484 204,kR P "check_own" 493 211,kR P "check_part" 502 218,kR P "check_join" 509 225,kR P "check_like" 517 232,kR P "width_over" 526 239,kR P "reads" 534 246,kR P "leaves_of" 544 253,kR P "names_in" 550 258,kR P "marks_of" 558 263,kR P "unknown_span" 565 270,kR P "with_mark" 577 277,kR P "span_of" 583 282,kR P "span_over" 592 289,kR P "span_of_two" 601 296,kR P "doubt" 608 303,kR P "doubted" 617 310,kR P "not_span" 624 317,kR P "sum_span" 638 324,kR P "less_span" 646 331,kR P "same_span" 655 338,kR P "pick_span" 664 345,kR P "join_span" 672 352,kR P "part_span" 681 359,kE P "MOST_BOXES" 685 (.int (12) 684),kE P "MOST_DOORS" 687 (.int (6) 686),kE P "MOST_RULES" 689 (.int (8) 688),kE P "MOST_WRITES" 691 (.int (6) 690),kE P "LONGEST_NAME" 693 (.int (8) 692),kR P "made" 699 364,kR P "check_many" 708 371,kR P "is_name" 714 376,kR P "take_name" 722 383,kR P "check_once" 730 390,kR P "checked_boxes" 742 397,kR P "checked_doors" 753 404,kR P "check_rule" 767 411,kR P "rule_of" 776 418,kR P "rule_names" 782 423,kR P "widths_of" 788 428,kE P "MOST_CUBES" 792 (.int (64) 791),kR P "asked_bits" 805 435,kR P "shared" 813 442,kR P "unshared" 821 449,kR P "bits_named" 827 454,kR P "Known" 954 546,kR P "never_both" 967 557,kR P "written" 975 562,kR P "read_early" 983 569,kR P "read_late" 991 576,kR P "boxes_read" 1001 583,kR P "clash" 1012 590,kR P "clashes_of" 1020 595,kR P "check_order" 1028 602,kR P "clashing" 1034 607,kR P "are_paired" 1043 614,kR P "rivals_of" 1049 619,kR P "ahead_of" 1057 626,kR P "needs" 1067 633,kR P "needs_with" 1073 638,kR P "needed_by" 1089 645,kR P "_law_cell_at" 1099 652,kR P "_law_whole" 1106 659,kR P "_law_name" 1119 666,kR P "_law_leaf" 1125 671,kR P "_law_term" 1131 676,kR P "_law_writes" 1144 683,kR P "_law_things" 1167 690,kR P "_law_words" 1177 697,kR P "_law_order" 1183 702,kR P "_law_read" 1193 709,kR P "_law_needs" 1199 714,kR P "law" 1215 721] 106,#[]⟩),
 (129,c1 "is_width" 339 22 1 124 343),
 (130,fO "is_width" vG PR 129),
 (136,c1 "fits" 346 24 2 131 351),
 (137,fO "fits" pS PR 136),
 (143,c1 "check_width" 354 26 1 138 358),
 (144,fO "check_width" ag PR 143),
 (150,c1 "check_word" 361 29 2 145 366),
 (151,fO "check_word" yQ PR 150),
 (157,c1 "cut" 369 32 2 152 374),
 (158,fO "cut" nX PR 157),
 (162,c2 "bits_of" 377 34 2 159 380),
 (163,fO "bits_of" uP PR 162),
 (164,⟨.type "dict",none,.dict (oF P) 15,#[]⟩),
 (170,c1 "held_terms" 435 40 1 165 439),
 (171,fO "held_terms" yS Js 170),
 (177,c1 "size_of" 442 42 1 172 450),
 (178,fO "size_of" uT Js 177),
 (184,c1 "width_of" 453 50 3 179 460),
 (185,fO "width_of" vM Js 184),
 (189,c2 "checked_width" 463 57 3 186 466),
 (190,fO "checked_width" cw Js 189),
 (196,c1 "checked_num" 469 68 2 191 474),
 (197,fO "checked_num" ah Js 196),
 (203,c1 "width_named" 477 72 2 198 482),
 (204,fO "width_named" aj Js 203),
 (210,c1 "check_own" 485 76 2 205 491),
 (211,fO "check_own" wV Js 210),
 (217,c1 "check_part" 494 87 3 212 500),
 (218,fO "check_part" yO Js 217),
 (224,c1 "check_join" 503 90 1 219 507),
 (225,fO "check_join" yK Js 224),
 (231,c1 "check_like" 510 93 2 226 515),
 (232,fO "check_like" yL Js 231),
 (238,c1 "width_over" 518 96 2 233 524),
 (239,fO "width_over" zC Js 238),
 (245,c1 "reads" 527 107 1 240 532),
 (246,fO "reads" rT Js 245),
 (252,c1 "leaves_of" 535 110 1 247 542),
 (253,fO "leaves_of" wX Js 252),
 (257,c2 "names_in" 545 118 2 254 548),
 (258,fO "names_in" vI Js 257),
 (262,c2 "marks_of" 553 121 1 259 556),
 (263,fO "marks_of" vH I0 262),
 (269,c1 "unknown_span" 559 125 1 264 563),
 (270,fO "unknown_span" bb I0 269),
 (276,c1 "with_mark" 566 127 3 271 575),
 (277,fO "with_mark" xT I0 276),
 (281,c2 "span_of" 578 132 2 278 581),
 (282,fO "span_of" uU I0 281),
 (288,c1 "span_over" 584 143 2 283 590),
 (289,fO "span_over" xQ I0 288),
 (295,c1 "span_of_two" 593 154 3 290 599),
 (296,fO "span_of_two" ai I0 295),
 (302,c1 "doubt" 602 168 1 297 606),
 (303,fO "doubt" rR I0 302),
 (309,c1 "doubted" 609 170 3 304 615),
 (310,fO "doubted" uQ I0 309),
 (316,c1 "not_span" 618 172 1 311 622),
 (317,fO "not_span" vJ I0 316),
 (323,c1 "sum_span" 625 174 3 318 636),
 (324,fO "sum_span" vK I0 323),
 (330,c1 "less_span" 639 181 2 325 644),
 (331,fO "less_span" wY I0 330),
 (337,c1 "same_span" 647 183 2 332 653),
 (338,fO "same_span" xE I0 337),
 (344,c1 "pick_span" 656 188 3 339 662),
 (345,fO "pick_span" xB I0 344),
 (351,c1 "join_span" 665 194 2 346 670),
 (352,fO "join_span" wW I0 351),
 (358,c1 "part_span" 673 196 3 353 679),
 (359,fO "part_span" xA I0 358),
 (363,c2 "made" 694 204 3 360 697),
 (364,fO "made" pT KU 363),
 (370,c1 "check_many" 700 214 3 365 706),
 (371,fO "check_many" yM KU 370),
 (375,c2 "is_name" 709 217 1 372 712),
 (376,fO "is_name" uR KU 375),
 (382,c1 "take_name" 715 219 2 377 720),
 (383,fO "take_name" xR KU 382),
 (389,c1 "check_once" 723 224 2 384 728),
 (390,fO "check_once" yN KU 389),
 (396,c1 "checked_boxes" 731 227 2 391 740),
 (397,fO "checked_boxes" cu KU 396),
 (403,c1 "checked_doors" 743 235 2 398 751),
 (404,fO "checked_doors" cv KU 403),
 (410,c1 "check_rule" 754 242 4 405 765),
 (411,fO "check_rule" yP KU 410),
 (417,c1 "rule_of" 768 252 2 412 774),
 (418,fO "rule_of" uS KU 417),
 (422,c2 "rule_names" 777 257 1 419 780),
 (423,fO "rule_names" zB KU 422),
 (427,c2 "widths_of" 783 259 1 424 786),
 (428,fO "widths_of" xS KU 427),
 (434,c1 "asked_bits" 793 263 3 429 803),
 (435,fO "asked_bits" yH HV 434),
 (441,c1 "shared" 806 274 2 436 811),
 (442,fO "shared" tD HV 441),
 (448,c1 "unshared" 814 276 2 443 819),
 (449,fO "unshared" vL HV 448),
 (453,c2 "bits_named" 822 278 3 450 825),
 (454,fO "bits_named" yI HV 453),
 (467,⟨(.type "code"),none,.fields #[(.str "__init__" 840),(.str "Known.__init__" 841),(.str "/claim/cut.py" 842),(.int (285) 0),(.int (2) 0),(.int (0) 0),(.int (0) 0),(.int (3) 0),(.ref 462),(.bool true),(.int (181) 0),(.ref 463),.none,(.ref 464),(.ref 465),(.ref 466),(.int (848) 0),(.int (285) 0),(.str "/claim/cut.py" 849)],#[]⟩),
 (468,Pb "__init__" "Known.__init__" b9 HV 467),
 (474,⟨(.type "code"),none,.fields #[(.str "learn" 851),(.str "Known.learn" 852),(.str "/claim/cut.py" 853),(.int (292) 0),(.int (2) 0),(.int (0) 0),(.int (0) 0),(.int (3) 0),(.ref 469),(.bool true),(.int (181) 0),(.ref 470),.none,(.ref 471),(.ref 472),(.ref 473),(.int (856) 0),(.int (292) 0),(.str "/claim/cut.py" 857)],#[]⟩),
 (475,Pb "learn" "Known.learn" zQ HV 474),
 (481,⟨(.type "code"),none,.fields #[(.str "forget" 859),(.str "Known.forget" 860),(.str "/claim/cut.py" 861),(.int (296) 0),(.int (1) 0),(.int (0) 0),(.int (0) 0),(.int (3) 0),(.ref 476),(.bool true),(.int (181) 0),(.ref 477),.none,(.ref 478),(.ref 479),(.ref 480),(.int (863) 0),(.int (296) 0),(.str "/claim/cut.py" 864)],#[]⟩),
 (482,Pb "forget" "Known.forget" az HV 481),
 (488,⟨(.type "code"),none,.fields #[(.str "know" 866),(.str "Known.know" 867),(.str "/claim/cut.py" 868),(.int (300) 0),(.int (2) 0),(.int (0) 0),(.int (0) 0),(.int (3) 0),(.ref 483),(.bool true),(.int (181) 0),(.ref 484),.none,(.ref 485),(.ref 486),(.ref 487),(.int (871) 0),(.int (300) 0),(.str "/claim/cut.py" 872)],#[]⟩),
 (489,Pb "know" "Known.know" yA HV 488),
 (495,⟨(.type "code"),none,.fields #[(.str "go_on" 874),(.str "Known.go_on" 875),(.str "/claim/cut.py" 876),(.int (306) 0),(.int (2) 0),(.int (0) 0),(.int (0) 0),(.int (3) 0),(.ref 490),(.bool true),(.int (181) 0),(.ref 491),.none,(.ref 492),(.ref 493),(.ref 494),(.int (883) 0),(.int (306) 0),(.str "/claim/cut.py" 884)],#[]⟩),
 (496,Pb "go_on" "Known.go_on" zP HV 495),
 (502,⟨(.type "code"),none,.fields #[(.str "settled_at" 886),(.str "Known.settled_at" 887),(.str "/claim/cut.py" 888),(.int (321) 0),(.int (3) 0),(.int (0) 0),(.int (0) 0),(.int (3) 0),(.ref 497),(.bool true),(.int (181) 0),(.ref 498),.none,(.ref 499),(.ref 500),(.ref 501),(.int (893) 0),(.int (321) 0),(.str "/claim/cut.py" 894)],#[]⟩),
 (503,Pb "settled_at" "Known.settled_at" eh HV 502),
 (509,⟨(.type "code"),none,.fields #[(.str "put" 896),(.str "Known.put" 897),(.str "/claim/cut.py" 898),(.int (326) 0),(.int (3) 0),(.int (0) 0),(.int (0) 0),(.int (3) 0),(.ref 504),(.bool true),(.int (181) 0),(.ref 505),.none,(.ref 506),(.ref 507),(.ref 508),(.int (904) 0),(.int (326) 0),(.str "/claim/cut.py" 905)],#[]⟩),
 (510,Pb "put" "Known.put" wQ HV 509),
 (516,⟨(.type "code"),none,.fields #[(.str "turn" 907),(.str "Known.turn" 908),(.str "/claim/cut.py" 909),(.int (331) 0),(.int (1) 0),(.int (0) 0),(.int (0) 0),(.int (3) 0),(.ref 511),(.bool true),(.int (181) 0),(.ref 512),.none,(.ref 513),(.ref 514),(.ref 515),(.int (911) 0),(.int (331) 0),(.str "/claim/cut.py" 912)],#[]⟩),
 (517,Pb "turn" "Known.turn" yB HV 516),
 (523,⟨(.type "code"),none,.fields #[(.str "guard_marks" 914),(.str "Known.guard_marks" 915),(.str "/claim/cut.py" 916),(.int (340) 0),(.int (2) 0),(.int (0) 0),(.int (0) 0),(.int (3) 0),(.ref 518),(.bool true),(.int (181) 0),(.ref 519),.none,(.ref 520),(.ref 521),(.ref 522),(.int (919) 0),(.int (340) 0),(.str "/claim/cut.py" 920)],#[]⟩),
 (524,Pb "guard_marks" "Known.guard_marks" fb HV 523),
 (530,⟨(.type "code"),none,.fields #[(.str "guard_mark" 922),(.str "Known.guard_mark" 923),(.str "/claim/cut.py" 924),(.int (343) 0),(.int (3) 0),(.int (0) 0),(.int (0) 0),(.int (3) 0),(.ref 525),(.bool true),(.int (181) 0),(.ref 526),.none,(.ref 527),(.ref 528),(.ref 529),(.int (928) 0),(.int (343) 0),(.str "/claim/cut.py" 929)],#[]⟩),
 (531,Pb "guard_mark" "Known.guard_mark" d9 HV 530),
 (537,⟨(.type "code"),none,.fields #[(.str "both_words" 931),(.str "Known.both_words" 932),(.str "/claim/cut.py" 933),(.int (346) 0),(.int (1) 0),(.int (0) 0),(.int (0) 0),(.int (3) 0),(.ref 532),(.bool true),(.int (181) 0),(.ref 533),.none,(.ref 534),(.ref 535),(.ref 536),(.int (935) 0),(.int (346) 0),(.str "/claim/cut.py" 936)],#[]⟩),
 (538,Pb "both_words" "Known.both_words" dr HV 537),
 (542,⟨(.type "code"),none,.fields #[(.str "low_words" 938),(.str "Known.low_words" 939),(.str "/claim/cut.py" 940),(.int (349) 0),(.int (2) 0),(.int (0) 0),(.int (0) 0),(.int (3) 0),(.ref 539),(.bool true),(.int (181) 0),(.ref 540),.none,.none,.none,(.ref 541),(.int (941) 0),(.int (349) 0),(.str "/claim/cut.py" 942)],#[]⟩),
 (543,Pb "low_words" "Known.low_words" fe HV 542),
 (545,⟨(.type "dict"),none,.dict #[kE P "__module__" 835 (.str "beatwright.papers" 789),kE P "__firstlineno__" 839 (.int (283) 838),kE P "__init__" 850 (.ref 468),kE P "learn" 858 (.ref 475),kE P "forget" 865 (.ref 482),kE P "know" 873 (.ref 489),kE P "go_on" 885 (.ref 496),kE P "settled_at" 895 (.ref 503),kE P "put" 906 (.ref 510),kE P "turn" 913 (.ref 517),kE P "guard_marks" 921 (.ref 524),kE P "guard_mark" 930 (.ref 531),kE P "both_words" 937 (.ref 538),kE P "low_words" 943 (.ref 543),kE P "__static_attributes__" 947 (.ref 544),kE P "__dict__" 949 (.ref 547),kE P "__weakref__" 951 (.ref 548),kE P "__doc__" 952 .none] 4,#[]⟩),
 (546,⟨(.type "type"),none,.cls {name:="Known",bases:=[(.type "object")],mro:=[(.ref 546),(.type "object")],ns:=545,qualname:="Known",hasDict:=true,slotNames:=[],subclasses:=[],abstract:=false,collection:=none,hasDel:=false},#[none,none,some (.str "Known" 828),some (.str "Known" 836),some (.builtin "object.__new__"),some (.bool true)]⟩),
 (556,c1 "never_both" 955 352 3 551 965),
 (557,fO "never_both" yU HV 556),
 (561,c2 "written" 970 367 2 558 973),
 (562,fO "written" uV Rq 561),
 (568,c1 "read_early" 976 369 2 563 981),
 (569,fO "read_early" zA Rq 568),
 (575,c1 "read_late" 984 371 2 570 989),
 (576,fO "read_late" xC Rq 575),
 (582,c1 "boxes_read" 992 373 2 577 999),
 (583,fO "boxes_read" yJ Rq 582),
 (589,c1 "clash" 1002 378 3 584 1010),
 (590,fO "clash" rQ Rq 589),
 (594,c2 "clashes_of" 1015 387 2 591 1018),
 (595,fO "clashes_of" yR PQ 594),
 (601,c1 "check_order" 1021 393 2 596 1026),
 (602,fO "check_order" af PQ 601),
 (606,c2 "clashing" 1029 396 3 603 1032),
 (607,fO "clashing" vF PQ 606),
 (613,c1 "are_paired" 1035 398 3 608 1041),
 (614,fO "are_paired" yG PQ 613),
 (618,c2 "rivals_of" 1044 400 3 615 1047),
 (619,fO "rivals_of" xD PQ 618),
 (625,c1 "ahead_of" 1050 402 2 620 1055),
 (626,fO "ahead_of" vE PQ 625),
 (632,c1 "needs" 1060 405 2 627 1065),
 (633,fO "needs" rS VF 632),
 (637,c2 "needs_with" 1068 407 3 634 1071),
 (638,fO "needs_with" yT VF 637),
 (644,c1 "needed_by" 1074 409 4 639 1087),
 (645,fO "needed_by" wZ VF 644),
 (651,c1 "_law_cell_at" 1092 420 2 646 1097),
 (652,fO "_law_cell_at" ba KS 651),
 (658,c1 "_law_whole" 1100 424 1 653 1104),
 (659,fO "_law_whole" yE KS 658),
 (665,c1 "_law_name" 1107 426 2 660 1117),
 (666,fO "_law_name" wS KS 665),
 (670,c2 "_law_leaf" 1120 437 4 667 1123),
 (671,fO "_law_leaf" wR KS 670),
 (675,c2 "_law_term" 1126 443 5 672 1129),
 (676,fO "_law_term" wU KS 675),
 (682,c1 "_law_writes" 1132 473 3 677 1142),
 (683,fO "_law_writes" ae KS 682),
 (689,c1 "_law_things" 1145 486 4 684 1165),
 (690,fO "_law_things" zR KS 689),
 (701,c2 "_law_order" 1178 515 2 698 1181),
 (702,fO "_law_order" yD KS 701),
 (708,c1 "_law_read" 1184 523 2 703 1191),
 (709,fO "_law_read" wT KS 708),
 (713,c2 "_law_needs" 1194 531 3 710 1197),
 (714,fO "_law_needs" yC KS 713),
 (720,c1 "law" 1200 547 1 715 1213),
 (721,fO "law" iE KS 720)]
noncomputable def has:List Ao:=[3,129,130,136,137,143,144,150,151,157,158,162,163,164,170,171,177,178,184,185,189,190,196,197,203,204,210,211,217,218,224,225,231,232,238,239,245,246,252,253,257,258,262,263,269,270,276,277,281,282,288,289,295,296,302,303,309,310,316,317,323,324,330,331,337,338,344,345,351,352,358,359,363,364,370,371,375,376,382,383,389,390,396,397,403,404,410,411,417,418,422,423,427,428,434,435,441,442,448,449,453,454,467,468,474,475,481,482,488,489,495,496,502,503,509,510,516,517,523,524,530,531,537,538,542,543,545,546,556,557,561,562,568,569,575,576,582,583,589,590,594,595,601,602,606,607,613,614,618,619,625,626,632,633,637,638,644,645,651,652,658,659,665,666,670,671,675,676,682,683,689,690,701,702,708,709,713,714,720,721]
noncomputable def hq:AX:=view C4 [106]
noncomputable def hloose:List Str:="BeatError"::"NoName"::"Twice"::"NoWidth"::"NoWord"::"TooMany"::"Unknown"::"Unlike"::"NoOrder"::"WIDEST"::"is_width"::"fits"::"check_width"::"check_word"::"cut"::"bits_of"::"MOST_PARTS"::"MOST_DEEP"::"HELD"::"held_terms"::"size_of"::"width_of"::"checked_width"::"checked_num"::"width_named"::"check_own"::"check_part"::"check_join"::"check_like"::"width_over"::"reads"::"leaves_of"::"names_in"::"marks_of"::"unknown_span"::"with_mark"::"span_of"::"span_over"::"span_of_two"::"doubt"::"doubted"::"not_span"::"sum_span"::"less_span"::"same_span"::"pick_span"::"join_span"::"part_span"::"MOST_BOXES"::"MOST_DOORS"::"MOST_RULES"::"MOST_WRITES"::"LONGEST_NAME"::"made"::"check_many"::"is_name"::"take_name"::"check_once"::"checked_boxes"::"checked_doors"::"check_rule"::"rule_of"::"rule_names"::"widths_of"::"MOST_CUBES"::"asked_bits"::"shared"::"unshared"::"bits_named"::"Known"::"never_both"::"written"::"read_early"::"read_late"::"boxes_read"::"clash"::"clashes_of"::"check_order"::"clashing"::"are_paired"::"rivals_of"::"ahead_of"::"needs"::"needs_with"::"needed_by"::"_law_cell_at"::"_law_whole"::"_law_name"::"_law_leaf"::"_law_term"::"_law_writes"::"_law_things"::"_law_words"::"_law_order"::"_law_read"::"_law_needs"::[]
noncomputable def hXt (q:AX)(s:Aj):Bool:=xlAt q [] s && recOk [] s
noncomputable def hrun (H₀:JD->BU)(p q:AX)(w:Bj)(os:Vr):=SH.whole (H₀ w.params) p q hloose (hXt q) (λs=>has.map s.heap.get?) 11 (some (.ref 6)) 5328 w os
noncomputable def hgood (K:JD->Frag)(q:AX)(w:Bj):=some (true,openGood q hloose,(K w.params).map λp=>some p.2)
theorem hrun_self:hrun=hrun:=rfl
theorem hgood_self:hgood=hgood:=rfl
lay_quick My.hrun My.hgood
name_quick hrunQ for My.hrun by My.hrun_self
name_quick hgoodQ for My.hgood by My.hgood_self
theorem Zll (w:Bj):(λos=>PySem.W.Fast.hrunQ Ew C4 hq (w.withFollow "special-get-raises" false) os)=λ_=>PySem.W.Fast.hgoodQ hK hq (w.withFollow "special-get-raises" false):=by kernel_rfl
theorem ZmT (w:Bj):(λos=>PySem.W.Fast.hrunQ Ew C4 hq (w.withFollow "special-get-raises" true) os)=λ_=>PySem.W.Fast.hgoodQ hK hq (w.withFollow "special-get-raises" true):=by kernel_rfl
theorem ZmU:∀w:Bj,(λos=>PySem.W.Fast.hrunQ Ew C4 hq w os)=λ_=>PySem.W.Fast.hgoodQ hK hq w:=byRow2 "special-get-raises" Zll ZmT
noncomputable def hYf (s:Aj):List (Option Obj):=has.map s.heap.get?
noncomputable def hYa (w:Bj):List (Option Obj):=(hK w.params).map λp=>some p.2
theorem ws_self:OV=OV:=rfl
lay_quick PySem.W.OpenLaw.wellSaid
name_quick wsQ for PySem.W.OpenLaw.wellSaid by My.ws_self
theorem hsaid:PySem.W.Fast.wsQ H0=true:=by kernel_rfl
theorem hleft:LeftO C4 hq hloose (hXt hq) hYf hYa 11356:=SH.left_of (Yf:=hYf) (Ya:=hYa) (M:=5328) (n₀:=11) (ann:=(some (.ref 6))) (by kernel_rfl) (by decide) (λs=>by kernel_rfl) (λP=>by kernel_rfl) (λw=>by kernel_rfl) (by decide) λw os=>(congrFun (congrFun (congrFun (congrFun (congrFun PySem.W.Fast.hrunQ_eq _) _) _) w) os).trans ((congrFun (ZmU w) os).trans (congrFun (congrFun (congrFun PySem.W.Fast.hgoodQ_eq _) _) w).symm)
structure Hd (w:Bj)(n:Str)(s:A4)(f c:Nat)(m:Ad):Prop where
 a:nsIn (hK w.params) B3 n=some (some (.ref f))
 l:(hK w.params).lookup f=some (fO n s m c)
 c:codeIn (hK w.params) (.ref c) n=true
 k:keepIn (hK w.params) (.ref f)=true
structure Hm (w:Bj)(C:Ao)(n q:Str)(s:A4)(f c:Nat)(m:Ad):Prop where
 a:findIn (hK w.params) (.ref C) n=some (some (.ref f))
 i:isFn (hK w.params) (.ref f)=true
 l:(hK w.params).lookup f=some (Pb n q s m c)
 c:codeIn (hK w.params) (.ref c) q=true
 k:keepIn (hK w.params) (.ref f)=true
theorem NW {α:Type}{us:List α}{n:Nat}(h:us.length=n+1):∃a t,us=a::t/\t.length=n:=by
 cases us with
 |nil=>cases h
 |cons a t=>exact⟨a,t,rfl,GQ h⟩
theorem Tj {fd:B9}{ps:List Str}{us:List Ad}(hl:us.length=1)(h:∀a0,Et fd ⟨[a0],[]⟩=pure (ps.zip [a0])):Et fd ⟨us,[]⟩=pure (ps.zip us):=by
 obtain⟨a0,u0,rfl,l0⟩:=NW hl;cases AG l0;exact h a0
theorem Ti {fd:B9}{ps:List Str}{us:List Ad}(hl:us.length=2)(h:∀a0 a1,Et fd ⟨[a0,a1],[]⟩=pure (ps.zip [a0,a1])):Et fd ⟨us,[]⟩=pure (ps.zip us):=by
 obtain⟨a0,u0,rfl,l0⟩:=NW hl;obtain⟨a1,u1,rfl,l1⟩:=NW l0;cases AG l1;exact h a0 a1
theorem Th {fd:B9}{ps:List Str}{us:List Ad}(hl:us.length=3)(h:∀a0 a1 a2,Et fd ⟨[a0,a1,a2],[]⟩=pure (ps.zip [a0,a1,a2])):Et fd ⟨us,[]⟩=pure (ps.zip us):=by
 obtain⟨a0,u0,rfl,l0⟩:=NW hl;obtain⟨a1,u1,rfl,l1⟩:=NW l0;obtain⟨a2,u2,rfl,l2⟩:=NW l1;cases AG l2;exact h a0 a1 a2
theorem Tg {fd:B9}{ps:List Str}{us:List Ad}(hl:us.length=4)(h:∀a0 a1 a2 a3,Et fd ⟨[a0,a1,a2,a3],[]⟩=pure (ps.zip [a0,a1,a2,a3])):Et fd ⟨us,[]⟩=pure (ps.zip us):=by
 obtain⟨a0,u0,rfl,l0⟩:=NW hl;obtain⟨a1,u1,rfl,l1⟩:=NW l0;obtain⟨a2,u2,rfl,l2⟩:=NW l1;obtain⟨a3,u3,rfl,l3⟩:=NW l2;cases AG l3;exact h a0 a1 a2 a3
theorem Tf {fd:B9}{ps:List Str}{us:List Ad}(hl:us.length=5)(h:∀a0 a1 a2 a3 a4,Et fd ⟨[a0,a1,a2,a3,a4],[]⟩=pure (ps.zip [a0,a1,a2,a3,a4])):Et fd ⟨us,[]⟩=pure (ps.zip us):=by
 obtain⟨a0,u0,rfl,l0⟩:=NW hl;obtain⟨a1,u1,rfl,l1⟩:=NW l0;obtain⟨a2,u2,rfl,l2⟩:=NW l1;obtain⟨a3,u3,rfl,l3⟩:=NW l2;obtain⟨a4,u4,rfl,l4⟩:=NW l3;cases AG l4;exact h a0 a1 a2 a3 a4
section
variable {w:Bj}{h:BU}{mg:Str->Option Ad}
noncomputable def hd {n:Str}{s:A4}{ps:List Str}(X:(hK w.params).In h)(G:h.Ns B3 mg)(f c:Nat)(m:Ad)(H:Hd w n s f c m:=by exact⟨by kernel_rfl,by kernel_rfl,by kernel_rfl,by kernel_rfl⟩)
  (b:∀(kV dc pm:Ad) (an:Option Ao) (cd ct:Ad) (us:List Ad),us.length=ps.length->Et (fnOf n n (Sf s) (LB s) (Gu s) .none kV dc pm an cd ct) ⟨us,[]⟩=pure (ps.zip us):=by intro _ _ _ _ _ _ us h;first | exact Tj h (λ_=>rfl) | exact Ti h (λ_ _=>rfl) | exact Th h (λ_ _ _=>rfl) | exact Tg h (λ_ _ _ _=>rfl) | exact Tf h (λ_ _ _ _ _=>rfl)):DF (hK w.params) mg n s ps:=
 ⟨f,fF n s m c,L2.fun_mk (st:=s) H.l H.c H.k,(L2.fun_mk (st:=s) H.l H.c H.k).binds b,mg_of X G H.a⟩
noncomputable def PV {n q:Str}{s:A4}{ps:List Str}{C:Ao}(f c:Nat)(m:Ad)(H:Hm w C n q s f c m:=by exact⟨by kernel_rfl,by kernel_rfl,by kernel_rfl,by kernel_rfl,by kernel_rfl⟩)
  (b:∀(kV dc pm:Ad) (an:Option Ao) (cd ct:Ad) (us:List Ad),us.length=ps.length->Et (fnOf n q (Sf s) (LB s) (Gu s) .none kV dc pm an cd ct) ⟨us,[]⟩=pure (ps.zip us):=by intro _ _ _ _ _ _ us h;first | exact Tj h (λ_=>rfl) | exact Ti h (λ_ _=>rfl) | exact Th h (λ_ _ _=>rfl) | exact Tg h (λ_ _ _ _=>rfl) | exact Tf h (λ_ _ _ _ _=>rfl)):DM (hK w.params) C n q s ps:=
 ⟨f,mV n q s m c,L2.fun_mk (st:=s) H.l H.c H.k,(L2.fun_mk (st:=s) H.l H.c H.k).binds b,⟨H.a,H.i,H.k⟩⟩
theorem hs {n:Str}{v:Ad}(X:(hK w.params).In h)(G:h.Ns B3 mg)(e:nsIn (hK w.params) B3 n=some (some v):=by kernel_rfl):mg n=some v:=mg_of X G e
theorem hn {n:Str}(X:(hK w.params).In h)(G:h.Ns B3 mg)(e:nsIn (hK w.params) B3 n=some none:=by kernel_rfl):mg n=none:=mg_none_of X G e
end
theorem xv (w:Bj):L2.TabOk (hK w.params) w 164 Me:=⟨oF w.params,15,by kernel_rfl,by k_keys,λx v e=>by
 have m:=L2.lookup_mem e;unfold Me at m;simp only[BD,Rb,AS,or_false]at m;rcases m with⟨rfl,rfl⟩|⟨rfl,rfl⟩|⟨rfl,rfl⟩|⟨rfl,rfl⟩|⟨rfl,rfl⟩|⟨rfl,rfl⟩|⟨rfl,rfl⟩|⟨rfl,rfl⟩|⟨rfl,rfl⟩|⟨rfl,rfl⟩|⟨rfl,rfl⟩|⟨rfl,rfl⟩|⟨rfl,rfl⟩|⟨rfl,rfl⟩|⟨rfl,rfl⟩
 .exact⟨390,by kernel_rfl⟩
 .exact⟨392,by kernel_rfl⟩
 .exact⟨394,by kernel_rfl⟩
 .exact⟨396,by kernel_rfl⟩
 .exact⟨398,by kernel_rfl⟩
 .exact⟨400,by kernel_rfl⟩
 .exact⟨402,by kernel_rfl⟩
 .exact⟨404,by kernel_rfl⟩
 .exact⟨406,by kernel_rfl⟩
 .exact⟨408,by kernel_rfl⟩
 .exact⟨410,by kernel_rfl⟩
 .exact⟨412,by kernel_rfl⟩
 .exact⟨414,by kernel_rfl⟩
 .exact⟨416,by kernel_rfl⟩
 .exact ⟨418,by kernel_rfl⟩⟩
theorem all_mk {P:AX}{w:Bj}{h:BU}{mg:Str->Option Ad}{fa:Ao}(X:(hK w.params).In h)(G:h.Ns B3 mg)(hfa:mg "law" = some (.ref fa)):∃fd:B9,(∀(s:Aj) (v:Ad),No s fd ⟨[v],[]⟩ [("script",v)])/\∀base:BU,(hK w.params).In base->base.Ns B3 mg->L2.FnOk P w (hK w.params) mg base L2.CX0 50 fa fd ["script"] (L3.lSp (hK w.params) L3.spLaw2):=by
 have e:=hfa.symm.trans (hs X G (v:=.ref 721));cases e
 let T:Tx (hK w.params) w mg:=⟨546,
  ⟨by kernel_rfl,by kernel_rfl,by kernel_rfl,by kernel_rfl⟩,
  hs X G,
  (show Eb _ _ _ by unfold Eb;kernel_rfl),
  (show Eb _ _ _ by unfold Eb;kernel_rfl),
  (show Eb _ _ _ by unfold Eb;kernel_rfl),
  hd X G 130 129 PR,
  hd X G 137 136 PR,
  hd X G 144 143 PR,
  hd X G 151 150 PR,
  hd X G 158 157 PR,
  hd X G 163 162 PR,
  hd X G 171 170 Js,
  hd X G 178 177 Js,
  hd X G 185 184 Js,
  hd X G 190 189 Js,
  hd X G 197 196 Js,
  hd X G 204 203 Js,
  hd X G 211 210 Js,
  hd X G 218 217 Js,
  hd X G 225 224 Js,
  hd X G 232 231 Js,
  hd X G 239 238 Js,
  hd X G 246 245 Js,
  hd X G 253 252 Js,
  hd X G 258 257 Js,
  hd X G 263 262 I0,
  hd X G 270 269 I0,
  hd X G 277 276 I0,
  hd X G 282 281 I0,
  hd X G 289 288 I0,
  hd X G 296 295 I0,
  hd X G 303 302 I0,
  hd X G 310 309 I0,
  hd X G 317 316 I0,
  hd X G 324 323 I0,
  hd X G 331 330 I0,
  hd X G 338 337 I0,
  hd X G 345 344 I0,
  hd X G 352 351 I0,
  hd X G 359 358 I0,
  hd X G 364 363 KU,
  hd X G 371 370 KU,
  hd X G 376 375 KU,
  hd X G 383 382 KU,
  hd X G 390 389 KU,
  hd X G 397 396 KU,
  hd X G 404 403 KU,
  hd X G 411 410 KU,
  hd X G 418 417 KU,
  hd X G 423 422 KU,
  hd X G 428 427 KU,
  hd X G 435 434 HV,
  hd X G 442 441 HV,
  hd X G 449 448 HV,
  hd X G 454 453 HV,
  PV 468 467 HV,
  ⟨by kernel_rfl,by kernel_rfl,by kernel_rfl,by kernel_rfl⟩,
  PV 475 474 HV,
  PV 482 481 HV,
  PV 489 488 HV,
  PV 496 495 HV,
  PV 503 502 HV,
  PV 510 509 HV,
  PV 517 516 HV,
  PV 524 523 HV,
  PV 531 530 HV,
  PV 538 537 HV,
  PV 543 542 HV,
  hd X G 557 556 HV,
  hd X G 562 561 Rq,
  hd X G 569 568 Rq,
  hd X G 576 575 Rq,
  hd X G 583 582 Rq,
  hd X G 590 589 Rq,
  hd X G 595 594 PQ,
  hd X G 602 601 PQ,
  hd X G 607 606 PQ,
  hd X G 614 613 PQ,
  hd X G 619 618 PQ,
  hd X G 626 625 PQ,
  hd X G 633 632 VF,
  hd X G 638 637 VF,
  hd X G 645 644 VF,
  hd X G 652 651 KS,
  hd X G 659 658 KS,
  hd X G 666 665 KS,
  hd X G 671 670 KS,
  hd X G 676 675 KS,
  hd X G 683 682 KS,
  hd X G 690 689 KS,
  hd X G 702 701 KS,
  hd X G 709 708 KS,
  hd X G 714 713 KS,
  hd X G 721 720 KS,
  _,
  hs X G (v:=(.int (64) 337)),
  _,
  hs X G (v:=(.int (100) 385)),
  _,
  hs X G (v:=(.int (12) 387)),
  _,
  hs X G (v:=(.int (12) 684)),
  _,
  hs X G (v:=(.int (6) 686)),
  _,
  hs X G (v:=(.int (8) 688)),
  _,
  hs X G (v:=(.int (6) 690)),
  _,
  hs X G (v:=(.int (8) 692)),
  _,
  hs X G (v:=(.int (64) 791)),
  164,
  hs X G,
  xv w,
  ⟨hn X G,hn X G,hn X G,hn X G,hn X G,hn X G,hn X G,hn X G,hn X G,hn X G,hn X G,hn X G,hn X G,hn X G,hn X G,hn X G,hn X G,hn X G⟩⟩
 exact⟨_,λs v=>.of_eq rfl,λbase _ _=>oz T⟩
end My
open PySem PySem.W PyProof.Rows
set_option maxRecDepth 100000 in
set_option maxHeartbeats 0 in
theorem PySem.Challenge.cw_beatwright_k41_needs_holds : PySem.Challenge.rw_beatwright_k41_needs.Holds := by
 refine holds_law ((congrFun PySem.W.Fast.wsQ_eq _).trans My.hsaid) λsaid=>?_;refine PySem.W.holds_open (q:=My.hq) (loose:=My.hloose) (Xt:=My.hXt My.hq) (XP:=XL My.hq []) (Yf:=My.hYf) (Ya:=My.hYa) (YP:=InK My.hK) (N:=11356) My.hleft (InK.of λ_=>rfl) InK.keeps (λs e=>xl_of s (Bool.and_eq_true_iff.mp e).1) XL.keeps (by rfl) (by rfl) (by rfl) (λs e=>recFacts_of (Bool.and_eq_true_iff.mp e).2) (by rfl) (by first | assumption | nofun) (by nofun) ⟨rfl,rfl,rfl,rfl,rfl,by nofun⟩ ?hw ?hc
 case hw=>w_witness2
 refine L3.walk2 (l:=rw_beatwright_k41_needs) (k:=50) rfl rfl ⟨rfl,by decide,by decide⟩ (λw h Y=>Y) ?F;intro w mg fa h KX G hmg;exact My.all_mk KX G hmg
#print axioms PySem.Challenge.cw_beatwright_k41_needs_holds
