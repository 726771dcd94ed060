import PyProof.Rows.All
import Wide.All
import OpenK.AllK
import Wide.FinOn
import Lean
import PyProof.EqAt
import PyProof.EqKinds
import PyProof.TupleCall
import PyProof.ZipIter
import PyProof.DictIter
import PyProof.DictWalks
import PyProof.CollectWalk
import PyProof.Rows.SetFrom
import PyProof.FactsAll.set_1
import PyProof.Rows.SortStr
import PyProof.DictItems
import KE.KDictList
import PyProof.AttrMissHeap
import PyProof.DictList
import KE.KDictOf
import PyProof.MeetsStr
import PyProof.StrOps2
import PyProof.EnumMake
import PyProof.Rows.EnumRows
import PyProof.SetKind
import PyProof.TupleKey
import PyProof.FactsAll.set_2
import PyProof.FactsAll.dict_3
import PyProof.FactsAll.tuple_2
import PyProof.FactsAll.tuple_3
import PySem.Challenge.RW_beatwright_k41_needs
set_option Elab.async false
set_option linter.all false
set_option maxRecDepth 100000
theorem Ao {g:Prop}(h:∀G:Prop,(g->G)->G):g:=h g id
set_option compiler.extract_closed false
set_option bootstrap.genMatcherCode false
noncomputable section
open List.Perm (of_eq)
local macro_rules | `(tactic| ext)=>`(tactic| first | lia | omega)
local macro_rules | `(tactic| nofun)=>`(tactic| decide +kernel)
open PySem renaming wpAny_bind->Aa,wpAny_pure->Ad,Value->Ai,sizeLine->Am,Shared->Ar,starEach->As,wpAny->Au,Addr->Av,Spec->Az,model->AA,wpAny_setState_of->A5,compareOp->A7,scanBound->Bg,Program->Bq,binaryOp->Bt,foldedSetIterable->Bw,strKind->Bx,wpAny_mono->BK,World->BM,wpAny_holding->BV,mainGlobals->BW,wpAny_newObj_type->BZ,wpAny_call_entry->B8,Expr->Ca,backTo->Cc,wpAny_of_eq->Cd,wpAny_Call_Name_kw->Cm,Around->Cy,attributeBase->CF,boot_len->CG,assignEach->CT,Heap->CV,cLine->C9,wpAny_askSetting->Dc,wpAny_setField->Dg,SetTable->Dl,codeAny_builtin->Dz,wpAny_storeSet_of->DA,keywordEach->DC,bootBuiltins->DD,Stmt->DG,FuncData->DH,codeAny->DU,swapsWith->DW,Paired->D0,Builtin->Ek,wpAny_passesOwn->Em,bindArgs->En,wpAny_truthy_bool->EA,mem_of_lookup->EE,Keyword->E5,sysModules->E8,wpAny_typeOf->Fj,hashStr->Fo,backToKw->Fq,NameKind->Fu,builtinLookup_eq_fast->FD,plainId_quiet->FR,behindInMarks->FT,sliceBounds->FU,holding->Gy,codeAny_mono->Gz,wpAny_rule->GP,tupleKind_room_in1->GQ,wpAny_pyIter_list->Hq,wpAny_comprehension_free->Hu,wpAny_isInstance->HN,wpAny_callSpecial?_slot->HP,relayAll->HS,pickOrder->HU,DictEntry->HZ,setsByText->Im,setAddHashed->Io,pyNext->Ip,call_meets->Iq,call->Ir,wpAny_execs_nil->II,typeLookup_type->IJ,letOwnedTupleGo->IK,sizeLine_eq->Jn,merged->Jo,entryFor_alias->Jr,valueAt->JC,getMethod->JE,getItem->JF,callerA->JG,Params->Kh,sub_set_self->KP,entryFor->KZ,Scope->K2,wpAny_eqBool_int->Lq,tupleKind->Lr,setDiscardHashed->Lu,rawInt->Lv,assign->LB,Builtin->LF,IsPart->LG,subscripted->L5,IsRangeIter->Mg,importedModules->Mq,Within->Mr,unaryOp->MP,standAt->MQ,notedBy->MR,BindsTo->MY,wpAny_seqItems->Ni,typeLookup->Nj,typeIs_str->Nk,newFunctionEnv->No,compEnvC->Nq,again->Nu,PlainAttrs->Ny,Operator->Nz,setWalkUnseen->OH,call->OJ,bindL->Pe,bindC->Pf,atKey->Pg,PassesOwn->Pm,wpAny_pyNext_range_end->PM,wpAny_pyNext_list_item->PN,wpAny_pyIter_rangeiter->PP,wpAny_Call_method_late->PQ,setFind->PU,newList->PX,isTrue->PZ,wpAny_pyNext_list_end->QS,wpAny_notOrdered_dict->QU,wpAny_field->Rn,rule->Ro,lookup_relabel_local->Rp,callWith->Rq,wpAny_binaryOp_same->Sl,wpAny_pyIter_range->Tn,wpAny_call->To,wpAny_Name->Tp,typeOf->Tq,setEntries->Tr,pyIter->Ts,getattributeRaised->Tu,builtinsNs->Tw,Result->TB,stored->TC,wpAny_pyIter_slot->UW,wpAny_pyIter_enum->UX,wpAny_assign_Name->UY,table->UZ,spliced->U0,slot_list_getitem->U5,setNext->U8,OsState->Vh,wpAny_setScan_of->Wa,wpAny_pyIter_zip->Wb,wpAny_getItem_of->Wc,wpAny_execs_cons->We,treeTable->Wf,seqIndex?->Wg,entryFor_of_tree->Wh,cellsFrom->Wi,wpAny_updateSeq->YQ,wpAny_specialOf->YR,codeAny_of_tree->YS,wpAny_runValue->cC,wpAny_fieldsOf->cD,setEpoch->cG,retInt->cH,recursionLimit->cI,isSubtype_type->cJ,dictSetDefault->cK,argsOk->cL,Slot->cM,GenState->cP
open List renaming length_map->Ab,getElem?_eq_getElem->Af,getElem?_eq_some_iff->Ah,mem_map->An,length_append->Aq,mem_of_getElem?->Aw,replicate->Ax,mem_cons_of_mem->AE,mem_cons_self->AF,eq_nil_of_length_eq_zero->AG,getElem?_map->AH,map_append->AI,mem_singleton->AL,length_cons->AO,map_cons->AR,not_mem_nil->AS,mem_append->AT,mem_append_right->AU,size_toArray->AV,length_take->AY,mem_cons->A3,take_add_one->A8,take_length->Bc,mem_iff_getElem?->Bm,length_replicate->Bn,append_assoc->Bo,range->Bp,mem_filter->Br,lookup_cons->Bs,getElem?_eq_none->Bu,map_map->Bv,mem_cons->By,lookup->BG,nodup_append->BJ,take_of_length_le->BO,set_cons_succ->B5,length_range->B9,getElem?_append_right->Cf,getD_eq_getElem?_getD->Cg,pairwise_map->Cj,find?_cons->Cn,length_filter_le->Cu,mem_range->Cv,set_cons_zero->CD,append_nil->CH,mem_append_left->CK,mem_filterMap->CL,all_eq_true->CM,replicate_succ->CY,getElem?_append_left->CZ,filterMap_cons->C0,any_eq_true->C4,pairwise_mergeSort->Dh,mem_append->Di,map_congr_left->Dj,map_nil->Dr,mem_of_find?_eq_some->DB,foldl_cons->DL,filter_append->DN,length_filterMap_le->DS,mergeSort_perm->DX,getElem?_toArray->DY,cons_append->Ed,nodup_cons->Eg,mem_filter->Eh,length->Es,Nodup->Et,range_succ_eq_map->EB,getElem?_eq_none_iff->EF,getElem?_range->EJ,eq_of_mem_replicate->EN,length_singleton->ES,find?_eq_none->EV,mem_singleton->E1,map->E4,length_nil->E9,nodup_append->Fk,ext_getElem?->Fp,any_cons->Fs,nodup_cons->FE,nil_append->FI,length_drop->FW,getElem_mem->FX,filter_cons->FY,all_cons->FZ,length_eraseIdx_of_lt->F7,mem_of_mem_take->Gh,findIdx?_eq_none_iff->Gp,drop_eq_getElem_cons->Gq,take_sublist->Gv,reverse_cons->Gw,mem_map_of_mem->GR,forIn_cons->GV,getElem?_cons_zero->G6,getElem?_cons_succ->G7,take_append_drop->HI,filterMap_append->HJ,replicate_zero->IM,filterMap_map->Jj,getElem_map->Jp,getElem_inj->Jq,take_succ_eq_append_getElem->JI,foldl_append->JJ,eraseIdxIfInBounds_toArray->JU,drop_length->Ka,filter_nil->Kf,map_take->KU,map_id'->KW,idxOf_lt_length_of_mem->K4,perm_ext_iff_of_nodup->Lg,take_zero->Ls,nodup_nil->Lw,drop_zero->Ly,findIdx?->Me,reverse_replicate->MS,length_eq_one_iff->MT,getElem?_set_self->MU,drop_eq_nil_of_le->MV,of_mem_zip->Nn,erase_of_not_mem->NA,contains_iff_mem->NB,cons_lt_cons_iff->NC,reverse_reverse->Oi,replicate_succ'->Oj,range'->Ol,mem_iff_getElem->On,getElem?_set_ne->Oo,take_succ_cons->OO,length_reverse->OP,length_pos_iff->OQ,flatMap_append->OR,dropWhile_cons->OS,forIn_nil->Pc,pairwise_cons->Po,mem_replicate->Pp,mem_mergeSort->Pq,map_filterMap->Pr,getElem_idxOf->Ps,getElem?_cons->Pt,getElem?_set->P6,any_eq_false->P7,mem_reverse->QY,mem_flatten->QZ,mem_flatMap->Q0,map_reverse->Q3,range_succ->Rx,length_zip->Ry,idxOf_cons->Rz,filter_map->RA,all_map->Vb
open PySem.W renaming Frag->Ac,emptyDict->Co,findIn->CN,instObj->Db,kitOne->Dx,boot_heap->Er,kia_one->EC,fnOf->Fy,keepIn->FL,plainGet->GA,lookIn->Hv,hasDictIn->IT,takerIn->JS,codeIn->Kg,kitx_dict->Lx,isFn->LC,cellsFrom_some->LD,plainGet_of->L7,methodCall_KW->Ma,callWith_K->Nr,boot_drawn->Nt,plainOver->Oe,methodObj->Of,handedIn->OK,kitx_list->Pa,boot_toks->Pd,makesIn->Pj,OpenLaw->Pk,WalkO->QW,kitx_tuple->Tt,SharedT->Vg,Frag->WE
open PySem.Heap renaming get?_push_of_some->Ag,lt_size->Ap,get?_push_size->AB,get?_update_other->Ba,SameBut->BH,get?_update_self->Ee,size_push->F8
open PySem.Str renaming ofString->Ak
open Bool renaming false_ne_true->Al,and_eq_true->BI,eq_iff_iff->Dm,and_false->DJ,false_and->E6,false_eq_true->FS,not_true->IZ,and_self->I0,eq_false_iff->JM,or_eq_true->Ke,true_and->Mh,or_false->Mi,false_or->Mj,not_eq_eq_eq_not->NF,beq_eq_decide_eq->NG,and_eq_true_iff->Oq,decide_and->RG,and_true->TL,or_true->Vl
open PySem.Value renaming ref->AC,str->De,int->DE,type->DP,isStrOf->D7,none->F0,bool->IS,float->Nv,isInt->Ve,bytes->Vf
open PySem.Builtin renaming bitAnd->AD,bitOr->AM,bitXor->Bb,bitNot->Ei
open Nat renaming le_refl->AJ,le_trans->AZ,ne_of_lt->A6,lt_of_lt_of_le->Bl,lt_of_succ_lt_succ->Dk,zero_le->Ef,lt_succ_of_lt->Ep,zero_add->EI,lt_irrefl->EQ,ne_of_gt->EZ,min_eq_left->Fb,min_eq_right->Fl,lt_of_le_of_lt->Fm,le_of_lt->Fn,le_add_right->Gx,lt_or_ge->GU,succ_lt_succ->Hc,lt_succ_self->He,add_sub_cancel_left->Hf,add_le_add_left->IV,sub_self->Jm,le_succ->JD,lt_trichotomy->JT,min_self->KS,reduceAdd->Ms,succ_pos->Nl,sub_zero->Nm,le_of_ble_eq_true->Oh,mod_lt->PY,add_right_comm->P5,succ_ne_self->Ru,reduceLeDiff->Rv,reduceEqDiff->Rw,not_lt_zero->Su,mul_add->Va,reduceSub->Vi,le_of_eq->Wu,and_comm->Wv,div_one->Zf,not_lt->cN
open PySem.PassesOwn renaming never->AK
open PySem.F renaming plainAttrs_list->AN,type_list_append->Bh,slot_list_append->Bi,type_list_extend->Cr,slot_list_extend->Ct,slot_dict_setdefault->Ft,type_list_index->Gf,slot_list_index->Gg,args_dict_setdefault_3->Js,entry_dict_setdefault->JH,slot_tuple_index->K3,type_list_pop->Mb,slot_list_pop->Mc
open Array renaming getElem?_eq_getElem->AW,length_toList->BE,getElem?_toList->C2,getElem?_eq_none->DQ,getD_eq_getD_getElem?->FM,toList_setIfInBounds->F2,getElem?_eq_some_iff->F3,toList_replicate->Hh,toArray_toList->H9,mem_toList_iff->Ia,size_extract->Il,eq_empty_of_size_eq_zero->JW,forIn_toList->KY,size->K6,size_append->L6,toList_extract->NH,getElem_toList->NI,toList_append->Ot,toList_push->Pw,size_map->RH,toList->TM
open Option.some renaming inj->A9,injEq->HX
open PySem.Heap.SameBut renaming update->Bd,refl->CJ
open Ne renaming symm->Bj
open PySem.Challenge renaming pw_beatwright_k41_needs->Bz,rw_beatwright_k41_needs->HQ,rw_beatwright_k41_needs->TF,pw_beatwright_k41_needs->TH
open PyProof.Rows renaming callWith_type1->BB,slot_tuple_getitem->EM,callWith_builtin1->EU,envOfC->FJ,bitOr_and->FK,bitAnd_pp->HV,boot_tuple->Is,AllBare->Iw,sortedS->KQ,StrsAre->K0,boot_list->Lz,boot_dict->LA,subscriptTail->OG,subscriptTail_builtinR->PR,IntsAre->P8,boot_sorted->Rr,Subscript_->Tz,boot_isinstance->YT,call_int_bit_length->Zd,bitAnd_zero->Ze,tail_any->cE,slicePart_none->cF
open Int renaming toNat_natCast->BD,emod_lt_of_pos->BL,emod_nonneg->Ce,pow_succ->FV,fdiv_eq_ediv_of_nonneg->LH,le_of_lt->ND,pow_pos->PV,ediv_nonneg->Sw,mul_nonneg->TK,one_mul->U9,mul_assoc->Vj,zero_add->Wy,reduceEq->Wz,pow_zero->WA,ofNat_le->WB,mul_comm->WC,ediv_one->WD,mul_one->Zh,le_refl->Zi
open PySem.Builtin.Frozenset renaming unchanged->BN,updateFrom->Hx,isAnySet->H0,sizeOf->Iu,baseOf->Iv,symmetricDifferenceUpdate->RB,newFrom->RC,newClass->RD,merge->RE,intersection->RF
open Or renaming inl->BX,inr->G4
open PySem.NameKind renaming free->B6,cell->HY
open True renaming intro->Ch
open PySem.Around renaming under_plainId->CQ,under->Ml
open PySem.SetTable renaming below->C1,grown->Dv,eraseAt->Dw,fits->ED,sizeAbove->EH,fill->HW,insertAt->IL,laid->Kx,layClean->Nw,roomFor->Oc,relaid->OI,fresh->Ph
open False renaming elim->C5
open ForInStep renaming yield->C7
open Sum.inr renaming inj->DI
open PySem.Paired renaming length->DZ,snoc->TJ
open PySem.Builtin.Slice renaming slicePlaces->D8,sliceAdjust->Fv,sliceApplied->IX,slicePartIndex->WH,sliceFields->WI
open List.Perm renaming refl->Ec,eq_of_pairwise->GW,swap->OT
open PySem.Builtin.Int renaming intBits->Ej
open PySem.SeqAt renaming EqAt->Eo,in_tupleAt->P2,in_listAt->QV
open PySem.Builtin.Range renaming rangeSize->Eu,rangeFitsLong->IN,small->Ky
open Option renaming join_eq_some_iff->ET,map_eq_some_iff->EY,map_some->GS,map->G5,isSome_iff_exists->Lf,map_eq_none_iff->Md,isSome_map->Np,isSome_some->Og,join_some->Pb,getD_none->Pn
open PySem.Builtin.List renaming listExtendWith->Fc,listTooLong->JK,listSameRef->JL,listTouch->Zj,listLengthHint->Zk
open Sum renaming inr->Fx,inl->JR
open PUnit renaming unit->F1
open List.Pairwise renaming sublist->Gi,filter->Kj,nil->Ww,imp_of_mem->Wx
open Nat.succ renaming inj->GJ
open PySem.Calls renaming callWith_builtin->Hg,spliced_cons->IW,spliced_nil->Jt,Name_function_global->K5,evalArgs_plain->NE
open PySem.Obj renaming mapSeq->Hw,data_mapDictKeys->OM,data_mapFields->P4
open PySem.SeqAt.EqAt renaming of_refs->HH,str_int->L8,int_str->L9,same->Nx
open PySem.Data renaming set->Ih,fields->Op
open PySem.W.OpenLaw renaming wellSaid->IU,wellSaid->OL
open PySem.Builtin.Dict renaming updateFrom->JV,selfAndRest->Zl,pairItems->Zm,keyAndDefault->Zn,addKeywords->Zo
open PySem.Manifest renaming sig_set_iterator->Ki,owners->ON
open PySem.pickOrder renaming go->KR
open PySem.SetTable.below renaming go->K1
open PySem.AutoSeq1 renaming wpAny_loadPart'->Mo
open PySem.Heap.DictOf renaming new->MW
open PySem.Code renaming isFrame->MX,frames->WF
open List.cons renaming inj->Pu
open Prod.mk renaming injEq->QX,inj->Sr
open String renaming ofList->Rs
open PySem.Shared renaming TypeIs->Rt
open Std.Legacy.Range renaming size->Sm,forIn_eq_forIn_range'->So
open Prod renaming snd->Sq,ext->Ss
open PySem.IsRange renaming new->Sv
open PySem.W.KeqHits renaming hit->TD
open PySem.Walks renaming range->Vc,list->Wj
open PySem.W.WShape renaming has->Vd
open PySem.Heap.IsSliceOf renaming new->Vk
open PySem.W.Looks renaming here->Wl
open PySem.EqMixed renaming ne_str_int->Wm,ne_str_bool->Wn,ne_int_str->Wo,ne_bool_str->Wp,eq_str_int->Wq,eq_str_bool->Wr,eq_int_str->Ws,eq_bool_str->Wt
open PySem.Builtin.Tuple renaming tupleItemsOf->WG
open PySem.W.WData renaming int->YU
open PySem.SeqAt.RcNeAt renaming tuples->YV,lists_lengths->YW,lists->YX
open PySem.Within renaming cons->YY
open PySem.EqNone renaming ne_str_none->YZ,ne_none_str->Y0,ne_none_none->Y1,ne_none_int->Y2,ne_none_bool->Y3,ne_int_none->Y4,ne_bool_none->Y5,eq_str_none->Y6,eq_none_str->Y7,eq_none_none->Y8,eq_none_int->Y9,eq_none_bool->Za,eq_int_none->Zb,eq_bool_none->Zc
open List.Sublist renaming refl->Zg
open PySem.Builtin.Str renaming tooLong->cQ
set_option hygiene false
local macro_rules|`(tactic| symm)=>`(tactic| (refine Ao λG' kk'=>?_))
local macro_rules|`(tactic| cutsat)=>`(tactic| (refine kk' ?_;clear kk'))
local macro_rules|`(tactic| obtain $p:rcasesPatMed : _ := $e)=>`(tactic| (symm;obtain $p:rcasesPatMed := $e;cutsat;(try subst e1');(try subst e2');(try subst e3');(try subst e4')))
local macro_rules|`(tactic| ext1 $p)=>`(tactic| (intro hI';symm;revert hI';rintro $p;cutsat;(try subst e1');(try subst e2');(try subst e3');(try subst e4')))
set_option hygiene true
namespace L2
open PySem PySem.Spec PyProof.Rows
abbrev B4:=Sum Int Str
noncomputable def Ks:B4->Ai->Bool
 |.inl k,v=>Ve k v
 |.inr x,v=>D7 x v
noncomputable def gJ (w:BM):B4->Int
 |.inl k=>hashInt k
 |.inr x=>Fo w x
theorem Ri:∀{k:B4}{v:Ai},Ks k v=true->(∃i t,k=JR i/\v=DE i t)\/(∃x t,k=Fx x/\v=De x t)
 |.inl i,v,h=>by
  obtain⟨t,e⟩:=Value.isInt_shape h;exact .inl ⟨i,t,rfl,e⟩
 |.inr x,v,h=>by
  obtain⟨t,e⟩:=Value.isStrOf_shape h;exact .inr ⟨x,t,rfl,e⟩
theorem u7 (i:Int)(t:Tok):Ks (.inl i) (.int i t)=true:=by simp[Ks,Ve]
theorem u9 (x:Str)(t:Tok):Ks (.inr x) (.str x t)=true:=by simp[Ks,D7]
theorem b8 (a b:Int):decide ((JR a:B4)=JR b)=(a == b):=by
 by_cases e:a=b
 .subst e;simp
 .have h:¬(JR a:B4)=JR b:=λq=>e (Sum.inl.inj q);rw[decide_eq_false h];exact(beq_eq_false_iff_ne.mpr e).symm
theorem cb (a b:Str):decide ((Fx a:B4)=Fx b)=decide (a=b):=by
 by_cases e:a=b
 .subst e;simp
 .have h:¬(Fx a:B4)=Fx b:=λq=>e (DI q);rw[decide_eq_false h,decide_eq_false e]
theorem b9 (a:Int)(b:Str):decide ((JR a:B4)=Fx b)=false:=decide_eq_false (λq=>nomatch q)
theorem ca (a:Str)(b:Int):decide ((Fx a:B4)=JR b)=false:=decide_eq_false (λq=>nomatch q)
noncomputable def BP (prog:Bq)(w:BM):PySem.KeyKind prog w B4 where
 is:=Ks
 hash:=gJ w
 inj:=λv a b ha hb=>by
  rcases Ri ha with⟨i,t,rfl,rfl⟩|⟨x,t,rfl,rfl⟩
  .rcases Ri hb with⟨j,u,rfl,e⟩|⟨y,u,rfl,e⟩
   .injection e with e1 _;rw[e1]
   .exact nomatch e
  .rcases Ri hb with⟨j,u,rfl,e⟩|⟨y,u,rfl,e⟩
   .exact nomatch e
   .injection e with e1 _;rw[e1]
 byValue:=λk v h=>by
  rcases Ri h with⟨i,t,rfl,rfl⟩|⟨x,t,rfl,rfl⟩<;>rfl
 pyHash:=λhv h=>by
  rcases Ri hv with⟨i,t,rfl,rfl⟩|⟨x,t,rfl,rfl⟩
  .exact wpAny_pyHash_int h
  .exact wpAny_pyHash_str h
 eqBool:=λhu hv h=>by
  rcases Ri hu with⟨i,t,rfl,rfl⟩|⟨x,t,rfl,rfl⟩
  .rcases Ri hv with⟨j,u,rfl,rfl⟩|⟨y,u,rfl,rfl⟩
   .rw[b8]at h;exact Lq h
   .rw[b9]at h;exact L9 i t y u _ _ _ _ h
  .rcases Ri hv with⟨j,u,rfl,rfl⟩|⟨y,u,rfl,rfl⟩
   .rw[ca]at h;exact L8 x t j u _ _ _ _ h
   .rw[cb]at h;exact wpAny_eqBool_str h
 «strs»:=λk x t v h=>by
  rcases Ri h with⟨i,u,rfl,e⟩|⟨y,u,rfl,e⟩
  .exact nomatch e
  .injection e with e1 _
   subst e1;cases v<;>rfl
theorem yu (prog:Bq)(w:BM)(k:B4)(v:Ai):(BP prog w).is k v=Ks k v:=rfl
theorem zp (prog:Bq)(w:BM)(i:Int)(t:Tok):(BP prog w).is (.inl i) (.int i t)=true:=u7 i t
theorem zq (prog:Bq)(w:BM)(x:Str)(t:Tok):(BP prog w).is (.inr x) (.str x t)=true:=u9 x t
inductive V where
 |non | bl (b:Bool) | int (i:Int) | str (x:Str) | byt (b:Array UInt8) | flt (b:UInt64) | ref (a:Av) | ty (n:String)
 deriving DecidableEq
def RelV:V->Ai->Prop
 |.non,u=>u=F0
 |.bl b,u=>u=IS b
 |.int i,u=>∃t,u=DE i t
 |.str x,u=>∃t,u=De x t
 |.byt b,u=>∃t,u=Vf b t
 |.flt b,u=>∃t,u=Nv b t
 |.ref a,u=>u=AC a
 |.ty n,u=>u=DP n
abbrev BF:List V->List Ai->Prop:=D0 RelV
theorem BF.length {xs:List V}{us:List Ai}(r:BF xs us):xs.length=us.length:=DZ r
theorem BF.get:∀{xs:List V}{us:List Ai}{i:Nat}{x:V},BF xs us->xs[i]? = some x->∃u,us[i]? = some u/\RelV x u
 |_,_,_,_,.nil,e=>by simp at e
 |_,_,0,_,.cons r _,e=>by simp at e;subst e;exact⟨_,rfl,r⟩
 |_,_,i+1,x,.cons _ t,e=>by
  obtain⟨u,h1,h2⟩:=BF.get t (by simpa using e);exact⟨u,by simpa using h1,h2⟩
theorem BF.append:∀{xs ys:List V}{us ws:List Ai},BF xs us->BF ys ws->BF (xs++ys) (us++ws)
 |_,_,_,_,.nil,s=>s
 |_,_,_,_,.cons r t,s=>.cons r (BF.append t s)
theorem BF.take:∀{xs:List V}{us:List Ai}(n:Nat),BF xs us->BF (xs.take n) (us.take n)
 |_,_,0,_=>.nil
 |_,_,_+1,.nil=>.nil
 |_,_,n+1,.cons r t=>.cons r (BF.take n t)
theorem BF.drop:∀{xs:List V}{us:List Ai}(n:Nat),BF xs us->BF (xs.drop n) (us.drop n)
 |_,_,0,r=>r
 |_,_,_+1,.nil=>.nil
 |_,_,n+1,.cons _ t=>BF.drop n t
def Ig:Option V->Option Ai->Prop
 |some v,some u=>RelV v u
 |none,none=>True
 |_,_=>False
def KV :List (κ×V)->List (κ×Ai)->Prop:=D0 λp q=>p.1=q.1/\RelV p.2 q.2
noncomputable def kV:B4->V
 |.inl i=>.int i
 |.inr x=>.str x
inductive HO where
  |lst (xs:List V)
  |tup (xs:List V)
  |dK (AQ:List (B4×V)) | dT (AQ:List (List B4×V))
  |set (S:Int->Bool) (n:Nat)
  |ins (C dx:Av) (fs:List (Str×V))
  |own (x:Av)
  |xd (fs:List (Str×V))
  |met (f x:Av)
  |rng (lo hi:Int)
  |frz (o:Obj) (u:HO)
  |tbl (ps:Array Ai)
  |ext (φ:CV->Prop)
abbrev Hp:=Av->Option HO
noncomputable def CA (H:Hp)(a:Av)(o:HO):Hp:=λb=>if b=a then some o else H b
theorem Mn :CA H a o a=some o:=by unfold CA;rw[if_pos rfl]
theorem HL (h:b≠a):CA H a o b=H b:=by unfold CA;rw[if_neg h]
theorem zN {H:Hp}(h:H a=some o)(h':H b=some u)(d:o≠u):a≠b:=by
 intro e;subst e;rw[h]at h';exact d (A9 h')
theorem V5 {H:Hp}(h:H a=some o)(h':H b=none):a≠b:=by
 intro e;subst e;rw[h]at h';cases h'
section
variable (P:Bq)(w:BM)
def LZ (h:CV)(a:Av)(items:Array Ai):Prop:=∃o,h.get? a=some o/\o.cls=.type "tuple"/\∃n,o.data=.seq items n/\o.dict=none
omit P w in
theorem LZ.tup (x:LZ h a items):IsTup h a items:=let ⟨o,e,c,n,d,_⟩:=x;⟨o,e,c,n,d⟩
omit P w in
theorem LZ.new (h:CV)(items:Array Ai):LZ (h.push {cls:=.type "tuple",data:=.seq items}) h.objs.size items:=⟨_,AB _ rfl,rfl,_,rfl,rfl⟩
def CW (H:Hp)(h:CV)(a:Av):HO->Prop
 |.lst xs=>xs.length<=Am/\∃Bk n,BF xs Bk/\h.get? a=some {cls:=.type "list",data:=.seq Bk.toArray n}
 |.tup xs=>xs.length<=Am/\∃Bk,BF xs Bk/\LZ h a Bk.toArray
 |.dK AQ=>AQ.length<=Am/\(a == E8)=false/\∃vs,KV AQ vs/\h.DictOf (BP P w) a vs
 |.dT AQ=>AQ.length<=Am/\(a == E8)=false/\∃xs,
   D0 (λp q=>p.1=q.1/\H q.2.1=some (.tup (p.1.map kV))/\RelV p.2 q.2.2) AQ xs /\
   ∃o es ep,h.get? a=some o/\o.ExactDict/\o.data=.dict es ep/\es.toList=xs.map (entryOfKey (Lr (BP P w)))/\(xs.map (·.1)).Nodup
 |.set S n=>h.SetOf (intKind P w) a S n
 |.ins C dx fs=>H dx=some (.own a)/\fs.length<=1000/\dx≠a/\h.get? a=some (Db C dx) /\
   ∃mA,h.Ns1 dx mA/\(∀f,Ig (fs.lookup f) (mA f))/\Mr mA (fs.map (·.1))
 |.own _=>∃o,h.get? a=some o
 |.xd fs=>∃mA,h.Ns1 a mA/\∀f,Ig (fs.lookup f) (mA f)
 |.rng lo hi=>∃t u v,h.get? a=some {cls:=.type "range",data:=.fields #[.int lo t,.int hi u,.int 1 v]}
 |.frz o u=>h.get? a=some o/\CW H h a u
 |.tbl ps=>h.get? a=some {cls:=.none,data:=.fields ps}
 |.met f x=>h.get? a=some (Of (.ref f) (.ref x))
 |.ext φ=>φ h/\(∃o,h.get? a=some o)/\∀h1 h2,φ h1->(∀o,h1.get? a=some o->h2.get? a=some o)->φ h2
def Ik (H:Hp)(h:CV):Prop:=∀a o,H a=some o->CW P w H h a o
end
section
variable {P:Bq}{w:BM}
theorem CW.lt (x:CW P w H h a o):a<h.objs.size:=by
 cases o with
 |lst xs=>obtain⟨_,_,_,_,e⟩:=x;exact Ap e
 |tup xs=>obtain⟨_,_,_,p⟩:=x;exact(LZ.tup p).lt
 |dK AQ=>obtain⟨_,_,_,_,o,_,_,e,_⟩:=x;exact Ap e
 |dT AQ=>obtain⟨_,_,_,_,o,_,_,e,_⟩:=x;exact Ap e
 |set S n=>obtain⟨o,_,_,_,e,_⟩:=x;exact Ap e
 |ins C dx fs=>obtain⟨_,_,_,e,_⟩:=x;exact Ap e
 |own y=>obtain⟨_,e⟩:=x;exact Ap e
 |xd fs=>obtain⟨_,⟨_,_,_,e,_⟩,_⟩:=x;exact Ap e
 |rng lo hi=>obtain⟨_,_,_,e⟩:=x;exact Ap e
 |frz ob u=>obtain⟨e,_⟩:=x;exact Ap e
 |tbl ps=>exact Ap (show h.get? a=some _ from x)
 |met f y=>exact Ap (show h.get? a=some _ from x)
 |ext φ=>obtain⟨_,⟨_,e⟩,_⟩:=x;exact Ap e
theorem D0.mapP :∀{l₁:List α}{l₂:List β},D0 F l₁ l₂->(∀a b,F a b->G a b)->D0 G l₁ l₂
 |_,_,.nil,_=>.nil
 |_,_,.cons r t,f=>.cons (f _ _ r) (D0.mapP t f)
theorem CW.stay (x:CW P w H h a o)(k:∀b u,(b=a\/H b=some (.own a))->h.get? b=some u->h'.get? b=some u)
  (ho:∀b,H b=some (.own a)->H' b=some (.own a)) (ht:∀b xs,H b=some (.tup xs)->H' b=some (.tup xs)):CW P w H' h' a o:=by
 induction o with
 |lst xs=>obtain⟨z,Bk,n,r,e⟩:=x;exact⟨z,Bk,n,r,k _ _ (.inl rfl) e⟩
 |tup xs=>obtain⟨z,Bk,r,ob,e,c⟩:=x;exact⟨z,Bk,r,ob,k _ _ (.inl rfl) e,c⟩
 |dK AQ=>obtain⟨z,y,vs,r,ob,es,ep,e,c⟩:=x;exact⟨z,y,vs,r,ob,es,ep,k _ _ (.inl rfl) e,c⟩
 |dT AQ=>obtain⟨z,y,xs,r,ob,es,ep,e,c⟩:_:=x;exact⟨z,y,xs,D0.mapP r λp q z=>⟨z.1,ht _ _ z.2.1,z.2.2⟩,ob,es,ep,k _ _ (.inl rfl) e,c⟩
 |set S n=>obtain⟨ob,es,ep,t,e,c⟩:=x;exact⟨ob,es,ep,t,k _ _ (.inl rfl) e,c⟩
 |ins C dx fs=>obtain⟨d,z,ne,e,mA,⟨od,es,ep,e2,c⟩,r⟩:_:=x;exact⟨ho _ d,z,ne,k _ _ (.inl rfl) e,mA,⟨od,es,ep,k _ _ (.inr d) e2,c⟩,r⟩
 |own y=>obtain⟨ob,e⟩:=x;exact⟨ob,k _ _ (.inl rfl) e⟩
 |xd fs=>obtain⟨mA,⟨od,es,ep,e,c⟩,r⟩:=x;exact⟨mA,⟨od,es,ep,k _ _ (.inl rfl) e,c⟩,r⟩
 |rng lo hi=>obtain⟨t,u,v,e⟩:=x;exact⟨t,u,v,k _ _ (.inl rfl) e⟩
 |frz ob u ih=>obtain⟨e,q⟩:=x;exact⟨k _ _ (.inl rfl) e,ih q⟩
 |tbl ps=>have e:=x;show h'.get? a=some {cls:=.none,data:=.fields ps};exact k a _ (.inl rfl) e
 |met f y=>have e:=x;show h'.get? a=some (Of (.ref f) (.ref y));exact k a _ (.inl rfl) e
 |ext φ=>obtain⟨p,⟨o,e⟩,st⟩:=x;exact⟨st _ _ p λo q=>k _ _ (.inl rfl) q,⟨o,k _ _ (.inl rfl) e⟩,st⟩
theorem Ik.lt (x:Ik P w H h)(e:H a=some o):a<h.objs.size:=(x a o e).lt
theorem Ik.fresh (x:Ik P w H h)(e:h.objs.size<=a):H a=none:=by
 cases q:H a with
 |none=>rfl
 |some u=>exact absurd (Bl (x.lt q) e) (EQ _)
theorem Ik.kept (x:Ik P w H h)(k:∀b u,h.get? b=some u->h'.get? b=some u):Ik P w H h':=λa o e=>
 (x a o e).stay (λb u _ q=>k b u q) (λ_ q=>q) λ_ _ q=>q
theorem Ik.laid (x:Ik P w H h)(k:∀b u,h.get? b=some u->h'.get? b=some u)(hp:h.objs.size<=a)(new:CW P w (CA H a o) h' a o):Ik P w (CA H a o) h':=λb u e=>by
 have hn:=x.fresh hp;by_cases hb:b=a
 .subst hb;rw[Mn]at e;cases e;exact new
 .rw[HL hb]at e;exact(x b u e).stay (λc v _ q=>k c v q) (λc q=>by rw[HL (V5 q hn)];exact q) λc xs q=>by rw[HL (V5 q hn)];exact q
end
def Rd (H:Hp)(a:Av)(u:HO):Prop:=H a=some u\/∃o,H a=some (.frz o u)
theorem Rd.ok {P:Bq}{w:BM}{H:Hp}{h:CV}{a:Av}{u:HO}(r:Rd H a u)(x:Ik P w H h):CW P w H h a u:=by
 rcases r with r|⟨o,r⟩
 .exact x a u r
 .obtain⟨_,q⟩:=x a _ r;exact q
def YJ:Option HO->Prop
 |some (.lst _)=>True
 |some (.dK _)=>True
 |some (.dT _)=>True
 |some (.set _ _)=>True
 |some (.ins _ _ _)=>True
 |some (.ext _)=>True
 |_=>False
section
theorem Ik.write (ok:Ik P w H h)(mu:YJ (H x))(he:e=x\/H e=some (.own x))(k:∀b u,b≠e->h.get? b=some u->h'.get? b=some u)(heo:∃u,h'.get? e=some u)
  (new:CW P w (CA H x o') h' x o'):Ik P w (CA H x o') h':=λb u q=>by
 have nown:∀c y,H c=some (.own y)->c≠x:=λc y r z=>by subst z;rw[r]at mu;exact mu
 have ntup:∀c xs,H c=some (.tup xs)->c≠x:=λc xs r z=>by subst z;rw[r]at mu;exact mu
 by_cases hb:b=x
 .subst hb;rw[Mn]at q;cases q;exact new
 .rw[HL hb]at q;by_cases hbe:b=e
  .have q':H b=some (.own x):=by
    rcases he with z|z
    .exact absurd (hbe.trans z) hb
    .rw[hbe];exact z
   rw[q]at q';cases q';obtain⟨v,hv⟩:=heo;exact⟨v,by rw[hbe];exact hv⟩
  .refine(ok b u q).stay (λc v hc r=>k c v ?_ r) (λc r=>by rw[HL (nown c b r)];exact r) λc xs r=>by rw[HL (ntup c xs r)];exact r
   rcases hc with rfl|hc
   .exact hbe
   .rintro rfl;rcases he with z|z
    .exact nown c b hc z
    .rw[hc]at z;cases z;exact hb rfl
end
structure Un (fs ex:List Av)(H H':Hp)(h h':CV):Prop where
 keep:∀b o,h.get? b=some o->H b=none->b∉fs->b∉ex->h'.get? b=some o
 slot:∀b o,h.get? b=some o->H b=none->b∈fs->b∉ex->∃sl,h'.get? b=some {o with slots:=sl}
 free:∀b o,h.get? b=some o->H b=none->b∉ex->H' b=none
 there:∀b o,h.get? b=some o->b∉ex->∃o',h'.get? b=some o'
 tups:∀b xs,H b=some (.tup xs)->H' b=some (.tup xs)
 frzs:∀b o u,H b=some (.frz o u)->H' b=some (.frz o u)
 tbls:∀b ps,H b=some (.tbl ps)->∃more,H' b=some (.tbl (ps++more))
section
variable  {H:Hp}  {a:Av}
theorem Un.any (u:Un fs ex H H1 h h1)(q:h.get? b=some ob)(n:H b=none)(hx:b∉ex):∃sl,h1.get? b=some {ob with slots:=sl}:=by
 by_cases hb:b∈fs
 .exact u.slot b ob q n hb hx
 .exact⟨ob.slots,u.keep b ob q n hb hx⟩
theorem Un.kept (k:∀b u,h.get? b=some u->h'.get? b=some u):Un fs ex H H h h':=
 ⟨λb ob q _ _ _=>k b ob q,λb ob q _ _ _=>⟨ob.slots,k b ob q⟩,λ_ _ _ n _=>n,λb ob q _=>⟨ob,k b ob q⟩,λ_ _ q=>q,λ_ _ _ q=>q,λ_ ps q=>⟨#[],by rw[q];simp⟩⟩
theorem Un.refl:Un fs ex H H h h:=Un.kept λ_ _ q=>q
theorem Un.laid (k:∀b u,h.get? b=some u->h'.get? b=some u)(hp:h.objs.size<=a)(hn:H a=none):Un fs ex H (CA H a o) h h' where
 keep:=λb u q _ _ _=>k b u q
 slot:=λb u q _ _ _=>⟨u.slots,k b u q⟩
 free:=λb u q n _=>by rw[HL (A6 (Bl (Ap q) hp))];exact n
 there:=λb u q _=>⟨u,k b u q⟩
 tups:=λb xs q=>by rw[HL (V5 q hn)];exact q
 frzs:=λb u xs q=>by rw[HL (V5 q hn)];exact q
 tbls:=λb ps q=>⟨#[],by rw[HL (V5 q hn),q];simp⟩
theorem Un.write (mu:YJ (H x))(he:e=x\/H e=some (.own x))(k:∀b u,b≠e->h.get? b=some u->h'.get? b=some u)(heo:∃u,h'.get? e=some u):Un fs ex H (CA H x o) h h':=by
 have hx:∀b,H b=none->b≠x:=λb n z=>by subst z;rw[n]at mu;exact mu
 have hb:∀b,H b=none->b≠e:=λb n z=>by
  subst z;rcases he with r|r
  .exact hx b n r
  .rw[n]at r;cases r
 have hm:∀b u,H b=some u->¬YJ (some u)->b≠x:=λb u q nm z=>by subst z;rw[q]at mu;exact nm mu
 refine ⟨λb u q n _ _=>k b u (hb b n) q,λb u q n _ _=>⟨u.slots,k b u (hb b n) q⟩,λb u q n _=>by rw [HL (hx b n)];exact n,λb u q _=>?_,
  λb xs q=>by rw [HL (hm b _ q λz=>z)];exact q,λb u xs q=>by rw [HL (hm b _ q λz=>z)];exact q,λb ps q=>⟨#[],by rw [HL (hm b _ q λz=>z),q];simp⟩⟩
 by_cases hbe:b=e
 .subst hbe;exact heo
 .exact⟨u,k b u hbe q⟩
end
noncomputable def Zs (h:CV)(H:Hp):List Av:=(Bp h.objs.size).filter λa=>(H a).isSome
noncomputable def LQ (h:CV)(H:Hp):CV:=PySem.W.hideAll h (Zs h H)
theorem ux (h:CV)(H:Hp):(LQ h H).objs.size=h.objs.size:=PySem.W.hideAll_size _ _
theorem t6 (e:h.get? b=some o)(n:H b=none):(LQ h H).get? b=some o:=
 PySem.W.hideAll_get _ e λhm=>by
  have q:=(Br.mp hm).2;rw[n]at q;simp at q
theorem ou (e:(LQ h H).get? b=some o):h.get? b=some o/\H b=none:=by
 have e':=PySem.W.of_hideAll (Zs h H) e;refine⟨e',?_⟩;cases q:H b with
 |none=>rfl
 |some x=>have hm:b∈Zs h H:=Br.mpr ⟨Cv.mpr (Ap e'),by simp[q]⟩;have z:(LQ h H).get? b=none:=PySem.W.hideAll_none (Zs h H) hm;rw[z]at e;cases e
noncomputable def R9 (g h:CV)(L:Av):List (Av×Obj):=(Bp h.objs.size).filterMap λa=>if a=L\/(g.get? a).isSome=true then none else(h.get? a).map λo=>(a,o)
noncomputable def C6 (g h:CV)(L d:Av):List (Av×Obj):=(R9 g h L).filter λp=>decide (p.1≠d)
structure Mod (K:Ac)(mg:Str->Option Ai)(base:CV):Prop where
 kin:K.In base
 glob:base.Ns BW mg
 blt:∃mb,base.Ns Tw mb/\∀x:Str,x≠"__name__"->mb x=DD x
 nolimit:base.NoLimit
structure Cx where
 prog:Bq
 w:BM
 K:Ac
 mg:Str->Option Ai
 base:CV
 A:Cy
 N:List Str
 s₀:Ar
 H₀:Hp
 env:Env
 outer:List Env
 stack:List Env
 ex:List Av
 fn:Str->Bool
 calm:Bool
 pn:List (Av×Obj)
 xe:Ai->Ar->Prop
 fz:List (Av×Obj×HO):=[]
noncomputable def PH (l:List Env):List Av:=l.filterMap (·.frame)
noncomputable abbrev Cx.fs (X:Cx):List Av:=PH X.outer
def YE (sc:K2)(x:Str):Prop:=sc.names.lookup x=some .local\/sc.names.lookup x=some .cell\/sc.names.lookup x=some .free
def US (sc:K2)(x:Str):Prop:=sc.names.lookup x=some .local\/sc.names.lookup x=some .cell
def lP (env:Env)(h:CV)(m:Str->Option Ai)(x:Str)(u:Ai):Prop:=
 (env.kindOf x=some .local/\m x=some u)\/((env.kindOf x=some .cell\/env.kindOf x=some .free)/\∃c,env.cells.lookup x=some c/\h.IsCell c (some u))
structure Cx.Ok (X:Cx):Prop where
 mod:Mod X.K X.mg X.base
 kind:X.env.scope.kind=.function
 glob:X.env.globals=BW
 blt:X.env.builtins=Tw
 above:X.s₀.heap.objs.size<=X.env.locals
 inj:∀x y c,X.env.cells.lookup x=some c->X.env.cells.lookup y=some c->x=y
 has:∀x,(X.env.kindOf x=some .cell\/X.env.kindOf x=some .free)->∃c,X.env.cells.lookup x=some c
 cab:∀x c,X.fn x=true->X.env.cells.lookup x=some c->X.s₀.heap.objs.size<=c
 hd:X.calm=true->X.A.handled=none
 frames:X.A.frames=some X.stack
 stk:X.stack=X.outer\/(X.stack=X.env::X.outer/\X.env.frame=some X.env.locals)
 exf:∀b∈X.ex,b≠X.env.locals/\∀x c,X.env.cells.lookup x=some c->c≠b
 bs:∀b o,X.base.get? b=some o->X.s₀.heap.get? b=some o/\X.H₀ b=none
 bsz:X.base.objs.size<=X.s₀.heap.objs.size
 noex:∀b o,X.base.get? b=some o->b∉X.ex
 exfs:∀b∈X.ex,b∉X.fs
 funs:X.s₀.heap.FunFrames X.base X.outer
 frf:∀b∈X.fs,X.H₀ b=none
structure A4 (X:Cx)(Ae:List (Av×Obj))(U:List (Option V))(H:Hp)(s:Ar):Prop where
 ok:X.Ok
 os:s.os=X.s₀.os
 bare:Iw s.gens
 base:Un X.fs X.ex X.H₀ H X.s₀.heap s.heap
 loc:∃m,s.heap.Ns X.env.locals m/\∀(i:Nat) (x:Str) (v:V),X.N[i]? = some x->U[i]? = some (some v)->YE X.env.scope x->∃u,RelV v u/\lP X.env s.heap m x u
 cell:∀x c,X.env.cells.lookup x=some c->∃v,s.heap.IsCell c v
 free:H X.env.locals=none
 freeC:∀x c,X.env.cells.lookup x=some c->H c=none
 pin:∀p∈X.pn++Ae,s.heap.get? p.1=some p.2/\H p.1=none/\p.1≠X.env.locals/\p.1∉X.fs/\∀v,p.2.data≠.cell v
 hok:Ik X.prog X.w H s.heap
 len:U.length=X.N.length
 fzd:∀f∈X.fz,H f.1=some (.frz f.2.1 f.2.2)
section
variable {X:Cx}{Ae:List (Av×Obj)}{U:List (Option V)}{H:Hp}{s:Ar}{h':CV}
theorem Cx.Ok.nofr (ok:X.Ok)(e:X.base.get? b=some o):b∉X.fs:=λhb=>by
 have:=(ok.funs.mem hb).1;rw[e]at this;cases this
theorem A4.bs (I:A4 X Ae U H s):∀b o,X.base.get? b=some o->s.heap.get? b=some o/\H b=none:=λb o e=>
 ⟨I.base.keep b o (I.ok.bs b o e).1 (I.ok.bs b o e).2 (I.ok.nofr e) (I.ok.noex b o e),I.base.free b o (I.ok.bs b o e).1 (I.ok.bs b o e).2 (I.ok.noex b o e)⟩
theorem A4.bk (I:A4 X Ae U H s):∀b o,X.base.get? b=some o->s.heap.get? b=some o:=λb o e=>(I.bs b o e).1
theorem A4.mod (I:A4 X Ae U H s):Mod X.K X.mg X.base:=I.ok.mod
theorem A4.kIn (I:A4 X Ae U H s):X.K.In s.heap:=I.ok.mod.kin.keeps I.bk
theorem A4.lt (I:A4 X Ae U H s):X.env.locals<s.heap.objs.size:=let ⟨_,hn,_⟩:=I.loc;hn.lt
theorem A4.sz (I:A4 X Ae U H s):X.s₀.heap.objs.size<=s.heap.objs.size:=AZ I.ok.above (Fn I.lt)
theorem A4.nofs (I:A4 X Ae U H s)(h:s.heap.objs.size<=a):a∉X.fs:=λhb=>by
 obtain⟨_,o,ho,_⟩:=I.ok.funs.mem hb;exact absurd (Bl (Ap ho) (AZ I.sz h)) (EQ _)
theorem A4.cne (I:A4 X Ae U H s):∀x c,X.env.cells.lookup x=some c->c≠X.env.locals:=λx c e z=>by
 obtain⟨v,o,ho,hd⟩:=I.cell x c e;obtain⟨m,⟨o',es,ep,ho',hd',_⟩,_⟩:=I.loc;rw[z,ho']at ho;cases ho;rw[hd']at hd;cases hd
theorem A4.funs (I:A4 X Ae U H s):s.heap.FunFrames X.base X.outer:=by
 have all:∀l,(∀b∈PH l,b∈X.fs)->X.s₀.heap.FunFrames X.base l->s.heap.FunFrames X.base l:=by
  intro l;induction l with
  |nil=>intro _ _;trivial
  |cons env r ih=>intro hs;ext1⟨hk,⟨L,o,hf,hn,ho,hd⟩,hr⟩;have hL:=hs L (by unfold PH;rw[C0,hf];exact AF);obtain⟨sl,e⟩:=I.base.slot L o ho (I.ok.frf L hL) hL λz=>I.ok.exfs L z hL;exact⟨hk,⟨L,_,hf,hn,e,hd⟩,ih (λb hb=>hs b (by unfold PH;rw[C0,hf];exact AE _ hb)) hr⟩
 exact all X.outer (λ_ hb=>hb) I.ok.funs
theorem A4.stack (I:A4 X Ae U H s):s.heap.FunFrames X.base X.stack:=by
 rcases I.ok.stk with e|⟨e,hf⟩
 .rw[e];exact I.funs
 .rw[e];obtain⟨m,hn,_⟩:=I.loc;refine .cons (by rw[I.ok.kind];decide) hf hn ?_ I.funs;exact Heap.get?_none_of_le (AZ I.ok.bsz I.ok.above)
theorem A4.stkSub (I:A4 X Ae U H s):∀b∈PH X.stack,b∈X.env.locals::X.fs:=λb hb=>by
 rcases I.ok.stk with e|⟨e,hf⟩
 .rw[e]at hb;exact AE _ hb
 .rw[e]at hb;unfold PH at hb;rw[C0,hf]at hb;exact hb
theorem A4.stkFree (I:A4 X Ae U H s):∀b∈PH X.stack,H b=none:=λb hb=>by
 rcases A3.mp (I.stkSub b hb)with e|hb
 .rw[e];exact I.free
 .obtain⟨_,o,ho,_⟩:=I.ok.funs.mem hb;exact I.base.free b o ho (I.ok.frf b hb) λz=>I.ok.exfs b z hb
theorem A4.step {g':Array cP}{t':Nat}{d':Drawn}{ch:List Av}(I:A4 X Ae U H s)
  (hch:∀b∈ch,(b∈X.ex\/X.s₀.heap.objs.size<=b)/\b≠X.env.locals/\(∀x c,X.env.cells.lookup x=some c->c≠b)/\∀p∈X.pn++Ae,p.1≠b)
  (keep:∀b o,b≠X.env.locals->b∉X.fs->b∉ch->s.heap.get? b=some o->H b=none->h'.get? b=some o)
  (slot:∀b o,b≠X.env.locals->b∈X.fs->b∉ch->s.heap.get? b=some o->H b=none->∃sl,h'.get? b=some {o with slots:=sl}) (free:∀b o,b∉ch->s.heap.get? b=some o->H b=none->H' b=none)
  (there:∀b o,b∉ch->s.heap.get? b=some o->∃o',h'.get? b=some o')
  (tups:∀b xs,H b=some (.tup xs)->H' b=some (.tup xs)) (frzs:∀b o u,H b=some (.frz o u)->H' b=some (.frz o u)) (tbls:∀b ps,H b=some (.tbl ps)->∃more,H' b=some (.tbl (ps++more)))
  (ns:∀m,s.heap.Ns X.env.locals m->h'.Ns X.env.locals m) (hok:Ik X.prog X.w H' h') (hg:Iw g') :
  A4 X Ae U H' {s with heap:=h',gens:=g',drawn:=d',toks:=t' }:=by
 have neL:∀b o,X.s₀.heap.get? b=some o->b≠X.env.locals:=λb o e=>A6 (Bl (Ap e) I.ok.above)
 have neC:∀b o,X.s₀.heap.get? b=some o->b∉X.ex->b∉ch:=λb o e hx hb=>by
  rcases(hch b hb).1 with z|z
  .exact hx z
  .exact absurd (Bl (Ap e) z) (EQ _)
 have cellK:∀x c,X.env.cells.lookup x=some c->∀v,s.heap.IsCell c v->h'.IsCell c v:=λx c e v ⟨o,ho,hd⟩=>by
  have nch:c∉ch:=λz=>(hch c z).2.2.1 x c e rfl;by_cases hc:c∈X.fs
  .obtain⟨sl,q⟩:=slot c o (I.cne x c e) hc nch ho (I.freeC x c e);exact⟨_,q,hd⟩
  .exact⟨o,keep c o (I.cne x c e) hc nch ho (I.freeC x c e),hd⟩
 refine⟨I.ok,I.os,hg,⟨λb o e n hb hx=>?_,λb o e n hb hx=>?_,λb o e n hx=>?_,λb o e hx=>?_,λb xs e=>tups b xs (I.base.tups b xs e),λb o xs e=>frzs b o xs (I.base.frzs b o xs e),λb ps e=>?_⟩,?_,λx c e=>?_,?_,λx c e=>?_,λp hp=>?_,hok,I.len,λf hf=>frzs f.1 f.2.1 f.2.2 (I.fzd f hf)⟩
 .exact keep b o (neL b o e) hb (neC b o e hx) (I.base.keep b o e n hb hx) (I.base.free b o e n hx)
 .obtain⟨sl,e1⟩:=I.base.slot b o e n hb hx;obtain⟨sl',e2⟩:=slot b _ (neL b o e) hb (neC b o e hx) e1 (I.base.free b o e n hx);exact⟨sl',e2⟩
 .obtain⟨o',e1⟩:=I.base.there b o e hx;exact free b o' (neC b o e hx) e1 (I.base.free b o e n hx)
 .obtain⟨o',e1⟩:=I.base.there b o e hx;exact there b o' (neC b o e hx) e1
 .obtain⟨m1,e1⟩:=I.base.tbls b ps e;obtain⟨m2,e2⟩:=tbls b _ e1;exact⟨m1++m2,by rw[e2,Array.append_assoc]⟩
 .obtain⟨m,hn,hl⟩:=I.loc;refine⟨m,ns m hn,λi x v e1 e2 e3=>?_⟩;obtain⟨u,r,l⟩:=hl i x v e1 e2 e3;refine⟨u,r,?_⟩;rcases l with l|⟨k,c,e,z⟩
  .exact .inl l
  .exact .inr ⟨k,c,e,cellK x c e _ z⟩
 .obtain⟨v,z⟩:=I.cell x c e;exact⟨v,cellK x c e v z⟩
 .obtain⟨m,⟨o,_,_,ho,_⟩,_⟩:=I.loc;exact free _ o (λz=>(hch _ z).2.1 rfl) ho I.free
 .obtain⟨v,o,ho,hd⟩:=I.cell x c e;exact free c o (λz=>(hch c z).2.2.1 x c e rfl) ho (I.freeC x c e)
 .obtain⟨e,n,ne,nf,d⟩:=I.pin p hp;have nch:p.1∉ch:=λz=>(hch p.1 z).2.2.2 p hp rfl;exact⟨keep p.1 p.2 ne nf nch e n,free p.1 p.2 nch e n,ne,nf,d⟩
theorem A4.un {t':Nat}(I:A4 X Ae U H s)(u:Un X.fs [] H H' s.heap h')(hok:Ik X.prog X.w H' h'):A4 X Ae U H' {s with heap:=h',toks:=t' }:=by
 obtain⟨m,⟨o,es,ep,ho,r⟩,_⟩:_:=id I.loc;obtain⟨sl,hL⟩:=u.any ho I.free (by simp)
 exact I.step (ch:=[]) (λ_ z=>nomatch z) (λb o _ hb _ e n=>u.keep b o e n hb (by simp)) (λb o _ hb _ e n=>u.slot b o e n hb (by simp)) (λb o _ e n=>u.free b o e n (by simp)) (λb o _ e=>u.there b o e (by simp)) u.tups u.frzs u.tbls (λm' hm=>by
  obtain ⟨o',es',ep',ho',r'⟩:=hm;rw [ho] at ho';cases ho';exact ⟨_,es',ep',hL,r'⟩) hok I.bare
theorem A4.call {g':Array cP}{t':Nat}{d':Drawn}{ch:List Av}(I:A4 X Ae U H s)(u:Un (PH X.stack) ch H H' s.heap h')(hok:Ik X.prog X.w H' h')(hg:Iw g')
  (hch:∀b∈ch,(b∈X.ex\/X.s₀.heap.objs.size<=b)/\b≠X.env.locals/\(∀x c,X.env.cells.lookup x=some c->c≠b)/\∀p∈X.pn++Ae,p.1≠b) :
  A4 X Ae U H' {s with heap:=h',gens:=g',drawn:=d',toks:=t' }:=by
 obtain⟨m,⟨o,es,ep,ho,r⟩,_⟩:_:=id I.loc;obtain⟨sl,hL⟩:=u.any ho I.free λz=>(hch _ z).2.1 rfl
 exact I.step hch (λb o hL hb hc e n=>u.keep b o e n (λz=>(A3.mp (I.stkSub b z)).elim hL hb) hc) (λb o _ _ hc e n=>u.any e n hc) (λb o hc e n=>u.free b o e n hc) (λb o hc e=>u.there b o e hc) u.tups u.frzs u.tbls (λm' hm=>by
  obtain ⟨o',es',ep',ho',r'⟩:=hm;rw [ho] at ho';cases ho';exact ⟨_,es',ep',hL,r'⟩) hok hg
theorem A4.turned {it:Av}(I:A4 X Ae U H s)(k:∀b o,b≠it->s.heap.get? b=some o->h'.get? b=some o)(hn:H it=none)(hL:it≠X.env.locals)
  (h1:it∈X.ex\/X.s₀.heap.objs.size<=it) (h2:∀x c,X.env.cells.lookup x=some c->c≠it) (h3:∀p∈X.pn++Ae,p.1≠it):A4 X Ae U H {s with heap:=h',toks:=t' }:=by
 have nit:∀b u,H b=some u->b≠it:=λb u e z=>by rw[z,hn]at e;cases e
 refine I.step (ch:=[it]) (λb hb=>?_) (λb o _ _ hc e _=>k b o (λz=>hc (by simp[z])) e) (λb o _ _ hc e _=>⟨o.slots,k b o (λz=>hc (by simp[z])) e⟩) (λ_ _ _ _ n=>n)
  (λb o hc e=>⟨o,k b o (λz=>hc (by simp[z])) e⟩) (λ_ _ e=>e) (λ_ _ _ e=>e) (λb ps e=>⟨#[],by rw[e];simp⟩) (λm hm=>?_) (λb u e=>?_) I.bare
 .have e:b=it:=by simpa using hb
  subst e;exact⟨h1,hL,h2,h3⟩
 .obtain⟨o,es,ep,ho,r⟩:=hm;exact⟨o,es,ep,k _ o (Bj hL) ho,r⟩
 .refine(I.hok b u e).stay (λc v hc q=>k c v ?_ q) (λ_ q=>q) λ_ _ q=>q;rcases hc with z|z
  .rw[z];exact nit b u e
  .exact nit c _ z
theorem A4.tok (I:A4 X Ae U H s)(t:Nat):A4 X Ae U H {s with toks:=t}:=I.un Un.refl I.hok
theorem A4.kept (I:A4 X Ae U H s)(k:∀b u,s.heap.get? b=some u->h'.get? b=some u):A4 X Ae U H {s with heap:=h',toks:=t' }:=I.un (Un.kept k) (I.hok.kept k)
theorem A4.laid (I:A4 X Ae U H s)(k:∀b u,s.heap.get? b=some u->h'.get? b=some u)(hp:s.heap.objs.size<=a)(new:CW X.prog X.w (CA H a o) h' a o) :
  A4 X Ae U (CA H a o) {s with heap:=h',toks:=t' }:=I.un (Un.laid k hp (I.hok.fresh hp)) (I.hok.laid k hp new)
theorem A4.write (I:A4 X Ae U H s)(mu:YJ (H x))(he:e=x\/H e=some (.own x))(k:∀b u,b≠e->s.heap.get? b=some u->h'.get? b=some u)(heo:∃u,h'.get? e=some u)
  (new:CW X.prog X.w (CA H x o) h' x o):A4 X Ae U (CA H x o) {s with heap:=h',toks:=t' }:=I.un (Un.write mu he k heo) (I.hok.write mu he k heo new)
theorem A4.pins_of (I:A4 X Ae U H s)(h:∀p∈pins',s.heap.get? p.1=some p.2/\H p.1=none/\p.1≠X.env.locals/\p.1∉X.fs/\∀v,p.2.data≠.cell v):A4 X pins' U H s:=
 ⟨I.ok,I.os,I.bare,I.base,I.loc,I.cell,I.free,I.freeC,λp hp=>(AT.mp hp).elim (λz=>I.pin p (CK _ z)) (h p),I.hok,I.len,I.fzd⟩
theorem sL {N:List Str}(hN:N.Nodup){i j:Nat}{x:Str}(a:N[i]? = some x)(b:N[j]? = some x):i=j:=by
 obtain⟨h1,e1⟩:=Ah.mp a;obtain⟨h2,e2⟩:=Ah.mp b;exact(Jq hN).mp (e1.trans e2.symm)
theorem uI {M:Model}{A:Cy}{E:Ai->Ar->Prop}{i:Nat}{x:Str}{v:V}{u:Ai}{Q:Unit->Ar->Prop}(I:A4 X Ae U H s)(hN:X.N.Nodup)(hi:X.N[i]? = some x)(hx:US X.env.scope x)(r:RelV v u)
  (h:∀s',A4 X Ae (U.set i (some v)) H s'->(∃a,BH a s.heap s'.heap/\(a=X.env.locals\/X.env.cells.lookup x=some a))->Q () s') (hf:X.fn x=true\/X.env.scope.names.lookup x=some .local:=by first | exact .inl rfl | exact .inr rfl | assumption):Au M A (storeName X.env x u) Q E s:=by
 obtain⟨m,hn,hl⟩:=id I.loc;have hcls:(X.env.scope.kind == .class || (X.env.scope.kind == .module && X.env.locals != X.env.globals))=false:=by rw[I.ok.kind];rfl
 have hiσ:i<U.length:=by rw[I.len];exact(Ah.mp hi).1
 have cne:=I.cne
 have tracked:∀{a:Av} {h':CV},(∃o,s.heap.get? a=some o/\H a=none)->BH a s.heap h'->Ik X.prog X.w H h':=λ{a h'} ha hs b ob e=>by
  obtain⟨_,_,hfree⟩:=ha;refine(I.hok b ob e).stay (λc w' hc q=>(hs.2 c ?_).trans q) (λ_ q=>q) λ_ _ q=>q;rintro rfl;rcases hc with rfl|hc
  .rw[hfree]at e;cases e
  .rw[hfree]at hc;cases hc
 rcases hx with hk|hk
 .refine wpAny_storeName_local hk hn (λh' hn' hs=>?_) hcls;obtain⟨oL,_,_,hoL,_⟩:=id hn;refine h _ ⟨I.ok,I.os,I.bare,⟨λb o e n hb hx=>?_,λb o e n hb hx=>?_,I.base.free,λb o e hx=>?_,I.base.tups,I.base.frzs,I.base.tbls⟩,⟨_,hn',λj y v' e1 e2 e3=>?_⟩,λy c e=>?_,I.free,I.freeC,λp hp=>?_,tracked ⟨oL,hoL,I.free⟩ hs,by simpa using I.len,I.fzd⟩ ⟨_,hs,.inl rfl⟩
  .exact(hs.2 b (A6 (Bl (Ap e) I.ok.above))).trans (I.base.keep b o e n hb hx)
  .obtain⟨sl,e1⟩:=I.base.slot b o e n hb hx;exact⟨sl,(hs.2 b (A6 (Bl (Ap e) I.ok.above))).trans e1⟩
  .obtain⟨o',e1⟩:=I.base.there b o e hx;exact⟨o',(hs.2 b (A6 (Bl (Ap e) I.ok.above))).trans e1⟩
  .by_cases hj:j=i
   .subst hj;rw[hi]at e1;cases e1;rw[MU hiσ]at e2;cases e2;exact⟨u,r,.inl ⟨hk,by simp⟩⟩
   .rw[Oo (Bj hj)]at e2;obtain⟨u',r',q⟩:=hl j y v' e1 e2 e3;refine⟨u',r',?_⟩;rcases q with⟨k,e⟩|⟨k,c,e,z⟩
    .refine .inl ⟨k,?_⟩;have:y≠x:=λe=>hj (sL hN e1 (e ▸ hi));simp[this,e]
    .exact .inr ⟨k,c,e,z.sameBut hs (cne y c e)⟩
  .obtain⟨w',z⟩:=I.cell y c e;exact⟨w',z.sameBut hs (cne y c e)⟩
  .obtain⟨e,n,ne,nf,d⟩:=I.pin p hp;exact⟨(hs.2 p.1 ne).trans e,n,ne,nf,d⟩
 .have hfn:X.fn x=true:=by
   rcases hf with z|z
   .exact z
   .rw[z]at hk;cases hk
  obtain⟨c,hc⟩:=I.ok.has x (.inl hk);obtain⟨w',z⟩:=I.cell x c hc;refine wpAny_storeName_cell I.ok.kind hk hc z (λh' hc' hs=>?_);obtain⟨oc,hoc,hocd⟩:=id z;refine h {s with heap:=h' } ⟨I.ok,I.os,I.bare,⟨λb o e n hb hx=>?_,λb o e n hb hx=>?_,I.base.free,λb o e hx=>?_,I.base.tups,I.base.frzs,I.base.tbls⟩,⟨m,hn.sameBut hs (Bj (cne x c hc)),λj y v' e1 e2 e3=>?_⟩,λy c' e=>?_,I.free,I.freeC,λp hp=>?_,tracked ⟨oc,hoc,I.freeC x c hc⟩ hs,by simpa using I.len,I.fzd⟩ ⟨c,hs,.inr hc⟩
  .exact(hs.2 b (A6 (Bl (Ap e) (I.ok.cab x c hfn hc)))).trans (I.base.keep b o e n hb hx)
  .obtain⟨sl,e1⟩:=I.base.slot b o e n hb hx;exact⟨sl,(hs.2 b (A6 (Bl (Ap e) (I.ok.cab x c hfn hc)))).trans e1⟩
  .obtain⟨o',e1⟩:=I.base.there b o e hx;exact⟨o',(hs.2 b (A6 (Bl (Ap e) (I.ok.cab x c hfn hc)))).trans e1⟩
  .by_cases hj:j=i
   .subst hj;rw[hi]at e1;cases e1;rw[MU hiσ]at e2;cases e2;exact⟨u,r,.inr ⟨.inl hk,c,hc,hc'⟩⟩
   .rw[Oo (Bj hj)]at e2;obtain⟨u',r',q⟩:=hl j y v' e1 e2 e3;refine⟨u',r',?_⟩;rcases q with q|⟨k,c',e,z'⟩
    .exact .inl q
    .refine .inr ⟨k,c',e,z'.sameBut hs ?_⟩;rintro rfl;exact hj (sL hN e1 (I.ok.inj _ _ _ e hc ▸ hi))
  .by_cases hcc:c'=c
   .subst hcc;exact⟨_,hc'⟩
   .obtain⟨w2,z2⟩:=I.cell y c' e;exact⟨w2,z2.sameBut hs hcc⟩
  .obtain⟨e,n,ne,nf,d⟩:=I.pin p hp;refine⟨(hs.2 p.1 ?_).trans e,n,ne,nf,d⟩;intro q;rw[q,hoc]at e;have q':=A9 e;exact d w' (by rw[<- q'];exact hocd)
theorem sZ (I:A4 X Ae U H s)(hN:X.N.Nodup)(hi:X.N[i]? = some x)(hx:US X.env.scope x)(r:RelV v u)
  (h:∀s',A4 X Ae (U.set i (some v)) H s'->Q () s') (hf:X.fn x=true\/X.env.scope.names.lookup x=some .local:=by first | exact .inl rfl | exact .inr rfl | assumption):Au M A (storeName X.env x u) Q E s:=
 uI I hN hi hx r (λs' I' _=>h s' I') hf
theorem A4.call' (I:A4 X Ae U H s)(ho:s'.os=s.os)(u:Un (PH X.stack) ch H H' s.heap s'.heap)(hok:Ik X.prog X.w H' s'.heap)(hg:Iw s'.gens)
  (hch:∀b∈ch,(b∈X.ex\/X.s₀.heap.objs.size<=b)/\b≠X.env.locals/\(∀x c,X.env.cells.lookup x=some c->c≠b)/\∀p∈X.pn++Ae,p.1≠b):A4 X Ae U H' s':=by
 obtain⟨h',g',d',t',o'⟩:=s';have e:=ho;subst e;exact I.call u hok hg hch
end
abbrev XK:=Ai->Option Av->Hp->Prop
abbrev St:=List (Option V)
abbrev VK:=V->Hp->Prop
abbrev TE:=St->Hp->VK->Prop
abbrev TT:=St->Hp->(Bool->Hp->Prop)->Prop
abbrev TA:=St->Hp->(List V->Hp->Prop)->Prop
structure Oa where
 nx:St->Hp->Prop
 rt:VK
 bk:St->Hp->Prop:=λ_ _=>False
 ct:St->Hp->Prop:=λ_ _=>False
abbrev TS:=Oa->St->Hp->Prop
def EP (X:Cx)(Ae:List (Av×Obj))(U:St)(Q:VK)(u:Ai)(s':Ar):Prop:=∃v H',A4 X Ae U H' s'/\RelV v u/\Q v H'
def TP (X:Cx)(Ae:List (Av×Obj))(U:St)(Q:Bool->Hp->Prop)(b:Bool)(s':Ar):Prop:=∃H',A4 X Ae U H' s'/\Q b H'
def AP (X:Cx)(Ae:List (Av×Obj))(U:St)(Q:List V->Hp->Prop)(us:List Ai)(s':Ar):Prop:=∃vs H',A4 X Ae U H' s'/\BF vs us/\Q vs H'
theorem EP.el {X:Cx}{Ae:List (Av×Obj)}{U:St}{Q:VK}{u:Ai}{s:Ar}{G:Prop}:EP X Ae U Q u s->(∀v H,A4 X Ae U H s->RelV v u->Q v H->G)->G:=λ⟨v,H,i,r,q⟩ k=>k v H i r q
theorem AP.el {X:Cx}{Ae:List (Av×Obj)}{U:St}{Q:List V->Hp->Prop}{u:List Ai}{s:Ar}{G:Prop}:AP X Ae U Q u s->(∀v H,A4 X Ae U H s->BF v u->Q v H->G)->G:=λ⟨v,H,i,r,q⟩ k=>k v H i r q
theorem TP.el {X:Cx}{Ae:List (Av×Obj)}{U:St}{Q:Bool->Hp->Prop}{u:Bool}{s:Ar}{G:Prop}:TP X Ae U Q u s->(∀H,A4 X Ae U H s->Q u H->G)->G:=λ⟨H,i,q⟩ k=>k H i q
def SP (X:Cx)(Ae:List (Av×Obj))(D:Oa)(f:Flow)(s':Ar):Prop:=
 match f with
 |.next=>∃U' H',A4 X Ae U' H' s'/\D.nx U' H'
 |.brk=>∃U' H',A4 X Ae U' H' s'/\D.bk U' H'
 |.cont=>∃U' H',A4 X Ae U' H' s'/\D.ct U' H'
 |.ret u=>∃v U' H',A4 X Ae U' H' s'/\RelV v u/\D.rt v H'
def PE (X:Cx)(e:Ca)(t:TE):Prop:=
 ∀(Ae:List (Av×Obj)) (s:Ar) (U:St) (H:Hp) (Q:VK),A4 X Ae U H s->t U H Q->Au (AA X.prog X.w) X.A (eval e X.env) (EP X Ae U Q) X.xe s
def PT (X:Cx)(e:Ca)(t:TT):Prop:=
 ∀(Ae:List (Av×Obj)) (s:Ar) (U:St) (H:Hp) (Q:Bool->Hp->Prop),A4 X Ae U H s->t U H Q->Au (AA X.prog X.w) X.A (PZ e X.env (eval e X.env)) (TP X Ae U Q) X.xe s
def PW (X:Cx)(e:Ca)(t:TT):Prop:=
 ∀whole (Ae:List (Av×Obj)) (s:Ar) (U:St) (H:Hp) (Q:Bool->Hp->Prop),A4 X Ae U H s->t U H Q->Au (AA X.prog X.w) X.A (PZ e X.env whole) (TP X Ae U Q) X.xe s
theorem PW.pt (h:PW X e t):PT X e t:=h _
def PA (X:Cx)(es:List Ca)(t:TA):Prop:=
 ∀pos (Ae:List (Av×Obj)) (s:Ar) (U:St) (H:Hp) (Q:List V->Hp->Prop),A4 X Ae U H s->t U H Q->Au (AA X.prog X.w) X.A (U0 (Cc pos (As es X.env))) (AP X Ae U Q) X.xe s
def PS (X:Cx)(st:DG)(t:TS):Prop:=
 ∀(Ae:List (Av×Obj)) (s:Ar) (U:St) (H:Hp) (D:Oa),A4 X Ae U H s->t D U H->Au (AA X.prog X.w) X.A (exec st X.env) (SP X Ae D) X.xe s
def KL (X:Cx)(st:List DG)(t:TS):Prop:=
 ∀(Ae:List (Av×Obj)) (s:Ar) (U:St) (H:Hp) (D:Oa),A4 X Ae U H s->t D U H->Au (AA X.prog X.w) X.A (execs st X.env) (SP X Ae D) X.xe s
theorem Dp {α:Type}{t:Sem α}{Q Q':α->Ar->Prop}{M:Model}{A:Cy}{E:Ai->Ar->Prop}{s:Ar}(h:Au M A t Q E s)(hQ:∀a s,Q a s->Q' a s):Au M A t Q' E s:=BK h hQ λ_ _ x=>x
section
variable {X:Cx}
theorem bin {a b:Ca}{ta tb:TE}(ha:PE X a ta)(hb:PE X b tb){Ae:List (Av×Obj)}{s:Ar}{U:St}{H:Hp}{R:V->V->Hp->Prop}(I:A4 X Ae U H s)(h:ta U H λx H1=>tb U H1 λy H2=>R x y H2)
  {α:Type} {Q:α->Ar->Prop} {f:Ai->Ai->Sem α}
  (hf:∀v u s2 x y H2,A4 X Ae U H2 s2->RelV x v->RelV y u->R x y H2->Au (AA X.prog X.w) X.A (f v u) Q X.xe s2) :
  Au (AA X.prog X.w) X.A (eval a X.env) (λv s₁=>Au (AA X.prog X.w) X.A (eval b X.env) (λu s₂=>Au (AA X.prog X.w) X.A (f v u) Q X.xe s₂) X.xe s₁) X.xe s:=by
 refine Dp (ha Ae s U H _ I h) λv s1 e=>e.el λx H1 I1 r1 q1=>?_;refine Dp (hb Ae s1 U H1 _ I1 q1) λu s2 e=>e.el λy H2 I2 r2 q2=>?_;exact hf v u s2 x y H2 I2 r1 r2 q2
def RJ (i:Nat):TE:=λU H Q=>∃v,U[i]? = some (some v)/\Q v H
def tC (v:V):TE:=λ_ H Q=>Q v H
theorem oV (hN:X.N[i]? = some x)(hv:YE X.env.scope x)(hd:(x == ("__debug__":Str))=false:=by decide)(hcd:(x == ("__classdict__":Str))=false:=by decide):PE X (.Name x pos) (RJ i):=by
 intro Ae s U H Q I h;obtain⟨v,e,h⟩:=h;obtain⟨m,hn,hl⟩:=I.loc;obtain⟨u,r,l⟩:=hl i x v hN e hv;have fin:EP X Ae U Q u s:=⟨v,H,I,r,h⟩;rcases l with⟨hk,hm⟩|⟨hk,c,hc,hcell⟩
 .exact Tp (wpAny_loadName_local I.ok.kind hk hn hm fin) hd
 .rcases hk with hk|hk
  .exact Tp (wpAny_loadName_cell I.ok.kind hk hc hcell fin) hd
  .exact Tp (wpAny_loadName_free I.ok.kind hk hc hcell fin hcd) hd
theorem i4 {i j pos}:PE X (.Constant (.int i) j pos) (tC (.int i)):=λ_ _ _ H _ I h=>wpAny_Constant_int ⟨.int i,H,I.tok _,⟨_,rfl⟩,h⟩
theorem ab {b j pos}:PE X (.Constant (.bool b) j pos) (tC (.bl b)):=λ_ _ _ H _ I h=>Constant_bool ⟨.bl b,H,I,rfl,h⟩
theorem i5 {j pos}:PE X (.Constant .none j pos) (tC .non):=λ_ _ _ H _ I h=>Constant_none ⟨.non,H,I,rfl,h⟩
theorem i8 {x j pos}:PE X (.Constant (.str x) j pos) (tC (.str x)):=λ_ _ _ H _ I h=>Calls.Constant_str ⟨.str x,H,I.tok _,⟨_,rfl⟩,h⟩
def Gl (X:Cx)(x:Str):Prop:=X.env.kindOf x=some .globalImplicit
theorem iZ (I:A4 X Ae U H s)(hg:Gl X x)(hm:X.mg x=some u)(h:Q u s)
  (hd:(x == ("__debug__":Str))=false:=by decide):Au (AA X.prog X.w) X.A (eval (.Name x pos) X.env) Q E s:=
 K5 I.ok.kind hg (Calls.loadGlobal_global (by rw[I.ok.glob];exact I.mod.glob.keeps I.bk) hm h) hd
theorem PK (I:A4 X Ae U H s)(hg:Gl X x)(hm:X.mg x=none)(hv:DD x=some u)(h:Q u s)
  (hn:x≠"__name__":=by decide) (hd:(x == ("__debug__":Str))=false:=by decide):Au (AA X.prog X.w) X.A (eval (.Name x pos) X.env) Q E s:=by
 obtain⟨mb,h1,h2⟩:=I.mod.blt;exact K5 I.ok.kind hg (Calls.loadGlobal_builtin (by rw[I.ok.glob];exact I.mod.glob.keeps I.bk) hm (by rw[I.ok.blt];exact h1.keeps I.bk) ((h2 x hn).trans hv) h) hd
theorem rO (hg:Gl X x)(hm:X.mg x=some u)(r:RelV v u)(hd:(x == ("__debug__":Str))=false:=by decide):PE X (.Name x pos) (tC v):=
 λ_ _ _ H _ I h=>iZ I hg hm ⟨v,H,I,r,h⟩ hd
theorem ph (hg:Gl X x)(hm:X.mg x=none)(hv:DD x=some u)(r:RelV v u)(hn:x≠"__name__":=by decide)(hd:(x == ("__debug__":Str))=false:=by decide):PE X (.Name x pos) (tC v):=
 λ_ _ _ H _ I h=>PK I hg hm hv ⟨v,H,I,r,h⟩ hn hd
variable {a b:Ca}{ta tb:TE}{pos:Pos}
def tB (t:TE):TT:=λU H Q=>t U H λx H1=>∃c,x=.bl c/\Q c H1
theorem ga (h:PE X e t)(he:∀whole,PZ e X.env whole=(do let v <- whole;MQ e.pos;Gy [v] (truthy v)):=by intro _;rfl):PT X e (tB t):=by
 intro Ae s U H Q I hw;refine isTrue_plain (Dp (h Ae s U H _ I hw) λv s1 e=>e.el λx H1 I1 r1 q1=>?_) (he _);obtain⟨d,rfl,q⟩:=q1;cases r1;exact EA ⟨H1,I1,q⟩
variable {tA tB':TT}{C6:List Ca}
def dH (t u:TT):TT:=λU H Q=>t U H λc H1=>if c=true then u U H1 Q else Q false H1
def xP (t u:TT):TT:=λU H Q=>t U H λc H1=>if c=true then Q true H1 else u U H1 Q
def cY (t:TT):TT:=λU H Q=>t U H λc H1=>Q (!c) H1
theorem np (ha:PT X a tA):PW X (.BoolOp .And [a] pos) tA:=by
 intro wh Ae s U H Q I h;refine isTrue_and (Dp (ha Ae s U H Q I h) λc s1 e=>?_);cases c with
 |true=>exact isTrue_and_nil e
 |false=>exact e
theorem gf (ha:PT X a tA):PW X (.BoolOp .Or [a] pos) tA:=by
 intro wh Ae s U H Q I h;refine isTrue_or (Dp (ha Ae s U H Q I h) λc s1 e=>?_);cases c with
 |false=>exact isTrue_or_nil e
 |true=>exact e
theorem gc (ha:PT X a tA)(hb:PW X (.BoolOp .And (b::C6) pos) tB'):PW X (.BoolOp .And (a::b::C6) pos) (dH tA tB'):=by
 intro wh Ae s U H Q I h;refine isTrue_and (Dp (ha Ae s U H _ I h) λc s1 e=>e.el λH1 I1 q1=>?_);cases c with
 |true=>exact hb wh Ae s1 U H1 Q I1 q1
 |false=>exact⟨H1,I1,q1⟩
theorem ak (ha:PT X a tA)(hb:PW X (.BoolOp .Or (b::C6) pos) tB'):PW X (.BoolOp .Or (a::b::C6) pos) (xP tA tB'):=by
 intro wh Ae s U H Q I h;refine isTrue_or (Dp (ha Ae s U H _ I h) λc s1 e=>e.el λH1 I1 q1=>?_);cases c with
 |true=>exact⟨H1,I1,q1⟩
 |false=>exact hb wh Ae s1 U H1 Q I1 q1
theorem f8 (ha:PT X a tA):PT X (.UnaryOp .Not a pos) (cY tA):=by
 intro Ae s U H Q I h;exact isTrue_not (ha Ae s U H (λc H1=>Q (!c) H1) I h)
def Xf (ta tb:TE):TE:=λU H Q=>ta U H λx H1=>∃c,x=.bl c/\if c=true then tb U H1 Q else Q (.bl false) H1
def cX (ta tb:TE):TE:=λU H Q=>ta U H λx H1=>∃c,x=.bl c/\if c=true then Q (.bl true) H1 else tb U H1 Q
theorem i7 {op}(h:PE X a t):PE X (.BoolOp op [a] pos) t:=λAe s U H Q I hw=>BoolOp_one (h Ae s U H Q I hw)
theorem ir (ha:PE X a ta)(hb:PE X (.BoolOp .And (b::C6) pos) tb):PE X (.BoolOp .And (a::b::C6) pos) (Xf ta tb):=by
 intro Ae s U H Q I h;refine BoolOp_and (Dp (ha Ae s U H _ I h) λv s1 e=>e.el λx H1 I1 r1 q1=>?_);obtain⟨c,rfl,q1⟩:=q1;cases r1;refine EA ?_;cases c with
 |true=>exact hb Ae s1 U H1 Q I1 q1
 |false=>exact⟨.bl false,H1,I1,rfl,q1⟩
theorem ag (ha:PE X a ta)(hb:PE X (.BoolOp .Or (b::C6) pos) tb):PE X (.BoolOp .Or (a::b::C6) pos) (cX ta tb):=by
 intro Ae s U H Q I h;refine BoolOp_or (Dp (ha Ae s U H _ I h) λv s1 e=>e.el λx H1 I1 r1 q1=>?_);obtain⟨c,rfl,q1⟩:=q1;cases r1;refine EA ?_;cases c with
 |false=>exact hb Ae s1 U H1 Q I1 q1
 |true=>exact⟨.bl true,H1,I1,rfl,q1⟩
def xQ (t:TT)(ta tb:TE):TE:=λU H Q=>t U H λc H1=>if c=true then ta U H1 Q else tb U H1 Q
theorem rm (hc:PT X c tA)(ha:PE X a ta)(hb:PE X b tb):PE X (.IfExp c a b pos) (xQ tA ta tb):=by
 intro Ae s U H Q I h;refine wpAny_IfExp (Dp (hc Ae s U H _ I h) λd s1 e=>e.el λH1 I1 q1=>?_);cases d with
 |true=>exact ha Ae s1 U H1 Q I1 q1
 |false=>exact hb Ae s1 U H1 Q I1 q1
end
def FH (K:Ac)(H:Hp)(a:Av)(xs:List V):Prop:=
 Rd H a (.lst xs) \/
  ∃o Bk n,K.lookup a=some o/\o.cls=.type "list"/\o.dict=none/\o.data=.seq Bk n/\Bk.size<=Am/\BF xs Bk.toList
def Lo (K:Ac)(H:Hp)(a:Av)(xs:List V):Prop:=
 Rd H a (.tup xs) \/
  ∃o Bk n,K.lookup a=some o/\o.cls=.type "tuple"/\o.data=.seq Bk n/\Bk.size<=Am/\BF xs Bk.toList
noncomputable def gU:Ai->Option V
 |.none=>some .non
 |.bool b=>some (.bl b)
 |.int i _=>some (.int i)
 |.str x _=>some (.str x)
 |.bytes b _=>some (.byt b)
 |.float b _=>some (.flt b)
 |.ref a=>some (.ref a)
 |.type n=>some (.ty n)
 |_=>none
theorem RelV.abs (r:RelV x u):gU u=some x:=by
 cases x with
 |non=>cases r;rfl
 |bl _=>cases r;rfl
 |int _=>obtain⟨t,rfl⟩:=r;rfl
 |str _=>obtain⟨t,rfl⟩:=r;rfl
 |byt _=>obtain⟨t,rfl⟩:=r;rfl
 |flt _=>obtain⟨t,rfl⟩:=r;rfl
 |ref _=>cases r;rfl
 |ty _=>cases r;rfl
theorem RelV.inj (r:RelV x u)(q:RelV y u):x=y:=A9 (r.abs.symm.trans q.abs)
theorem BF.inj:∀{xs ys:List V}{us:List Ai},BF xs us->BF ys us->xs=ys
 |_,_,_,.nil,.nil=>rfl
 |_,_,_,.cons r t,.cons r' t'=>by rw[r.inj r',BF.inj t t']
section
theorem FH.of {K:Ac}(h:H a=some (.lst xs)):FH K H a xs:=.inl (.inl h)
theorem A4.list (I:A4 X Ae U H s)(h:FH X.K H a xs):∃Bk,BF xs Bk/\PlainL s.heap a Bk.toArray/\xs.length<=Am:=by
 rcases h with h|⟨o,Bk,n,hk,hc,hd,hs,hz,r⟩
 .obtain⟨z,Bk,n,r,e⟩:=h.ok I.hok;exact⟨Bk,r,⟨_,n,e,rfl,rfl,rfl⟩,z⟩
 .refine⟨Bk.toList,r,⟨o,n,I.kIn a o hk,hc,hd,by simpa using hs⟩,?_⟩;have e:=r.length;simp only[BE]at e;ext
theorem A4.tuple (I:A4 X Ae U H s)(h:Lo X.K H a xs):∃Bk,BF xs Bk/\IsTup s.heap a Bk.toArray/\xs.length<=Am:=by
 rcases h with h|⟨o,Bk,n,hk,hc,hs,hz,r⟩
 .obtain⟨z,Bk,r,p⟩:=h.ok I.hok;exact⟨Bk,r,p.tup,z⟩
 .refine⟨Bk.toList,r,⟨o,I.kIn a o hk,hc,n,by simpa using hs⟩,?_⟩;have e:=r.length;simp only[BE]at e;ext
theorem A4.list_inj (I:A4 X Ae U H s)(h:FH X.K H a xs)(h':FH X.K H a ys):xs=ys:=by
 obtain⟨Bk,r,⟨o,n,e,_,_,d⟩,_⟩:=I.list h;obtain⟨its',r',⟨o',n',e',_,_,d'⟩,_⟩:=I.list h';rw[e]at e';cases e';rw[d]at d';injection d' with d1 _
 have:Bk=its':=by simpa using congrArg TM d1
 subst this;exact r.inj r'
theorem A4.tuple_inj (I:A4 X Ae U H s)(h:Lo X.K H a xs)(h':Lo X.K H a ys):xs=ys:=by
 obtain⟨Bk,r,⟨o,e,_,n,d⟩,_⟩:=I.tuple h;obtain⟨its',r',⟨o',e',_,n',d'⟩,_⟩:=I.tuple h';rw[e]at e';cases e';rw[d]at d';injection d' with d1 _
 have:Bk=its':=by simpa using congrArg TM d1
 subst this;exact r.inj r'
end
noncomputable abbrev Cx.wish (X:Cx)(E:Ai->Ar->Prop):Cx:={X with xe:=E}
noncomputable abbrev Cx.nox (X:Cx):Cx:=X.wish λ_ _=>False
theorem Cx.Ok.wish {X:Cx}(ok:X.Ok)(E:Ai->Ar->Prop):(X.wish E).Ok:=
 ⟨ok.mod,ok.kind,ok.glob,ok.blt,ok.above,ok.inj,ok.has,ok.cab,ok.hd,ok.frames,ok.stk,ok.exf,ok.bs,ok.bsz,ok.noex,ok.exfs,ok.funs,ok.frf⟩
theorem Cx.Ok.unwish {X:Cx}(ok:(X.wish E).Ok):X.Ok:=
 ⟨ok.mod,ok.kind,ok.glob,ok.blt,ok.above,ok.inj,ok.has,ok.cab,ok.hd,ok.frames,ok.stk,ok.exf,ok.bs,ok.bsz,ok.noex,ok.exfs,ok.funs,ok.frf⟩
section
variable {X:Cx}     {E:Ai->Ar->Prop}
theorem A4.wish (I:A4 X Ae U H s)(E:Ai->Ar->Prop):A4 (X.wish E) Ae U H s:=⟨I.ok.wish E,I.os,I.bare,I.base,I.loc,I.cell,I.free,I.freeC,I.pin,I.hok,I.len,I.fzd⟩
theorem A4.unwish (I:A4 (X.wish E) Ae U H s):A4 X Ae U H s:=⟨I.ok.unwish,I.os,I.bare,I.base,I.loc,I.cell,I.free,I.freeC,I.pin,I.hok,I.len,I.fzd⟩
theorem SP.unwish (h:SP (X.wish E) Ae D f s'):SP X Ae D f s':=by
 cases f with
 |next=>obtain⟨U',H',I,q⟩:=h;exact⟨U',H',I.unwish,q⟩
 |brk=>obtain⟨U',H',I,q⟩:=h;exact⟨U',H',I.unwish,q⟩
 |cont=>obtain⟨U',H',I,q⟩:=h;exact⟨U',H',I.unwish,q⟩
 |ret u=>obtain⟨v,U',H',I,r,q⟩:=h;exact⟨v,U',H',I.unwish,r,q⟩
theorem KL.nox {st:List DG}(h:KL X.nox st t):KL X st t:=λAe s U H D I hw=>
 BK (h Ae s U H D (I.wish _) hw) (λ_ _ q=>q.unwish) λ_ _ z=>C5 z
end
section
variable {X:Cx}{st:DG}{C6:List DG}{t:TS}
def W8:TS:=λD U H=>D.nx U H
def cV (t u:TS):TS:=λD U H=>t {D with nx:=u D} U H
theorem ng:KL X [] W8:=λ_ _ U H _ I h=>II ⟨U,H,I,h⟩
theorem sP (h1:PS X st t)(h2:KL X C6 u):KL X (st::C6) (cV t u):=by
 intro Ae s U H D I h;refine We (Dp (h1 Ae s U H {D with nx:=u D} I h) λf s1 q=>?_);cases f with
 |next=>obtain⟨U',H',I',q⟩:=q;exact h2 Ae s1 U' H' D I' q
 |ret v=>exact q
 |brk=>exact q
 |cont=>exact q
theorem nh (h1:PS X st t):KL X [st] t:=by
 intro Ae s U H D I h;refine We (Dp (h1 Ae s U H D I h) λf s1 q=>?_);cases f with
 |next=>exact II q
 |ret v=>exact q
 |brk=>exact q
 |cont=>exact q
theorem A4.quiet (I:A4 X Ae U H s):interactive X.env=false:=by simp[interactive,I.ok.kind]
def Xb (te:TE):TS:=λD U H=>te U H λ_ H1=>D.nx U H1
theorem nc (he:PE X e te)(hs:DW e none pos.line X.env=pure false:=by rfl):PS X (.Expr e pos) (Xb te):=by
 intro Ae s U H D I h;exact wpAny_Expr_any (Dp (he Ae s U H _ I h) λv s1 e=>e.el λx H1 I1 r1 q1=>⟨U,H1,I1,q1⟩) I.quiet hs
def cW (te:TE):TS:=λD U H=>te U H D.rt
theorem fv (he:PE X e te):PS X (.Return (some e) pos) (cW te):=by
 intro Ae s U H D I h;exact wpAny_Return_some (Dp (he Ae s U H _ I h) λv s1 e=>e.el λx H1 I1 r1 q1=>⟨x,U,H1,I1,r1,q1⟩)
def dA (c:TT)(t u:TS):TS:=λD U H=>c U H λb H1=>if b=true then t D U H1 else u D U H1
theorem aj (hc:PT X c tc)(ha:KL X a t)(hb:KL X b u):PS X (.If c a b pos) (dA tc t u):=by
 intro Ae s U H D I h;refine wpAny_If (Dp (hc Ae s U H _ I h) λd s1 e=>e.el λH1 I1 q1=>?_);cases d with
 |true=>exact ha Ae s1 U H1 D I1 q1
 |false=>exact hb Ae s1 U H1 D I1 q1
end
abbrev TG:=V->St->Hp->(St->Hp->Prop)->Prop
abbrev V7:=List V->St->Hp->(St->Hp->Prop)->Prop
def PG (X:Cx)(target:Ca)(t:TG):Prop:=
 ∀(Ae:List (Av×Obj)) (s:Ar) (U:St) (H:Hp) (v:V) (u:Ai) (Q:St->Hp->Prop),A4 X Ae U H s->RelV v u->t v U H Q ->
  Au (AA X.prog X.w) X.A (LB target X.env u) (λ_ s'=>∃U' H',A4 X Ae U' H' s'/\Q U' H') X.xe s
def Tk (X:Cx)(ts:List Ca)(t:V7):Prop:=
 ∀(Ae:List (Av×Obj)) (s:Ar) (U:St) (H:Hp) (vs:List V) (us:List Ai) (Q:St->Hp->Prop),A4 X Ae U H s->BF vs us->t vs U H Q ->
  Au (AA X.prog X.w) X.A (assignInOrder ((CT ts X.env).map (·.2)) us) (λ_ s'=>∃U' H',A4 X Ae U' H' s'/\Q U' H') X.xe s
section
def Kt (i:Nat):TG:=λv U H Q=>Q (U.set i (some v)) H
theorem LX (hN:X.N.Nodup)(hi:X.N[i]? = some x)(hx:US X.env.scope x)(hf:X.fn x=true\/X.env.scope.names.lookup x=some .local:=by first | exact .inl rfl | exact .inr rfl | assumption):PG X (.Name x pos) (Kt i):=by
 intro Ae s U H v u Q I r h;exact UY (sZ I hN hi hx r (λs' I'=>⟨_,H,I',h⟩) hf)
def X4:V7:=λvs U H Q=>vs=[]/\Q U H
def S8 (t:TG)(u:V7):V7:=λvs U H Q=>∃v r,vs=v::r/\t v U H λU' H'=>u r U' H' Q
theorem UB:Tk X [] X4:=by
 intro Ae s U H vs us Q I r h;obtain⟨e,h⟩:=h;subst e;cases r;exact assignInOrder_nil ⟨U,H,I,h⟩
theorem MN (h1:PG X e t)(h2:Tk X es u)
  (hs:(CT (e::es) X.env).map (·.2)=LB e X.env::(CT es X.env).map (·.2):=by rfl):Tk X (e::es) (S8 t u):=by
 intro Ae s U H vs us Q I r h;obtain⟨v,vr,e1,h⟩:=h;subst e1;cases r with
 |cons r rr=>rw[hs];refine assignInOrder_cons (Dp (h1 Ae s U H _ _ _ I r h) λ_ s1 ⟨U1,H1,I1,q1⟩=>?_);exact h2 Ae s1 U1 H1 _ _ Q I1 rr q1
def Qt (K:Ac)(n:Nat)(t:V7):TG:=λv U H Q=>∃a xs,v=.ref a/\Lo K H a xs/\xs.length=n/\t xs U H Q
theorem oW (hc:X.calm=true)(h:Tk X es t)
  (hn:(CT es X.env).length=n:=by rfl) (hst:(CT es X.env).findIdx? (·.1)=none:=by rfl):PG X (.Tuple es k pos) (Qt X.K n t):=by
 intro Ae s U H v u Q I r hw;obtain⟨a,xs,e1,hq,hl,hw⟩:=hw;subst e1;cases r;obtain⟨Bk,rv,ht,hz⟩:=I.tuple hq;refine assign_Tuple_tuple (I.ok.hd hc) ht (by simp[hn,<- hl,rv.length]) hst λh' hx=>?_;have I1:A4 X Ae U H {s with heap:=h' }:=I.kept λb o e=>hx b o (A6 (Ap e)) e;exact h Ae _ U H xs _ Q I1 (by simpa using rv) hw
def OU (te:TE)(g:TG):TS:=λD U H=>te U H λx H1=>g x U H1 D.nx
theorem fo (he:PE X e te)(hg:PG X tg g)(hs:swapsWithSole [tg] e pos.line X.env=pure false:=by rfl)(hw:swappedStores [tg] e X.env=pure none:=by rfl)
  (h1:(CT [tg] X.env).map (·.2)=[LB tg X.env]:=by rfl):PS X (.Assign [tg] e pos) (OU te g):=by
 intro Ae s U H D I h;refine wpAny_Assign_stores (Dp (he Ae s U H _ I h) λv s1 e=>e.el λx H1 I1 r1 q1=>?_) hs hw;rw[h1];exact Dp (hg Ae s1 U H1 x v _ I1 r1 q1) λ_ s2 q=>q
theorem fw (hN:X.N.Nodup)(hi:X.N[i]? = some x)(hx:US X.env.scope x)(he:PE X e te)(hs:DW e (some (.Name x pos')) pos.line X.env=pure false:=by rfl)(hf:X.fn x=true\/X.env.scope.names.lookup x=some .local:=by first | exact .inl rfl | exact .inr rfl | assumption) :
  PS X (.Assign [.Name x pos'] e pos) (OU te (Kt i)):=by
 intro Ae s U H D I h;refine wpAny_Assign_Name (Dp (he Ae s U H _ I h) λv s1 e=>e.el λy H1 I1 r1 q1=>?_) hs;exact sZ I1 hN hi hx r1 (λs2 I2=>⟨_,H1,I2,q1⟩) hf
end
section
def TV (c:TT)(tb:TS):TS:=λD U H=>∃W:Nat->St->Hp->Prop,(∃m,W m U H)/\∀m U H,W m U H ->
 c U H λb H1=>if b=true then∃N:St->Hp->Prop,(∀U' H',N U' H'->∃m',m' < m/\W m' U' H')/\tb {D with nx:=N,ct:=N,bk:=D.nx} U H1 else D.nx U H1
theorem se (hp:Pm (AA X.prog X.w) X.A X.env X.xe)(hc:PT X c tc)(hb:KL X body tb):PS X (.While c body [] pos) (TV tc tb):=by
 intro Ae s U H D I h;obtain⟨W,⟨m0,w0⟩,turn⟩:=h;refine wpAny_While (codeAny_whileLoop (λn s'=>∃U' H',A4 X Ae U' H' s'/\W n U' H') ?_ m0 ⟨U,H,I,w0⟩);rintro n s1 ⟨U1,H1,I1,w1⟩;refine Em hp (Dp (hc Ae s1 U1 H1 _ I1 (turn n U1 H1 w1)) λb s2 e=>e.el λH2 I2 q2=>?_);cases b with
 |true=>
  obtain⟨N,hN,q2⟩:=q2;rw[if_pos rfl];refine Em hp (Dp (hb Ae s2 U1 H2 _ I2 q2) λf s3 q3=>?_);cases f with
  |next=>obtain⟨U3,H3,I3,n3⟩:=q3;obtain⟨m',hm,w3⟩:=hN U3 H3 n3;exact⟨m',hm,U3,H3,I3,w3⟩
  |cont=>obtain⟨U3,H3,I3,n3⟩:=q3;obtain⟨m',hm,w3⟩:=hN U3 H3 n3;exact⟨m',hm,U3,H3,I3,w3⟩
  |brk=>exact q3
  |ret v=>exact q3
 |false=>rw[if_neg Al];exact II ⟨U1,H2,I2,q2⟩
end
structure It where
 go:Nat->Hp->Prop
 yld:Nat->Hp->V->Hp->Prop
 stop:Nat->Hp->Prop
def Ji (X:Cx)(Ae:List (Av×Obj))(H:Hp)(b:Av):Prop:=
 H b=none/\b≠X.env.locals/\b∉X.fs/\(b∈X.ex\/X.s₀.heap.objs.size<=b)/\(∀x c,X.env.cells.lookup x=some c->c≠b)/\∀p∈X.pn++Ae,p.1≠b
theorem A4.fpOk (I:A4 X Ae U H s)(hb:s.heap.objs.size<=b)(hn:H' b=none):Ji X Ae H' b:=by
 refine⟨hn,EZ (Bl I.lt hb),I.nofs hb,.inr (AZ I.sz hb),λx c e z=>?_,λp hp z=>?_⟩
 .obtain⟨v,q⟩:=I.cell x c e;exact absurd (Bl q.lt (by rw[z];exact hb)) (EQ _)
 .exact absurd (Bl (Ap (I.pin p hp).1) (by rw[z];exact hb)) (EQ _)
structure LY (P:Bq)(w:BM)(K:Ac)(F:List (Av×Obj×HO))(tg:Ca)(J:It)(fp:List Av)(it:Av)(tn:Nat->CV->Prop):Prop where
 mem:it∈fp
 obj:∀i h,tn i h->∀b∈fp,∃o,h.get? b=some o/\∀v,o.data≠.cell v
 keep:∀i h h',tn i h->(∀b∈fp,∀o,h.get? b=some o->h'.get? b=some o)->tn i h'
 item:∀(X:Cx),X.prog=P->X.w=w->X.K=K->X.fz=F->X.calm=true->∀(i:Nat) (Ae:List (Av×Obj)) (s:Ar) (U:St) (H:Hp) (E:Ai->Ar->Prop),A4 X Ae U H s->(∀b∈fp,Ji X Ae H b)->tn i s.heap->J.go i H ->
  Au (AA P w) X.A (Ip (.ref it)) (λr s1=>∃ u,r=some u /\
   Au (AA P w) X.A (IK tg (.ref it) u) (λ_ s2=>∃ x H',A4 X Ae U H' s2/\RelV x u/\J.yld i H x H'/\tn (i+1) s2.heap/\∀ b∈fp,H' b=none) E s1) E s
 done:∀(X:Cx),X.prog=P->X.w=w->X.K=K->X.fz=F->X.calm=true->∀(i:Nat) (Ae:List (Av×Obj)) (s:Ar) (U:St) (H:Hp) (E:Ai->Ar->Prop),A4 X Ae U H s->(∀b∈fp,Ji X Ae H b)->tn i s.heap->J.stop i H ->
  Au (AA P w) X.A (Ip (.ref it)) (λr s1=>r=none/\A4 X Ae U H s1) E s
 self:∀(A:Cy) (i:Nat) (s:Ar) (Q:Ai->Ar->Prop) (E:Ai->Ar->Prop),tn i s.heap->Q (.ref it) s->Au (AA P w) A (Ts (.ref it)) Q E s
abbrev TI:=St->Hp->(It->Hp->Prop)->Prop
def YI (X:Cx)(Ae:List (Av×Obj))(U:St)(tg:Ca)(R:It->Hp->Prop)(itv:Ai)(s2:Ar):Prop:=
 ∃it fp tn J H',itv=.ref it/\A4 X Ae U H' s2/\LY X.prog X.w X.K X.fz tg J fp it tn/\tn 0 s2.heap/\(∀b∈fp,Ji X Ae H' b)/\R J H'
def PI (X:Cx)(tg iter:Ca)(wi:TI):Prop:=
 ∀(Ae:List (Av×Obj)) (s:Ar) (U:St) (H:Hp) (R:It->Hp->Prop),A4 X Ae U H s->wi U H R ->
  Au (AA X.prog X.w) X.A (eval iter X.env) (λv s1=>Au (AA X.prog X.w) X.A (Ts v) (YI X Ae U tg R) X.xe s1) X.xe s
theorem VA (ho:s.heap.get? it=some o)(hc:o.cls=.type n)(hd:o.data=.fields vs)
    (hn:["enumerate", "zip", "dict_itemiterator", "dict_reverseitemiterator", "odict_iterator", "itertools.zip_longest", "itertools.pairwise"].contains n=false) (hQ:Q () s):Au M A (IK tg (.ref it) u) Q E s:=by
  unfold IK
  cases tg<;>first
    |exact Ad hQ
    | (cases u<;>first
        |exact Ad hQ
        | (refine Aa (wpAny_load ho ?_)
           rw [hc,hd];show Au M A (if (["enumerate", "zip", "dict_itemiterator", "dict_reverseitemiterator", "odict_iterator", "itertools.zip_longest", "itertools.pairwise"].contains n && vs[0]? == some (Lv _))=true then _ else _) Q E s;rw [if_neg (by intro h;rw [hn,E6] at h;cases h)];exact Ad hQ))
noncomputable def xJ (K:Ac)(a:Av):It:=
 ⟨λi H=>∃xs x,FH K H a xs/\xs[i]? = some x,λi H x H'=>H'=H/\∀xs,FH K H a xs->xs[i]? = some x,λi H=>∃xs,FH K H a xs/\xs.length<=i⟩
noncomputable def xH (K:Ac)(a:Av):It:=
 ⟨λi H=>∃xs x,Lo K H a xs/\xs[i]? = some x,λi H x H'=>H'=H/\∀xs,Lo K H a xs->xs[i]? = some x,λi H=>∃xs,Lo K H a xs/\xs.length<=i⟩
noncomputable def cB (lo:Int)(n:Nat):It:=⟨λi _=>i<n,λi H x H'=>H'=H/\x=.int (lo+i),λi _=>n<=i⟩
theorem wo {K:Ac}(a it:Av):LY P w K F tg (xJ K a) [it] it (λi h=>h.IsListIter it a i) where
 mem:=by simp
 obj:=λi h st b hb=>by
  have e:b=it:=by simpa using hb
  subst e;obtain⟨o,e,c,d⟩:=st;exact⟨o,e,λv z=>by rw[d]at z;cases z⟩
 keep:=λi h h' st k=>st.at λo e=>k it (by simp) o e
 item:=by
  intro X hP hw hK hF hc i Ae s U H E I hf st hg;subst hP hw hK;obtain⟨xs,x,hq,hx⟩:=hg;obtain⟨Bk,rv,p,hz⟩:=I.list hq;obtain⟨u,hu,ru⟩:=rv.get hx;obtain⟨f0,f1,f2,f3,f4,f5⟩:=hf it (by simp);refine PN st p.isList (by simpa using hu) λh' st' sb=>?_;have I1:A4 X Ae U H {s with heap:=h' }:=I.turned (λb o hb e=>(sb.2 b hb).trans e) f0 f1 f3 f4 f5;obtain⟨o,e,c,d⟩:=id st';exact⟨u,rfl,VA e c d (by decide) ⟨x,H,I1,ru,⟨rfl,λys hy=>by rw[I.list_inj hy hq];exact hx⟩,st',λb hb=>(hf b hb).1⟩⟩
 done:=by
  intro X hP hw hK hF hc i Ae s U H E I hf st hg;subst hP hw hK;obtain⟨xs,hq,hx⟩:=hg;obtain⟨Bk,rv,p,hz⟩:=I.list hq;obtain⟨f0,f1,f2,f3,f4,f5⟩:=hf it (by simp);have hl:=rv.length;exact QS (I.ok.hd hc) st p.isList (by simp;ext) λh' eb=>⟨rfl,I.turned (λb o hb e=>eb b o hb e) f0 f1 f3 f4 f5⟩
 self:=λ_ _ _ _ _ st h=>wpAny_pyIter_listiter st h
theorem yc {K:Ac}(a it:Av):LY P w K F tg (xH K a) [it] it (λi h=>h.IsTupleIter it a i) where
 mem:=by simp
 obj:=λi h st b hb=>by
  have e:b=it:=by simpa using hb
  subst e;obtain⟨o,e,c,d⟩:=st;exact⟨o,e,λv z=>by rw[d]at z;cases z⟩
 keep:=λi h h' st k=>st.at λo e=>k it (by simp) o e
 item:=by
  intro X hP hw hK hF hc i Ae s U H E I hf st hg;subst hP hw hK;obtain⟨xs,x,hq,hx⟩:=hg;obtain⟨Bk,rv,p,hz⟩:=I.tuple hq;obtain⟨u,hu,ru⟩:=rv.get hx;obtain⟨f0,f1,f2,f3,f4,f5⟩:=hf it (by simp);refine wpAny_pyNext_tuple_item st (show s.heap.IsTuple a Bk.toArray from p) (by simpa using hu) λh' st' sb=>?_;have I1:A4 X Ae U H {s with heap:=h' }:=I.turned (λb o hb e=>(sb.2 b hb).trans e) f0 f1 f3 f4 f5;obtain⟨o,e,c,d⟩:=id st';exact⟨u,rfl,VA e c d (by decide) ⟨x,H,I1,ru,⟨rfl,λys hy=>by rw[I.tuple_inj hy hq];exact hx⟩,st',λb hb=>(hf b hb).1⟩⟩
 done:=by
  intro X hP hw hK hF hc i Ae s U H E I hf st hg;subst hP hw hK;obtain⟨xs,hq,hx⟩:=hg;obtain⟨Bk,rv,p,hz⟩:=I.tuple hq;obtain⟨f0,f1,f2,f3,f4,f5⟩:=hf it (by simp);have hl:=rv.length;exact wpAny_pyNext_tuple_end (I.ok.hd hc) st (show s.heap.IsTuple a Bk.toArray from p) (by simp;ext) λh' eb=>⟨rfl,I.turned (λb o hb e=>eb b o hb e) f0 f1 f3 f4 f5⟩
 self:=λ_ _ _ _ _ st h=>wpAny_pyIter_tupleiter st h
theorem yb {K:Ac}(it:Av)(lo:Int)(n:Nat):LY P w K F tg (cB lo n) [it] it (λi h=>Mg h it (lo+(i:Nat)*1) ((n:Int)-(i:Nat)) 1) where
 mem:=by simp
 obj:=λi h st b hb=>by
  have e:b=it:=by simpa using hb
  subst e
  exact ⟨_,st,λv z=>by
   have z':=z;cases z'⟩
 keep:=λi h h' st k=>k it (by simp) _ st
 item:=by
  intro X hP hw hK hF hc i Ae s U H E I hf st hg;subst hP hw hK;obtain⟨f0,f1,f2,f3,f4,f5⟩:=hf it (by simp);have W:=Vc (prog:=X.prog) (w:=X.w) (I.ok.hd hc) it lo 1 n;refine W.item i s _ _ hg st λv h' tk hv st' kk=>?_;obtain⟨t,rfl⟩:=hv;have I1:A4 X Ae U H {s with heap:=h',toks:=tk}:=I.turned (λb o hb e=>kk b o (by simpa using hb) e) f0 f1 f3 f4 f5;refine⟨_,rfl,VA (s:={s with heap:=h',toks:=tk}) (n:="range_iterator") st' rfl rfl (by decide) ⟨.int (lo+i),H,I1,⟨t,?_⟩,⟨rfl,rfl⟩,st',λb hb=>(hf b hb).1⟩⟩;rw[Zh]
 done:=by
  intro X hP hw hK hF hc i Ae s U H E I hf st hg;subst hP hw hK;obtain⟨f0,f1,f2,f3,f4,f5⟩:=hf it (by simp);exact PM (I.ok.hd hc) st (by have:n<=i:=hg;ext) λh' eb=>⟨rfl,I.turned (t':=s.toks) (λb o hb e=>eb b o hb e) f0 f1 f3 f4 f5⟩
 self:=λ_ _ _ _ _ st h=>PP st h
section
def X1 (K:Ac)(tl:TE):TI:=λU H R=>tl U H λx H1=>∃a,x=.ref a/\(∃xs,FH K H1 a xs)/\R (xJ K a) H1
def gL (K:Ac)(tl:TE):TI:=λU H R=>tl U H λx H1=>∃a,x=.ref a/\(∃xs,Lo K H1 a xs)/\R (xH K a) H1
theorem p6 {l:Ca}{tl:TE}(hl:PE X l tl):PI X tg l (X1 X.K tl):=by
 intro Ae s U H R I h;refine Dp (hl Ae s U H _ I h) λv s1 e=>e.el λx H1 I1 r1 q1=>?_;obtain⟨a,e,⟨xs,hq⟩,q⟩:=q1;subst e;cases r1;obtain⟨Bk,rv,p,hz⟩:=I1.list hq;refine Hq p.isList ?_;refine⟨s1.heap.objs.size,[s1.heap.objs.size],_,_,H1,rfl,I1.kept λb o e=>Ag _ e,wo a _,⟨_,AB _ rfl,rfl,rfl⟩,λb hb=>?_,q⟩;have e:b=s1.heap.objs.size:=by simpa using hb
 subst e;exact I1.fpOk (AJ _) (I1.hok.fresh (AJ _))
theorem fg {l:Ca}{tl:TE}(hl:PE X l tl):PI X tg l (gL X.K tl):=by
 intro Ae s U H R I h;refine Dp (hl Ae s U H _ I h) λv s1 e=>e.el λx H1 I1 r1 q1=>?_;obtain⟨a,e,⟨xs,hq⟩,q⟩:=q1;subst e;cases r1;obtain⟨Bk,rv,p,hz⟩:=I1.tuple hq;refine wpAny_pyIter_tuple (show s1.heap.IsTuple a Bk.toArray from p) ?_;refine⟨s1.heap.objs.size,[s1.heap.objs.size],_,_,H1,rfl,I1.kept λb o e=>Ag _ e,yc a _,⟨_,AB _ rfl,rfl,rfl⟩,λb hb=>?_,q⟩;have e:b=s1.heap.objs.size:=by simpa using hb
 subst e;exact I1.fpOk (AJ _) (I1.hok.fresh (AJ _))
theorem Qi {lo hi:Int}(I:A4 X Ae U H s)(h1:-(2^62)<=lo)(h2:lo<2^62)(h3:-(2^62)<=hi)(h4:hi<2^62)
  (q:R (cB lo (hi-lo).toNat) H):Au (AA X.prog X.w) X.A (Ts (.ref s.heap.objs.size)) (YI X Ae U tg R) E {s with heap:=s.heap.push {cls:=.type "range",data:=.fields #[.int lo t,.int hi u,.int 1 v]},toks:=tk}:=by
 refine Tn (Sv ..) (small_one h1 h2 h3 h4) ?_;have I1:A4 X Ae U H {s with heap:=s.heap.push {cls:=.type "range",data:=.fields #[.int lo t,.int hi u,.int 1 v]},toks:=tk}:=I.kept λb o e=>Ag _ e
 refine ⟨(s.heap.push { cls:=.type "range",data:=.fields #[.int lo t,.int hi u,.int 1 v] }).objs.size,[(s.heap.push { cls:=.type "range",data:=.fields #[.int lo t,.int hi u,.int 1 v] }).objs.size],_,_,H,rfl,
  I1.kept λb o e=>Ag _ e,yb _ lo (hi-lo).toNat,?_,λb hb=>?_,q⟩
 .have e1:lo+((0:Nat):Int)*1=lo:=by simp
  have e2:(((hi-lo).toNat:Nat):Int)-((0:Nat):Int)=Eu lo hi 1:=by rw[rangeSize_one];split<;>ext
  show Mg _ _ (lo+((0:Nat):Int)*1) ((((hi-lo).toNat:Nat):Int)-((0:Nat):Int)) 1;rw[e1,e2];exact AB _ rfl
 .have e:b=(s.heap.push {cls:=.type "range",data:=.fields #[.int lo t,.int hi u,.int 1 v]}).objs.size:=by simpa using hb
  subst e;exact I1.fpOk (AJ _) (I1.hok.fresh (AJ _))
def X0 (ta:TA):TI:=λU H R=>ta U H λvs H1=>∃j,vs=[.int j]/\-(2^62)<=j/\j<2^62/\R (cB 0 j.toNat) H1
theorem xa {a:Ca}(hg:Gl X "range")(hm:X.mg "range" = none)(ha:PA X [a] ta)(hs:As [a] X.env=[(false,eval a X.env)]:=by rfl):PI X tg (.Call (.Name "range" p) [a] [] pos) (X0 ta):=by
 intro Ae s U H R I h;refine Call_ (PK I hg hm boot_range (BB (Dp (ha pos Ae s U H _ I h) λus s1 e=>e.el λvs H1 I1 r1 q1=>?_) hs rfl));obtain⟨j,e,q1,q2,q⟩:=q1;subst e;cases r1 with
 |cons r rr=>cases rr;obtain⟨t,rfl⟩:=r;exact call_range_1 (Qi I1 (by ext) (by ext) q1 q2 (by simpa using q))
def dC (wi:TI)(g:TG)(tb:TS):TS:=λD U H=>wi U H λJ H1=>∃W:Nat->Nat->St->Hp->Prop,(∃m,W 0 m U H1)/\∀i m U H,W i m U H ->
 (J.stop i H/\D.nx U H)\/(J.go i H/\∃N:St->Hp->Prop,(∀U' H',N U' H'->∃m',m' < m/\W (i+1) m' U' H')/\∀x H',J.yld i H x H'->g x U H' λU2 H2=>tb {D with nx:=N,ct:=N,bk:=D.nx} U2 H2)
noncomputable def IB (fp:List Av)(h:CV):List (Av×Obj):=fp.filterMap λb=>(h.get? b).map λo=>(b,o)
theorem bG (hb:b∈fp)(e:h.get? b=some o):(b,o)∈IB fp h:=CL.mpr ⟨b,hb,by rw[e];rfl⟩
theorem uL (hp:p∈IB fp h):p.1∈fp/\h.get? p.1=some p.2:=by
 obtain⟨b,hb,e⟩:=CL.mp hp;cases q:h.get? b with
 |none=>rw[q]at e;cases e
 |some o=>rw[q]at e;have e':=A9 e;subst e';exact⟨hb,q⟩
theorem A4.pinned (I:A4 X Ae U H s)(hf:∀b∈fp,Ji X Ae H b)(ho:∀b∈fp,∃o,s.heap.get? b=some o/\∀v,o.data≠.cell v):A4 X (Ae++IB fp s.heap) U H s:=
 I.pins_of λp hp=>(AT.mp hp).elim (λz=>I.pin p (AU _ z)) λz=>by
  obtain⟨hb,e⟩:=uL z;obtain⟨f0,f1,f2,_⟩:=hf p.1 hb;obtain⟨o,e',d⟩:=ho p.1 hb;rw[e]at e';cases e';exact⟨e,f0,f1,f2,d⟩
theorem A4.unpinned (I:A4 X (Ae++pl) U H s):A4 X Ae U H s:=I.pins_of λp hp=>I.pin p (AU _ (CK _ hp))
theorem fu (hp:Pm (AA X.prog X.w) X.A X.env X.xe)(hc:X.calm=true)(hi:PI X tg iter wi)(hg:PG X tg g)(hb:KL X body tb)
  (hs:∀x,Bw iter X.env x=pure x:=by intro _;rfl):PS X (.For tg iter body [] pos) (dC wi g tb):=by
 intro Ae s U H D I h;refine wpAny_For (Dp (hi Ae s U H _ I h) λv s1 h1=>Dp h1 λitv s2 h2=>?_) hs;obtain⟨it,fp,tn,J,H2,e,I2,T,st2,f2,W,⟨m0,w0⟩,turn⟩:_:=h2;subst e;have stat:∀{H':Hp},(∀b∈fp,H' b=none)->∀b∈fp,Ji X Ae H' b:=λhn b hb=>⟨hn b hb,(f2 b hb).2⟩;refine codeAny_forLoop_any (λn s'=>∃i U' H',A4 X Ae U' H' s'/\tn i s'.heap/\(∀b∈fp,H' b=none)/\W i n U' H') ?_ m0 ⟨0,U,H2,I2,st2,λb hb=>(f2 b hb).1,w0⟩;intro n s3 hI';refine Ao λG' kk'=>?_;obtain⟨i,U3,H3,I3,st3,fr3,w3⟩:=hI';refine kk' ?_;clear kk';rcases turn i n U3 H3 w3 with⟨stop,qn⟩|⟨go,N,hN,step⟩
 .refine Em hp (Dp (T.done X rfl rfl rfl rfl hc i Ae s3 U3 H3 X.xe I3 (stat fr3) st3 stop) λr s4 ⟨hr,I4⟩=>?_);subst hr;exact II ⟨U3,H3,I4,qn⟩
 .refine Em hp (Dp (T.item X rfl rfl rfl rfl hc i Ae s3 U3 H3 X.xe I3 (stat fr3) st3 go) λr s4 ⟨u,hr,h4⟩=>?_);subst hr;refine Em hp (Dp h4 λ_ s5 ⟨x,H5,I5,r5,y5,st5,fr5⟩=>?_);have I5':=I5.pinned (stat fr5) (T.obj _ _ st5);refine Em hp (Dp (hg _ s5 U3 H5 x u _ I5' r5 (step x H5 y5)) λ_ s6 ⟨U6,H6,I6,q6⟩=>?_);refine Em hp (Dp (hb _ s6 U6 H6 _ I6 q6) λf s7 q7=>?_)
  have Nu:∀{U7:St} {H7:Hp},A4 X (Ae++IB fp s5.heap) U7 H7 s7->N U7 H7->∃m,m<n/\∃i U' H',A4 X Ae U' H' s7/\tn i s7.heap/\(∀b∈fp,H' b=none)/\W i m U' H':=λ{U7 H7} I7 n7=>by
   obtain⟨m',hm,w7⟩:=hN U7 H7 n7;refine⟨m',hm,i+1,U7,H7,I7.unpinned,T.keep _ _ _ st5 λb hb o e=>(I7.pin (b,o) (AU _ (AU _ (bG hb e)))).1,λb hb=>?_,w7⟩;obtain⟨o,e,d⟩:=T.obj _ _ st5 b hb;exact(I7.pin (b,o) (AU _ (AU _ (bG hb e)))).2.1
  cases f with
  |next=>obtain⟨U7,H7,I7,n7⟩:=q7;exact Nu I7 n7
  |cont=>obtain⟨U7,H7,I7,n7⟩:=q7;exact Nu I7 n7
  |brk=>obtain⟨U7,H7,I7,q7⟩:=q7;exact⟨U7,H7,I7.unpinned,q7⟩
  |ret v=>obtain⟨x7,U7,H7,I7,r7,q7⟩:=q7;exact⟨x7,U7,H7,I7.unpinned,r7,q7⟩
end
abbrev R2:=V->V->Hp->VK->Prop
def F6 (X:Cx)(f:Ai->Ai->Sem Ai)(r:R2):Prop:=
 ∀(Ae:List (Av×Obj)) (s:Ar) (U:St) (H:Hp) (x y:V) (v u:Ai) (Q:VK),A4 X Ae U H s->RelV x v->RelV y u->r x y H Q ->
  Au (AA X.prog X.w) X.A (f v u) (EP X Ae U Q) X.xe s
def Rj (X:Cx)(f:Ai->Sem Ai)(r:V->Hp->VK->Prop):Prop:=
 ∀(Ae:List (Av×Obj)) (s:Ar) (U:St) (H:Hp) (x:V) (v:Ai) (Q:VK),A4 X Ae U H s->RelV x v->r x H Q ->
  Au (AA X.prog X.w) X.A (f v) (EP X Ae U Q) X.xe s
def E7 (X:Cx)(f:Ai)(r:List V->Hp->VK->Prop):Prop:=
 ∀(Ae:List (Av×Obj)) (s:Ar) (U:St) (H:Hp) (xs:List V) (us:List Ai) (Q:VK),A4 X Ae U H s->BF xs us->r xs H Q ->
  Au (AA X.prog X.w) X.A (Ir f us) (EP X Ae U Q) X.xe s
def W6 (r:R2)(ta tb:TE):TE:=λU H Q=>ta U H λx H1=>tb U H1 λy H2=>r x y H2 Q
def xK (r:V->Hp->VK->Prop)(ta:TE):TE:=λU H Q=>ta U H λx H1=>r x H1 Q
def rI (C:Int->Int->Prop)(g:Int->Int->V):R2:=λx y H Q=>∃i j,x=.int i/\y=.int j/\C i j/\Q (g i j) H
def Pz (g:Int->Int->V):R2:=λx y H Q=>∃i j,x=.int i/\y=.int j/\Q (g i j) H
def rU (g:Int->V):V->Hp->VK->Prop:=λx H Q=>∃i,x=.int i/\Q (g i) H
section
variable {X:Cx}
theorem Um (ha:PE X a ta)(hb:PE X b tb){Ae:List (Av×Obj)}{s:Ar}{U:St}{H:Hp}{R:V->V->Hp->Prop}(I:A4 X Ae U H s)
  (h:ta U H λx H1=>tb U H1 λy H2=>R x y H2) {Q:Ai->Ar->Prop} {f:Ai->Ai->Sem Ai}
  (hf:∀v u s2 x y H2,A4 X Ae U H2 s2->RelV x v->RelV y u->R x y H2->Au (AA X.prog X.w) X.A (f v u) Q X.xe s2) :
  Au (AA X.prog X.w) X.A (eval a X.env) (λv s₁=>Au (AA X.prog X.w) X.A (eval b X.env) (λu s₂=>Au (AA X.prog X.w) X.A (f v u) Q X.xe s₂) X.xe s₁) X.xe s:=by
 refine Dp (ha Ae s U H _ I h) λv s1 e=>e.el λx H1 I1 r1 q1=>?_;refine Dp (hb Ae s1 U H1 _ I1 q1) λu s2 e=>e.el λy H2 I2 r2 q2=>?_;exact hf v u s2 x y H2 I2 r1 r2 q2
theorem af {op:Nz}{r:R2}(ho:F6 X (Bt op) r)(ha:PE X a ta)(hb:PE X b tb):PE X (.BinOp a op b pos) (W6 r ta tb):=by
 intro Ae s U H Q I h;exact wpAny_BinOp (Um ha hb I h λv u s2 x y H2 I2 rx ry q=>ho Ae s2 U H2 x y v u Q I2 rx ry q)
theorem ah (ho:Rj X (MP op) r)(ha:PE X a ta):PE X (.UnaryOp op a pos) (xK r ta):=by
 intro Ae s U H Q I h;exact UnaryOp_ (Dp (ha Ae s U H _ I h) λv s1 e=>e.el λx H1 I1 r1 q1=>ho Ae s1 U H1 x v Q I1 r1 q1)
theorem Vp {f:Ai->Ai->Sem Ai}{C:Int->Int->Prop}{g:Int->Int->Int}
  (Ro:∀i j t u s Q E,C i j->Q (.int (g i j) s.toks) {s with toks:=s.toks+1}->Au (AA X.prog X.w) X.A (f (.int i t) (.int j u)) Q E s) :
  F6 X f (rI C λi j=>.int (g i j)):=by
 intro Ae s U H x y v u Q I rx ry h;obtain⟨i,j,rfl,rfl,hc,q⟩:=h;obtain⟨t,rfl⟩:=rx;obtain⟨t',rfl⟩:=ry;exact Ro i j t t' s _ _ hc ⟨.int (g i j),H,I.tok _,⟨_,rfl⟩,q⟩
theorem Qm {g:Int->Int->Int}
  (Ro:∀i j t u s Q E,Q (.int (g i j) s.toks) {s with toks:=s.toks+1}->Au (AA X.prog X.w) X.A (f (.int i t) (.int j u)) Q E s) :
  F6 X f (Pz λi j=>.int (g i j)):=by
 intro Ae s U H x y v u Q I rx ry h;obtain⟨i,j,rfl,rfl,q⟩:=h;obtain⟨t,rfl⟩:=rx;obtain⟨t',rfl⟩:=ry;exact Ro i j t t' s _ _ ⟨.int (g i j),H,I.tok _,⟨_,rfl⟩,q⟩
theorem RS {g:Int->Int->Bool}
  (Ro:∀i j t u s Q E,Q (.bool (g i j)) s->Au (AA X.prog X.w) X.A (f (.int i t) (.int j u)) Q E s) :
  F6 X f (Pz λi j=>.bl (g i j)):=by
 intro Ae s U H x y v u Q I rx ry h;obtain⟨i,j,rfl,rfl,q⟩:=h;obtain⟨t,rfl⟩:=rx;obtain⟨t',rfl⟩:=ry;exact Ro i j t t' s _ _ ⟨.bl (g i j),H,I,rfl,q⟩
def UU (i j:Int):Prop:=0<j/\j<1073741824
def O7 (i j:Int):Prop:=0<=j/\j<=1000000/\i.natAbs<2^64
def O8 (i j:Int):Prop:=(-(2^64)<i/\i<2^64)\/(-(2^64)<j/\j<2^64)
theorem O8.ok (h:O8 i j):IntMulOk i j:=by
 rcases h with⟨h1,h2⟩|⟨h1,h2⟩
 .exact .of_left (intBits_le_64 h1 h2)
 .exact .of_right (intBits_le_64 h1 h2)
theorem yd (k:Nat):(0:Int)<=2^k:=by
 rw[two_pow_cast];exact Int.natCast_nonneg _
theorem ic:F6 X (Bt .Add) (Pz λi j=>.int (i+j)):=Qm λ_ _ _ _ _ _ _ q=>add_int q
theorem io:F6 X (Bt .Sub) (Pz λi j=>.int (i-j)):=Qm λ_ _ _ _ _ _ _ q=>sub_int q
theorem ii:F6 X (Bt .Mult) (rI O8 λi j=>.int (i*j)):=Vp λ_ _ _ _ _ _ _ hc q=>mul_int q hc.ok
theorem oz:F6 X (Bt .FloorDiv) (rI UU λi j=>.int (i / j)):=Vp λi j _ _ _ _ _ hc q=>by
 have h1:=hc.1;have h2:=hc.2;exact floordiv_int (by ext) (by rw[LH i (by ext)];exact q) (.inl (PyProof.noPylong_small (by ext)))
theorem ig:F6 X (Bt .Mod) (rI (λ_ j=>0<j) λi j=>.int (i%j)):=Vp λi j _ _ _ _ _ hc q=>by
 have h1:=hc;exact mod_int' (by ext) (by rw[Int.fmod_eq_emod_of_nonneg i (by ext)];exact q)
theorem ij:F6 X (Bt .Pow) (rI O7 λi j=>.int (i^j.toNat)):=Vp λ_ _ _ _ _ _ _ hc q=>pow_int_small hc.1 hc.2.1 hc.2.2 q
theorem ik:F6 X (Bt .LShift) (rI O7 λi j=>.int (i*2^j.toNat)):=Vp λ_ _ _ _ _ _ _ hc q=>lshift_int_small hc.1 hc.2.1 hc.2.2 q
theorem im:F6 X (Bt .RShift) (rI (λ_ j=>0<=j) λi j=>.int (i / 2^j.toNat)):=Vp λi j _ _ _ _ _ hc q=>
 rshift_int hc (by rw[LH i (yd _)];exact q)
theorem ie:F6 X (Bt .BitAnd) (Pz λi j=>.int (AD i j)):=Qm λ_ _ _ _ _ _ _ q=>and_int q
theorem zZ:F6 X (Bt .BitOr) (Pz λi j=>.int (AM i j)):=Qm λ_ _ _ _ _ _ _ q=>or_int q
theorem ip:F6 X (Bt .BitXor) (Pz λi j=>.int (Bb i j)):=Qm λ_ _ _ _ _ _ _ q=>xor_int q
theorem mB {g:Int->Int}
  (Ro:∀i t s Q E,Q (.int (g i) s.toks) {s with toks:=s.toks+1}->Au (AA X.prog X.w) X.A (f (.int i t)) Q E s) :
  Rj X f (rU λi=>.int (g i)):=by
 intro Ae s U H x v Q I rx h;obtain⟨i,rfl,q⟩:=h;obtain⟨t,rfl⟩:=rx;exact Ro i t s _ _ ⟨.int (g i),H,I.tok _,⟨_,rfl⟩,q⟩
theorem jp:Rj X (MP .USub) (rU λi=>.int (-i)):=mB λ_ _ _ _ _ q=>neg_int q
theorem jo:Rj X (MP .Invert) (rU λi=>.int (Ei i)):=mB λ_ _ _ _ _ q=>invert_int q
end
noncomputable def TX:V->V->Bool
 |.non,.non=>true | .non,.int _=>true | .int _,.non=>true | .non,.bl _=>true | .bl _,.non=>true | .non,.str _=>true | .str _,.non=>true
 |.int _,.int _=>true | .bl _,.bl _=>true | .str _,.str _=>true | .byt _,.byt _=>true
 |.int _,.str _=>true | .str _,.int _=>true | .bl _,.str _=>true | .str _,.bl _=>true
 |_,_=>false
def xU:R2:=λx y H Q=>TX x y=true/\Q (.bl (decide (x=y))) H
def xS:R2:=λx y H Q=>TX x y=true/\Q (.bl (!decide (x=y))) H
theorem qD :decide (V.int i=V.int j)=(i == j):=by
 rw[Dm];simp
theorem pO :decide (V.bl i=V.bl j)=(i == j):=by
 rw[Dm];simp
theorem qF :decide (V.str i=V.str j)=(i == j):=by
 rw[Dm];simp
theorem qB :decide (V.byt i=V.byt j)=(i.toList == j.toList):=by
 rw[Dm];cases i;cases j;simp
section
variable {X:Cx}{a b c:Ca}{ta tb:TE}{pos:Pos}
theorem Ij (I:A4 X Ae U H s)(q:Q (.bl k) H)(e:k=k'):EP X Ae U Q (.bool k') s:=by
 subst e;exact⟨.bl k,H,I,rfl,q⟩
theorem zT:F6 X (A7 .Eq) xU:=by
 intro Ae s U H x y v u Q I rx ry h;obtain⟨hs,q⟩:=h;cases x with
 |non=>
  cases rx;cases y with
  |non=>cases ry;exact Y8 (Ij I q (by simp))
  |bl j=>cases ry;exact Za (Ij I q (by simp))
  |int j=>obtain⟨t',rfl⟩:=ry;exact Y9 (Ij I q (by simp))
  |str j=>obtain⟨t',rfl⟩:=ry;exact Y7 (Ij I q (by simp))
  |_=>exact absurd (show false=true from hs) Al
 |bl i=>
  cases rx;cases y with
  |non=>cases ry;exact Zc (Ij I q (by simp))
  |bl j=>cases ry;exact eq_bool (Ij I q pO)
  |str j=>obtain⟨t',rfl⟩:=ry;exact Wt (Ij I q (by simp))
  |_=>exact absurd (show false=true from hs) Al
 |int i=>
  obtain⟨t,rfl⟩:=rx;cases y with
  |non=>cases ry;exact Zb (Ij I q (by simp))
  |int j=>obtain⟨t',rfl⟩:=ry;exact eq_int (Ij I q qD)
  |str j=>obtain⟨t',rfl⟩:=ry;exact Ws (Ij I q (by simp))
  |_=>exact absurd (show false=true from hs) Al
 |str i=>
  obtain⟨t,rfl⟩:=rx;cases y with
  |non=>cases ry;exact Y6 (Ij I q (by simp))
  |bl j=>cases ry;exact Wr (Ij I q (by simp))
  |int j=>obtain⟨t',rfl⟩:=ry;exact Wq (Ij I q (by simp))
  |str j=>obtain⟨t',rfl⟩:=ry;exact eq_str (Ij I q qF)
  |_=>exact absurd (show false=true from hs) Al
 |byt i=>
  obtain⟨t,rfl⟩:=rx;cases y with
  |byt j=>obtain⟨t',rfl⟩:=ry;exact PySem.W.eq_bytes (Ij I q qB)
  |_=>exact absurd (show false=true from hs) Al
 |_=>cases y<;>exact absurd (show false=true from hs) Al
theorem zY:F6 X (A7 .NotEq) xS:=by
 intro Ae s U H x y v u Q I rx ry h;obtain⟨hs,q⟩:=h;cases x with
 |non=>
  cases rx;cases y with
  |non=>cases ry;exact Y1 (Ij I q (by simp))
  |bl j=>cases ry;exact Y3 (Ij I q (by simp))
  |int j=>obtain⟨t',rfl⟩:=ry;exact Y2 (Ij I q (by simp))
  |str j=>obtain⟨t',rfl⟩:=ry;exact Y0 (Ij I q (by simp))
  |_=>exact absurd (show false=true from hs) Al
 |bl i=>
  cases rx;cases y with
  |non=>cases ry;exact Y5 (Ij I q (by simp))
  |bl j=>cases ry;exact ne_bool (Ij I q (congrArg not pO))
  |str j=>obtain⟨t',rfl⟩:=ry;exact Wp (Ij I q (by simp))
  |_=>exact absurd (show false=true from hs) Al
 |int i=>
  obtain⟨t,rfl⟩:=rx;cases y with
  |non=>cases ry;exact Y4 (Ij I q (by simp))
  |int j=>obtain⟨t',rfl⟩:=ry;exact ne_int (Ij I q (congrArg not qD))
  |str j=>obtain⟨t',rfl⟩:=ry;exact Wo (Ij I q (by simp))
  |_=>exact absurd (show false=true from hs) Al
 |str i=>
  obtain⟨t,rfl⟩:=rx;cases y with
  |non=>cases ry;exact YZ (Ij I q (by simp))
  |bl j=>cases ry;exact Wn (Ij I q (by simp))
  |int j=>obtain⟨t',rfl⟩:=ry;exact Wm (Ij I q (by simp))
  |str j=>obtain⟨t',rfl⟩:=ry;exact ne_str (Ij I q (congrArg not qF))
  |_=>exact absurd (show false=true from hs) Al
 |byt i=>
  obtain⟨t,rfl⟩:=rx;cases y with
  |byt j=>obtain⟨t',rfl⟩:=ry;exact PySem.W.ne_bytes (Ij I q (congrArg not qB))
  |_=>exact absurd (show false=true from hs) Al
 |_=>cases y<;>exact absurd (show false=true from hs) Al
theorem zX:F6 X (A7 .Lt) (Pz λi j=>.bl (decide (i<j))):=RS λ_ _ _ _ _ _ _ q=>lt_int q
theorem zW:F6 X (A7 .LtE) (Pz λi j=>.bl (decide (i<=j))):=RS λ_ _ _ _ _ _ _ q=>le_int q
theorem zV:F6 X (A7 .Gt) (Pz λi j=>.bl (decide (j<i))):=RS λ_ _ _ _ _ _ _ q=>gt_int q
theorem zU:F6 X (A7 .GtE) (Pz λi j=>.bl (decide (j<=i))):=RS λ_ _ _ _ _ _ _ q=>ge_int q
theorem o5:F6 X (A7 .IsNot) (λx y H Q=>y=.non/\Q (.bl (!decide (x=.non))) H):=by
 intro Ae s U H x y v u Q I rx ry h;obtain⟨rfl,q⟩:=h;cases ry;refine isnot_none_gen (Ij I q ?_)
 cases x<;>first
  |(cases rx;rfl)
  |(obtain⟨t,rfl⟩:=rx;rfl)
theorem Qr (b:Ca)(h:op≠.In:=by decide)(h2:op≠.NotIn:=by decide):FT op b=false:=by
 have e1:(op == CmpOp.In)=false:=by cases op<;>first | rfl | exact absurd rfl h
 have e2:(op == CmpOp.NotIn)=false:=by cases op<;>first | rfl | exact absurd rfl h2
 cases b<;>simp[FT,e1,e2]
theorem pj {op:CmpOp}{r:R2}(ho:F6 X (A7 op) r)(ha:PE X a ta)(hb:PE X b tb)(hm:FT op b=false):PE X (.Compare a [op] [b] pos) (W6 r ta tb):=by
 intro Ae s U H Q I h;exact wpAny_Compare1 (Um ha hb I h λv u s2 x y H2 I2 rx ry q=>ho Ae s2 U H2 x y v u Q I2 rx ry q) hm
def W4 (t:TE):TT:=λU H Q=>t U H λx H'=>∃k,x=.bl k/\Q k H'
theorem nj (ho:F6 X (A7 op) r)(ha:PE X a ta)(hb:PE X b tb)(hm:FT op b=false):PT X (.Compare a [op] [b] pos) (W4 (W6 r ta tb)):=by
 intro Ae s U H Q I h
 refine wpAny_isTrue_Compare1 (Dp (ha Ae s U H _ I h) λv s1 e=>e.el λx H1 I1 r1 q1=>Dp (hb Ae s1 U H1 _ I1 q1) λu s2 e=>e.el λy H2 I2 r2 q2 =>
  Dp (ho Ae s2 U H2 x y v u _ I2 r1 r2 q2) λc s3 e=>e.el λz H3 I3 r3 ⟨k,e,q3⟩=>?_) hm
 subst e;cases r3;exact EA ⟨H3,I3,q3⟩
def Qd (r r':R2)(ta tb tc:TE):TE:=λU H Q=>ta U H λx H1=>tb U H1 λy H2=>r x y H2 λz H3=>∃k,z=.bl k /\
 (if k=true then tc U H3 λw' H4=>r' y w' H4 Q else Q (.bl false) H3)
theorem rg (ho:F6 X (A7 op) r)(ho':F6 X (A7 op') r')(ha:PE X a ta)(hb:PE X b tb)(hc:PE X c tc)
  (hm:lastMarks [op,op'] [b,c]=false:=by with_unfolding_all rfl):PE X (.Compare a [op,op'] [b,c] pos) (Qd r r' ta tb tc):=by
 intro Ae s U H Q I h
 refine Compare_chain (Dp (ha Ae s U H _ I h) λv s1 e=>e.el λx H1 I1 r1 q1=>chain_link (Dp (hb Ae s1 U H1 _ I1 q1) λu s2 e=>e.el λy H2 I2 r2 q2 =>
  Dp (ho Ae s2 U H2 x y v u _ I2 r1 r2 q2) λd s3 e=>e.el λz H3 I3 r3 ⟨k,e,q3⟩=>?_)) hm
 subst e;cases r3;refine EA ?_;cases k with
 |false=>exact ite_ff ⟨.bl false,H3,I3,rfl,q3⟩
 |true=>exact ite_tt (chain_last (Dp (hc Ae s3 U H3 _ I3 q3) λw' s4 ⟨z',H4,I4,r4,q4⟩=>ho' Ae s4 U H4 y z' u w' Q I4 r2 r4 q4))
theorem Kq:(Am:Nat)<2^63:=by rw[Jn];decide
theorem y0:F6 X (Bt .Add) (λx y H Q=>∃i j,x=.str i/\y=.str j/\i.length+j.length<=Am/\Q (.str (i++j)) H):=by
 intro Ae s U H x y v u Q I rx ry h;obtain⟨i,j,rfl,rfl,hz,q⟩:=h;obtain⟨t,rfl⟩:=rx;obtain⟨t',rfl⟩:=ry;exact add_str (λt' tk=>⟨.str (i++j),H,I.tok _,⟨_,rfl⟩,q⟩) hz
theorem G8 (r:BF [x] us):∃u,us=[u]/\RelV x u:=by
 cases r with
 |cons r1 r2=>cases r2;exact⟨_,rfl,r1⟩
theorem Mu (r:BF [x,y] us):∃u w',us=[u,w']/\RelV x u/\RelV y w':=by
 cases r with
 |cons r1 r2=>
  cases r2 with
  |cons r3 r4=>cases r4;exact⟨_,_,rfl,r1,r3⟩
theorem vm (hc:X.calm=true):E7 X (.builtin "max") (λxs H Q=>∃i j,xs=[.int i,.int j]/\Q (.int (if j > i then j else i)) H):=by
 intro Ae s U H xs us Q I r h;obtain⟨i,j,rfl,q⟩:=h;obtain⟨u,w',e1',⟨t,e2'⟩,⟨t',e3'⟩⟩:_:=Mu r;refine max_two_ints (I.ok.hd hc) λh' tk k=>⟨_,H,I.kept k,?_,q⟩;by_cases hj:j > i
 .rw[if_pos hj,if_pos hj];exact⟨_,rfl⟩
 .rw[if_neg hj,if_neg hj];exact⟨_,rfl⟩
theorem vn (hc:X.calm=true):E7 X (.builtin "min") (λxs H Q=>∃i j,xs=[.int i,.int j]/\Q (.int (if j<i then j else i)) H):=by
 intro Ae s U H xs us Q I r h;obtain⟨i,j,rfl,q⟩:=h;obtain⟨u,w',e1',⟨t,e2'⟩,⟨t',e3'⟩⟩:_:=Mu r;refine min_two_ints (I.ok.hd hc) λh' tk k=>⟨_,H,I.kept k,?_,q⟩;by_cases hj:j<i
 .rw[if_pos hj,if_pos hj];exact⟨_,rfl⟩
 .rw[if_neg hj,if_neg hj];exact⟨_,rfl⟩
end
structure N7 (h:CV)(x dx C:Av)(mA:Str->Option Ai):Prop where
 obj:h.get? x=some (Db C dx)
 ns:h.Ns1 dx mA
 ne:dx≠x
theorem vv {h:CV}(n:h.Ns1 dx mA):∃od,h.get? dx=some od/\∀name,Hv name od=some (mA name):=by
 obtain⟨o,es,ep,ho,hd,hk,_,hm⟩:_:=n;refine⟨o,ho,λname=>?_⟩;have e:=hm name;unfold nsFind findBy at e;rw[<- Array.find?_toList]at e;unfold Hv;rw[hd];dsimp only;split
 .rename_i y q;rw[q]at e;exact congrArg some e
 .rename_i q;rw[q]at e
  have a:es.toList.any (·.refKey)=false:=by
   rw[P7];intro y hy;obtain⟨z,t,hkey⟩:=hk y (Ia.mp hy);simp[DictEntry.refKey,hkey]
  have a':¬es.toList.any (·.refKey)=true:=by rw[a];exact Al
  rw[if_neg a'];exact congrArg some e
theorem N7.look (I:N7 h x dx C mA):∃od,PySem.W.InstAt h x (Db C dx) C (some od)/\∀name,Hv name od=some (mA name):=
 let ⟨od,ho,hl⟩:=vv I.ns
 ⟨od,⟨I.obj,rfl,rfl,ho⟩,hl⟩
section
variable      {K:Ac}
theorem j4 (X:K.In s.heap)(I:N7 s.heap x dx C mA)(hg:GA K C name=true)(hh:IT K C=true)
  (ha:CN K (.ref C) name=some none) (hv:mA name=some v) (hv':OK v=true) (h:Q v {s with toks:=s.toks+1}) :
  Au (AA prog w) A (getAttr (.ref x) name expr) Q E s:=by
 obtain⟨od,J,hl⟩:=I.look;exact PySem.W.get_value X J (L7 hg).1 (PySem.W.findObj_own hh ha rfl (by rw[hl,hv])) hv' h
theorem t5 (X:K.In s.heap)(I:N7 s.heap x dx C mA)(hg:GA K C name=true)
  (hf:CN K (.ref C) name=some (some (.ref f))) (ht:LC K (.ref f)=true) (hv:mA name=none) (h:Q (.ref f,[.ref x]) s) :
  Au (AA prog w) A (JE (.ref x) name pl) Q E s:=by
 obtain⟨od,J,hl⟩:=I.look;exact PySem.W.method_fn X J (L7 hg).1 (L7 hg).2 hf (beq_iff_eq.mp ht) (by show(Hv name od).map (·.isSome)=some false;rw[hl,hv];rfl) h
theorem qi (X:K.In s.heap)(I:N7 s.heap x dx C mA)
  (hs:CN K (.ref C) "__setattr__" = some (some (.builtin "object.__setattr__"))) (hp:Oe K C=true) (ht:JS K C name=some none) (hh:IT K C=true)
  (hw:Mr mA ns) (hsz:ns.length<=Am)
  (h:∀h',N7 h' x dx C (λy=>if y=name then some v else mA y)->BH dx s.heap h'->Q () {s with heap:=h',toks:=s.toks+2}) :
  Au (AA prog w) A (setAttr (.ref x) name v) Q E s:=by
 obtain⟨od,J,hl⟩:=I.look;refine PySem.W.set_plain X J hs (PySem.W.osa_open X J hp ht λb=>?_);obtain⟨cd,hc,hd'⟩:=PySem.W.any_some hh;have hx:=I.obj;refine Aa (Ad (Aa (Aa (wpAny_loadPart hx (Aa (Wl (PySem.W.looks_clsIn X hc) ?_))))));rw[hd'];refine Ad (Aa (Ad (Aa ?_)));refine wpAny_nsSet1 I.ns λh' hn2 hs2=>?_;obtain⟨oD,esD,epD,hoD,hdD,hcD⟩:=hn2.count (YY name v hw);refine Aa (wpAny_lookBehind hoD (by rw[hdD];exact pastItsLine_dict (AZ hcD (by rw[AO];ext))) ?_);exact Ad (h _ ⟨(hs2.2 _ (Bj I.ne)).trans I.obj,hn2,I.ne⟩ hs2)
theorem uc (X:K.In s.heap)(hm:Pj K C=true)
  (hi:CN K (.ref C) "__init__" = some (some (.ref f))) (hf:PySem.W.typeIn K (.ref f)=some (.type "function"))
  (h:DU (AA prog w) (A.under (.builtin "type.__call__" ⟨.ref C::vs,kw⟩)) (.call (.ref f) ⟨.ref (s.heap.objs.size+1)::vs,kw⟩) (PySem.W.InitBack (s.heap.objs.size+1) R)
   { s with heap:=(s.heap.push Co).push (Db C s.heap.objs.size) }) :
  DU (AA prog w) A (.call (.ref C) ⟨vs,kw⟩) R s:=by
 obtain⟨hh,g,d,t,os⟩:=s;exact PySem.W.make_core (PySem.W.makes_of X hm) (PySem.W.looks_findIn X hi) (λself=>PySem.W.bind_fn X self hf) (.inl rfl) h
end
noncomputable def Hi (f:Str)(v:V):List (Str×V)->List (Str×V)
 |[]=>[(f,v)]
 |(g,x)::r=>if g=f then(g,v)::r else(g,x)::Hi f v r
theorem vV (f g:Str)(v:V):∀fs,(Hi f v fs).lookup g=if g=f then some v else fs.lookup g
 |[]=>by
  show BG g [(f,v)]=_;by_cases h:g=f
  .have hb:=beq_iff_eq.mpr h;simp only[BG,hb,if_pos h]
  .have hb:=beq_eq_false_iff_ne.mpr h;simp only[BG,hb,if_neg h]
 |(k,x)::r=>by
  have ih:=vV f g v r;rw[show Hi f v ((k,x)::r)=(if k=f then(k,v)::r else(k,x)::Hi f v r)from rfl];by_cases hk:k=f
  .rw[if_pos hk];by_cases h:g=k
   .have hb:=beq_iff_eq.mpr h;simp only[BG,hb,if_pos (h.trans hk)]
   .have hb:=beq_eq_false_iff_ne.mpr h;simp only[BG,hb,if_neg (λe:g=f=>h (e.trans hk.symm))]
  .rw[if_neg hk];by_cases h:g=k
   .have hb:=beq_iff_eq.mpr h;simp only[BG,hb,if_neg (λe:g=f=>hk (h.symm.trans e))]
   .have hb:=beq_eq_false_iff_ne.mpr h;simp only[BG,hb];exact ih
theorem kH (f:Str)(v:V):∀fs,f∈(Hi f v fs).map (·.1)/\∀g,g∈fs.map (·.1)->g∈(Hi f v fs).map (·.1)
 |[]=>⟨by simp[Hi],λg h=>by simp at h⟩
 |(k,x)::r=>by
  obtain⟨i1,i2⟩:=kH f v r;rw[show Hi f v ((k,x)::r)=(if k=f then(k,v)::r else(k,x)::Hi f v r)from rfl];by_cases hk:k=f
  .rw[if_pos hk];subst hk;exact⟨by simp,λg h=>by simpa using h⟩
  .rw[if_neg hk];refine⟨?_,λg h=>?_⟩
   .rw[AR];exact AE _ i1
   .rw[AR]at h ⊢;rcases A3.mp h with e|e
    .exact A3.mpr (.inl e)
    .exact AE _ (i2 g e)
theorem vU (f:Str)(v:V):∀fs,(Hi f v fs).length<=fs.length+1
 |[]=>by simp[Hi]
 |(k,x)::r=>by
  have ih:=vU f v r;rw[show Hi f v ((k,x)::r)=(if k=f then(k,v)::r else(k,x)::Hi f v r)from rfl];by_cases hk:k=f
  .rw[if_pos hk,AO,AO];ext
  .rw[if_neg hk,AO,AO];ext
theorem Ig.some_of (r:Ig (some v) o):∃u,o=some u/\RelV v u:=by
 cases o with
 |none=>exact(show False from r).elim
 |some u=>exact⟨u,rfl,r⟩
theorem Ig.none_of (r:Ig none o):o=none:=by
 cases o with
 |none=>rfl
 |some u=>exact(show False from r).elim
theorem uw (r:RelV v u):OK u=true:=by
 cases v with
 |non=>cases(show u=F0 from r);rfl
 |bl b=>cases(show u=IS b from r);rfl
 |int i=>obtain⟨t,e⟩:=(show∃t,u=DE i t from r);cases e;rfl
 |str x=>obtain⟨t,e⟩:=(show∃t,u=De x t from r);cases e;rfl
 |byt b=>obtain⟨t,e⟩:=(show∃t,u=Vf b t from r);cases e;rfl
 |flt b=>obtain⟨t,e⟩:=(show∃t,u=Nv b t from r);cases e;rfl
 |ref a=>cases(show u=AC a from r);rfl
 |ty n=>cases(show u=DP n from r);rfl
section
theorem aH (hok:Ik P w H h)(e:H a=some (.ins C dx fs)):∃mA,N7 h a dx C mA/\(∀f,Ig (fs.lookup f) (mA f))/\Mr mA (fs.map (·.1))/\fs.length<=1000/\H dx=some (.own a):=by
 obtain⟨d,z,ne,ob,mA,n,r,q⟩:=(show CW P w H h a (.ins C dx fs)from hok a _ e);exact⟨mA,⟨ob,n,ne⟩,r,q,z,d⟩
end
structure Ob (K:Ac)(C:Av):Prop where
 pg:GA K C Str.empty=true
 hd:IT K C=true
 po:Oe K C=true
 sa:CN K (.ref C) "__setattr__" = some (some (.builtin "object.__setattr__"))
theorem Ob.get {K:Ac}(c:Ob K C)(f:Str):GA K C f=true:=c.pg
def D6 (K:Ac)(C:Av)(f:Str):Prop:=CN K (.ref C) f=some none
theorem D6.taker {K:Ac}(n:D6 K C f):JS K C f=some none:=by
 unfold JS;rw[show CN K (.ref C) f=some none from n];rfl
structure Sj (K:Ac)(C:Av)(m:Str)(f:Av):Prop where
 at_:CN K (.ref C) m=some (some (.ref f))
 fn:LC K (.ref f)=true
 kp:FL K (.ref f)=true
section
theorem yh (I:A4 X Ae U H s)(e:H a=some (.ins C dx fs))(c:Ob X.K C)(n:D6 X.K C f)(l:fs.lookup f=some v)
  (h:∀u s',A4 X Ae U H s'->RelV v u->Q u s'):Au (AA X.prog X.w) A (getAttr (.ref a) f b) Q E s:=by
 obtain⟨mA,O,r,_,_,_⟩:=aH I.hok e;obtain⟨u,hu,ru⟩:=Ig.some_of (by rw[<- l];exact r f);exact j4 I.kIn O (c.get f) c.hd n hu (uw ru) (h u _ (I.tok _) ru)
theorem uX (I:A4 X Ae U H s)(e:H a=some (.ins C dx fs))(c:Ob X.K C)(k:Sj X.K C m g)(l:fs.lookup m=none)
  (h:Q (.ref g,[.ref a]) s):Au (AA X.prog X.w) A (JE (.ref a) m pl) Q E s:=by
 obtain⟨mA,O,r,_,_,_⟩:=aH I.hok e;have hn:=Ig.none_of (by rw[<- l];exact r m);exact t5 I.kIn O (c.get m) k.at_ k.fn hn h
theorem xu (I:A4 X Ae U H s)(e:H a=some (.ins C dx fs))(c:Ob X.K C)(n:D6 X.K C f)(hl:fs.length<1000)(ry:RelV y u)
  (h:∀s',A4 X Ae U (CA H a (.ins C dx (Hi f y fs))) s'->Q () s'):Au (AA X.prog X.w) A (setAttr (.ref a) f u) Q E s:=by
 obtain⟨mA,O,r,wi,_,ho⟩:=aH I.hok e;have hz:(fs.map (·.1)).length<=Am:=by rw[Ab,Jn];ext
 refine qi I.kIn O c.sa c.po n.taker c.hd wi hz λh' O' sb=>h _ ?_;have hd:∃o,h'.get? dx=some o:=let ⟨o,_,_,e',_⟩:=O'.ns;⟨o,e'⟩;refine I.write (by rw[e];exact Ch) (.inr ho) (λb q hb z=>(sb.2 b hb).trans z) hd ?_;refine⟨by rw[HL O.ne];exact ho,?_,O.ne,O'.obj,_,O'.ns,λg=>?_,λg hg=>?_⟩
 .have:=vU f y fs;ext
 .show Ig ((Hi f y fs).lookup g) (if g=f then some u else mA g);rw[vV];by_cases q:g=f
  .rw[if_pos q,if_pos q];exact ry
  .rw[if_neg q,if_neg q];exact r g
 .by_cases q:g=f
  .rw[q];exact(kH f y fs).1
  .refine(kH f y fs).2 g (wi g λz=>hg ?_);show(if g=f then some u else mA g)=none;rw[if_neg q];exact z
theorem A4.made (I:A4 X Ae U H s):A4 X Ae U (CA (CA H s.heap.objs.size (.own (s.heap.objs.size+1))) (s.heap.objs.size+1) (.ins C s.heap.objs.size []))
  {s with heap:=(s.heap.push Co).push (Db C s.heap.objs.size)}:=by
 have e1:(s.heap.push Co).get? s.heap.objs.size=some Co:=AB s.heap rfl
 have e2:((s.heap.push Co).push (Db C s.heap.objs.size)).get? (s.heap.objs.size+1)=some (Db C s.heap.objs.size):=by
  have:=AB (s.heap.push Co) (o:=Db C s.heap.objs.size) rfl;rwa[F8]at this
 have e3:(s.heap.push Co).Ns s.heap.objs.size (λ_=>none):=⟨Co,#[],_,e1,rfl,(λe he=>absurd he (by simp)),λ_=>rfl⟩;have I1:=I.laid (o:=.own (s.heap.objs.size+1)) (h':=s.heap.push Co) (t':=s.toks) (λb u q=>Ag _ q) (AJ _) ⟨_,e1⟩;refine I1.laid (λb u q=>Ag _ q) (Wu (F8 _ _)) ?_;have ne:s.heap.objs.size≠s.heap.objs.size+1:=A6 (He _);refine⟨by rw[HL ne,Mn],Ef _,ne,e2,λ_=>none,(Heap.Ns1.of_empty e3).at λo q=>Ag _ q,λ_=>Ch,λy hy=>absurd rfl hy⟩
theorem jt (hb:CF e f env (eval e env)=eval e env)
  (h:Au (AA prog w) A (eval e env) (λo s₁=>Au (AA prog w) A (getAttr o f true) Q E s₁) E s):Au (AA prog w) A (eval (.Attribute e f pos) env) Q E s:=
 Attribute_any_ h (by rw[arm_eval_Attribute,hb])
end
def dE (K:Ac)(ta:TE)(f:Str):TE:=λU H Q=>ta U H λx H1=>∃a C dx fs v,x=.ref a/\H1 a=some (.ins C dx fs)/\Ob K C/\D6 K C f/\fs.lookup f=some v/\Q v H1
def dJ (K:Ac)(ta tv:TE)(f:Str):TS:=λD U H=>tv U H λy H1=>ta U H1 λx H2=>∃a C dx fs,x=.ref a/\H2 a=some (.ins C dx fs)/\Ob K C/\D6 K C f/\fs.length<1000 /\
 D.nx U (CA H2 a (.ins C dx (Hi f y fs)))
section
theorem i3 (he:PE X e ta)(hb:CF e f X.env (eval e X.env)=eval e X.env):PE X (.Attribute e f pos) (dE X.K ta f):=by
 intro Ae s U H Q I h;refine jt hb (Dp (he Ae s U H _ I h) λu s1 e=>e.el λx H1 I1 rx ⟨a,C,dx,fs,v,ex,ea,c,n,l,q⟩=>?_);subst ex;obtain rfl:u=AC a:=rx;exact yh I1 ea c n l λu' s2 I2 ru=>⟨v,H1,I2,ru,q⟩
theorem fq (ha:PE X o ta)(hv:PE X value tv)(hs:DW value (some (.Attribute o f pos')) pos.line X.env=pure false):PS X (.Assign [.Attribute o f pos'] value pos) (dJ X.K ta tv f):=by
 intro Ae s U H D I h;refine plainObj_wpAny_Assign_Attribute (Dp (hv Ae s U H _ I h) λu s1 e=>e.el λy H1 I1 ry q=>Dp (ha Ae s1 U H1 _ I1 q) λov s2 e=>e.el λx H2 I2 rx ⟨a,C,dx,fs,ex,ea,c,n,l,q2⟩=>?_) hs;subst ex;obtain rfl:ov=AC a:=rx;exact xu I2 ea c n l ry λs3 I3=>⟨U,_,I3,q2⟩
end
section
inductive Ie (K:Ac)(H:Hp):V->Ai->Prop where
 |non:Ie K H .non (.type "NoneType")
 |bl (x:Bool):Ie K H (.bl x) (.type "bool")
 |int (i:Int):Ie K H (.int i) (.type "int")
 |str (x:Str):Ie K H (.str x) (.type "str")
 |flt (x:UInt64):Ie K H (.flt x) (.type "float")
 |lst {a:Av} {xs:List V} (e:H a=some (.lst xs)):Ie K H (.ref a) (.type "list")
 |frz {a:Av} {o:Obj} {xs:List V} (e:H a=some (.frz o (.lst xs))):Ie K H (.ref a) (.type "list")
 |tup {a:Av} {xs:List V} (e:H a=some (.tup xs)):Ie K H (.ref a) (.type "tuple")
 |dK {a:Av} {AQ:List (B4×V)} (e:H a=some (.dK AQ)):Ie K H (.ref a) (.type "dict")
 |dT {a:Av} {AQ:List (List B4×V)} (e:H a=some (.dT AQ)):Ie K H (.ref a) (.type "dict")
 |ins {a C dx:Av} {fs:List (Str×V)} (e:H a=some (.ins C dx fs)) (cl:Ob K C) (ha:CN K (.ref C) "__class__" = some (some (.builtin "object.__class__")))
   (hn:PySem.W.specialIn K (.builtin "object.__class__") "__get__" = some (some (.builtin "getset_descriptor.__get__"))) (htk:PySem.W.takesIn K (.builtin "object.__class__")=some true)
   (hm:PySem.W.mroIn K C (.type "object")=some true):Ie K H (.ref a) (.ref C)
theorem aW (I:A4 X Ae U H s)(rx:RelV x u)(ty:Ie X.K H x t)(e:Dx X.K t c=some b)(h:∀tk,Q (.bool b) {s with toks:=tk}) :
  Au (AA X.prog X.w) A (Ir (.builtin "isinstance") [u,c]) Q E s:=by
 cases ty with
 |non=>cases(show u=F0 from rx);exact EC PySem.W.kitx_none I.kIn Ch e (λz=>nomatch z) h
 |bl y=>cases(show u=IS y from rx);exact EC PySem.W.kitx_bool I.kIn Ch e (λz=>nomatch z) h
 |int i=>obtain⟨t,q⟩:=(show∃t,u=DE i t from rx);cases q;exact EC PySem.W.kitx_int I.kIn Ch e (λz=>nomatch z) h
 |str y=>obtain⟨t,q⟩:=(show∃t,u=De y t from rx);cases q;exact EC PySem.W.kitx_str I.kIn Ch e (λz=>nomatch z) h
 |flt y=>obtain⟨t,q⟩:=(show∃t,u=Nv y t from rx);cases q;exact EC PySem.W.kitx_float I.kIn Ch e (λz=>nomatch z) h
 | @lst a xs ea=>cases(show u=AC a from rx);obtain⟨_,_,n,_,h1⟩:=(show CW X.prog X.w H s.heap a (.lst xs)from I.hok a _ ea);exact EC Pa I.kIn ⟨_,h1,rfl⟩ e (λz=>nomatch z) h
 | @frz a ob xs ea=>cases(show u=AC a from rx);obtain⟨_,_,_,n,_,h1⟩:=(show CW X.prog X.w H s.heap a (.frz ob (.lst xs))from I.hok a _ ea);exact EC Pa I.kIn ⟨_,h1,rfl⟩ e (λz=>nomatch z) h
 | @tup a xs ea=>cases(show u=AC a from rx);obtain⟨_,_,_,p⟩:=(show CW X.prog X.w H s.heap a (.tup xs)from I.hok a _ ea);obtain⟨o,h1,h2,_⟩:=p;exact EC Tt I.kIn ⟨o,h1,h2⟩ e (λz=>nomatch z) h
 | @dK a AQ ea=>cases(show u=AC a from rx);obtain⟨_,_,vs,_,p⟩:=(show CW X.prog X.w H s.heap a (.dK AQ)from I.hok a _ ea);obtain⟨o,es,ep,h1,h2,_⟩:=p;exact EC Lx I.kIn ⟨o,h1,h2.1⟩ e (λz=>nomatch z) h
 | @dT a AQ ea=>cases(show u=AC a from rx);obtain⟨_,_,xs,_,o,es,ep,h1,h2,_⟩:=(show CW X.prog X.w H s.heap a (.dT AQ)from I.hok a _ ea);exact EC Lx I.kIn ⟨o,h1,h2.1⟩ e (λz=>nomatch z) h
 | @ins a C dx fs ea cl ha hn htk hm=>cases(show u=AC a from rx);obtain⟨mA,O,_⟩:=aH I.hok ea;obtain⟨od,J,_⟩:=O.look;exact EC (PySem.W.kitx_own (cl.get _) cl.hd ha hn htk hm) I.kIn J e (λz=>nomatch z) h
end
structure Dy (k:Nat)(A:Cy):Prop where
 hd:A.handled=none
 dp:A.depth+3*k+5<cI
 un:A.units+16*k+200<C9
theorem Dy.mono (r:Dy k A)(h:j<=k):Dy j A:=⟨r.hd,by have:=r.dp;ext,by have:=r.un;ext⟩
theorem Dy.deeper (r:Dy (k+1) A)(env:Env):Dy k (A.deeper env):=
 ⟨r.hd,by have:=r.dp;show A.depth+1+3*k+5<_;ext,by have:=r.un;show A.units+3+16*k+200<_;ext⟩
theorem yq {A:Cy} :(A.under (.builtin "type.__call__" ⟨.ref C::us,kw⟩)).depth=A.depth+1:=by
 first | rfl | simp[Ml,Code.weight,Code.isCreation,Code.isGuard,Code.isCaller,WF,MX,guardIds]
theorem yr {A:Cy} :(A.under (.builtin "type.__call__" ⟨.ref C::us,kw⟩)).units=A.units+1:=by
 first | rfl | simp[Ml,Code.cUnits,WF,MX]
theorem Dy.make (r:Dy (k+1) A)(C:Av)(us:List Ai)(kw:List (Str×Ai)):Dy k (A.under (.builtin "type.__call__" ⟨.ref C::us,kw⟩)):=
 ⟨r.hd,by have:=r.dp;rw[yq];ext,by have:=r.un;rw[yr];ext⟩
theorem Dy.depth (r:Dy k A):A.depth<cI:=by have:=r.dp;ext
theorem Dy.units (r:Dy k A):A.units+64<C9:=by have:=r.un;ext
def W7:TA:=λ_ H Q=>Q [] H
def Xe (ta:TE)(tr:TA):TA:=λU H Q=>ta U H λx H1=>tr U H1 λxs H2=>Q (x::xs) H2
section
theorem ZW:PA X [] W7:=λ_ _ _ _ H Q I h=>Jt ⟨[],H,I,.nil,h⟩
theorem aB (ha:PE X e te)(hr:PA X es t)(hs:As (e::es) X.env=(false,eval e X.env)::As es X.env:=by rfl):PA X (e::es) (Xe te t):=by
 intro pos Ae s U H Q I h;rw[hs];show Au _ _ (U0 ((false,eval e X.env)::Cc pos (As es X.env))) _ _ s;refine IW (Dp (ha Ae s U H _ I h) λu s1 e=>e.el λx H1 I1 r1 q1=>?_);exact Dp (hr pos Ae s1 U H1 _ I1 q1) λus s2 e=>e.el λxs H2 I2 r2 q2=>⟨x::xs,H2,I2,.cons r1 r2,q2⟩
def cU (t:TA):TE:=λU H Q=>t U H λxs H1=>xs.length<=Am/\∀p,H1 p=none->Q (.ref p) (CA H1 p (.tup xs))
def cZ (t:TA):TE:=λU H Q=>t U H λxs H1=>xs.length<=Am/\∀p,H1 p=none->Q (.ref p) (CA H1 p (.lst xs))
theorem i9 {x1}(h:PA X es t):PE X (.Tuple es x1 pos) (cU t):=by
 intro Ae s U H Q I hq;refine wpAny_Tuple_spliced (Dp (h pos Ae s U H _ I hq) λus s1 e=>e.el λxs H1 I1 r ⟨z,q⟩=>⟨by rw[<- r.length];exact z,?_⟩);have hf:=I1.hok.fresh (AJ _);refine⟨.ref s1.heap.objs.size,CA H1 s1.heap.objs.size (.tup xs),I1.laid (λb u e=>Ag _ e) (AJ _) ?_,rfl,q _ hf⟩;exact⟨z,us,r,LZ.new _ _⟩
theorem oU (h:PA X es t):PE X (.List es pos) (cZ t):=by
 intro Ae s U H Q I hq;refine wpAny_List_spliced (Dp (h pos Ae s U H _ I hq) λus s1 e=>e.el λxs H1 I1 r ⟨z,q⟩=>⟨by rw[<- r.length];exact z,?_⟩);have hf:=I1.hok.fresh (AJ _);refine⟨.ref s1.heap.objs.size,CA H1 s1.heap.objs.size (.lst xs),I1.laid (λb u e=>Ag _ e) (AJ _) ?_,rfl,q _ hf⟩;exact⟨z,us,0,r,AB _ rfl⟩
end
abbrev Sp:=List V->Hp->VK->XK->Prop
abbrev V9:=List Env->Hp->Ar->XK->Ai->Ar->Prop
structure N9 (P:Bq)(w:BM)(K:Ac)(mg:Str->Option Ai)(base:CV)(A:Cy)(outer:List Env)(s:Ar)(H:Hp):Prop where
 frames:A.frames=some outer
 mod:Mod K mg base
 bs:∀b o,base.get? b=some o->s.heap.get? b=some o/\H b=none
 bsz:base.objs.size<=s.heap.objs.size
 funs:s.heap.FunFrames base outer
 frf:∀b∈PH outer,H b=none
 hok:Ik P w H s.heap
 bare:Iw s.gens
def CE (outer:List Env)(P:Bq)(w:BM)(H:Hp)(s:Ar)(Q:VK)(u:Ai)(s':Ar):Prop:=
 ∃v H',s'.os=s.os/\Iw s'.gens/\Un (PH outer) [] H H' s.heap s'.heap/\Ik P w H' s'.heap/\RelV v u/\Q v H'
def CR (CX:V9)(outer:List Env)(P:Bq)(w:BM)(H:Hp)(s:Ar)(Q:VK)(E:XK)(r:TB)(s':Ar):Prop:=
 match r with
 |.ok (.ret u)=>CE outer P w H s Q u s'
 |.ok _=>False
 |.error e=>CX outer H s E e s'
structure FnOk (P:Bq)(w:BM)(K:Ac)(mg:Str->Option Ai)(base:CV)(CX:V9)(k:Nat)(f:Av)(fd:DH)(ps:List Str)(sp:Sp):Prop where
 len:∀vs H Q E,sp vs H Q E->vs.length=ps.length
 run:∀(A:Cy) (outer:List Env) (s:Ar) (H:Hp) (args:Args) (us:List Ai) (vs:List V) (Q:VK) (E:XK),Dy k A->N9 P w K mg base A outer s H->MY s fd args (ps.zip us)->BF vs us->sp vs H Q E ->
  DU (AA P w) A (.call (.ref f) args) (CR CX outer P w H s Q E) s
theorem FnOk.mono {K:Ac}(F:FnOk P w K mg base CX j f fd ps sp)(h:j<=k) :
  FnOk P w K mg base CX k f fd ps sp:=⟨F.len,λA outer s H args us vs Q E hr=>F.run A outer s H args us vs Q E (hr.mono h)⟩
theorem N9.make {K:Ac}(e:N9 P w K mg base A outer s H)(C:Av)(us:List Ai)(kw:List (Str×Ai)) :
  N9 P w K mg base (A.under (.builtin "type.__call__" ⟨.ref C::us,kw⟩)) outer s H:=⟨by first | exact e.frames | (simpa[Ml,Code.envs,MX,pushEnvs]using e.frames),e.mod,e.bs,e.bsz,e.funs,e.frf,e.hok,e.bare⟩
section
theorem A4.env0 (I:A4 X Ae U H s):N9 X.prog X.w X.K X.mg X.base X.A X.stack s H:=
 ⟨I.ok.frames,I.ok.mod,I.bs,AZ I.ok.bsz I.sz,I.stack,I.stkFree,I.hok,I.bare⟩
theorem A4.after (I:A4 X Ae U H s)(h:CE X.stack X.prog X.w H s Q u s'):EP X Ae U Q u s':=by
 obtain⟨v,H',os,bare,un,hok,r,q⟩:_:=h;obtain⟨hh,g,d,t,os'⟩:=s';obtain rfl:os'=s.os:=os;exact⟨v,H',I.call un hok bare (λb z=>absurd z (by simp)),r,q⟩
end
def SU (sp:Sp)(dvs:List V)(E:XK)(t:TA):TE:=λU H Q=>t U H λvs H1=>sp (vs++dvs) H1 Q E
def Qc (C:Av)(m:Str)(sp:Sp)(dvs:List V)(E:XK)(ta:TE)(t:TA):TE:=λU H Q=>ta U H λx H1=>∃a dx fs,x=.ref a/\H1 a=some (.ins C dx fs)/\fs.lookup m=none /\
 t U H1 λvs H2=>sp (x::(vs++dvs)) H2 Q E
def W9 (C:Av)(sp:Sp)(dvs:List V)(E:XK)(t:TA):TE:=λU H Q=>t U H λvs H1=>∀x dx,H1 x=none->H1 dx=none->dx≠x ->
 sp (.ref x::(vs++dvs)) (CA (CA H1 dx (.own x)) x (.ins C dx [])) (λv H2=>v=.non/\Q (.ref x) H2) E
def HG (K:Ac)(fd:DH)(ps:List Str)(ds:List Ai):Prop:=
 ∀s us,K.In s.heap->(us++ds).length=ps.length->MY s fd ⟨us,[]⟩ (ps.zip (us++ds))
theorem HG.all {K:Ac}(h:∀us,us.length=ps.length->En fd ⟨us,[]⟩=pure (ps.zip us)):HG K fd ps []:=λs us _ hl=>by
 rw[CH]at hl ⊢;exact .of_eq (h us hl)
def IG (CX:V9)(X:Cx)(E:XK):Prop:=∀(Ae:List (Av×Obj)) (U:St) (H:Hp) (s:Ar) (e:Ai) (s':Ar),A4 X Ae U H s->CX X.stack H s E e s'->X.xe e s'
section
theorem iJ (F:FnOk X.prog X.w X.K X.mg X.base CX k f fd ps sp)(hr:Dy k X.A)(hb:HG X.K fd ps ds)(hd:BF dvs ds)(hx:IG CX X E)
  (I:A4 X Ae U H s) (r:BF vs us) (h:sp (vs++dvs) H Q E):Au (AA X.prog X.w) X.A (Ir (.ref f) us) (EP X Ae U Q) X.xe s:=by
 have r2:=r.append hd;have hl:(us++ds).length=ps.length:=by rw[<- r2.length];exact F.len _ _ _ _ h
 refine To (Gz (F.run X.A X.stack s H ⟨us,[]⟩ (us++ds) (vs++dvs) Q E hr I.env0 (hb s us I.kIn hl) r2 h) λr s' hq=>?_);cases r with
 |error e=>exact hx Ae U H s e s' I hq
 |ok fl=>
  cases fl with
  |ret u=>exact I.after hq
  |next=>exact C5 hq
  |brk=>exact C5 hq
  |cont=>exact C5 hq
theorem pi (F:FnOk X.prog X.w X.K X.mg X.base CX k f fd ps sp)(hr:Dy k X.A)(hg:Gl X x)(hm:X.mg x=some (.ref f))(hk:FL X.K (.ref f)=true)(hb:HG X.K fd ps ds)(hd:BF dvs ds)(hx:IG CX X E)
  (ha:PA X (e::es) t) (hdb:(x == ("__debug__":Str))=false:=by decide) (he:As (e::es) X.env=(false,eval e X.env)::As es X.env:=by rfl) (hpl:(Cc pos (As es X.env)).any (·.1)=false:=by rfl) :
  PE X (.Call (.Name x p) (e::es) [] pos) (SU sp dvs E t):=by
 intro Ae s U H Q I h;refine Cm (iZ I hg hm ?_ hdb);refine Nr I.ok.mod.kin hk (Dp (ha pos Ae s U H _ I h) λus s1 e=>e.el λvs H1 I1 r q=>⟨I1.kIn,?_⟩) he hpl;exact iJ F hr hb hd hx I1 r q
theorem pz (he:PE X o ta)(c:Ob X.K C)(hm:Sj X.K C m f)(F:FnOk X.prog X.w X.K X.mg X.base CX k f fd ps sp)(hr:Dy k X.A)(hb:HG X.K fd ps ds)(hd:BF dvs ds)(hx:IG CX X E)(ha:PA X (e::es) t)
  (hst:As (e::es) X.env=(false,eval e X.env)::As es X.env:=by rfl) (hpl:(Cc pos (As es X.env)).any (·.1)=false:=by rfl)
  (ht:eval (.Call (.Attribute o m apos) (e::es) [] pos) X.env=(do
   let ov <- eval o X.env
   MQ apos.atName
   let (f,first) <- Gy [ov] (JE ov m pl)
   Rq pos f first (Cc pos (As (e::es) X.env)) (Fq pos (DC [] X.env))):=by rfl) :
  PE X (.Call (.Attribute o m apos) (e::es) [] pos) (Qc C m sp dvs E ta t):=by
 intro Ae s U H Q I h;refine Ma (Dp (he Ae s U H _ I h) λu s1 e=>e.el λx H1 I1 rx ⟨a,dx,fs,ex,ea,l,q⟩=>?_) ht;subst ex;obtain rfl:u=AC a:=rx;refine uX I1 ea c hm l ?_;refine Nr I.ok.mod.kin hm.kp (Dp (ha pos Ae s1 U H1 _ I1 q) λus s2 e=>e.el λvs H2 I2 r q2=>⟨I2.kIn,?_⟩) hst hpl;exact iJ (vs:=.ref a::vs) F hr hb hd hx I2 (.cons rfl r) q2
theorem rz (he:PE X o ta)(c:Ob X.K C)(hm:Sj X.K C m f)(F:FnOk X.prog X.w X.K X.mg X.base CX k f fd ps sp)(hr:Dy k X.A)(hb:HG X.K fd ps ds)(hd:BF dvs ds)(hx:IG CX X E)
  (ht:eval (.Call (.Attribute o m apos) [] [] pos) X.env=(do
   let ov <- eval o X.env
   MQ apos.atName
   let (f,first) <- Gy [ov] (JE ov m pl)
   Rq pos f first (Cc pos (As [] X.env)) (Fq pos (DC [] X.env))):=by rfl) :
  PE X (.Call (.Attribute o m apos) [] [] pos) (Qc C m sp dvs E ta W7):=by
 intro Ae s U H Q I h;refine Ma (Dp (he Ae s U H _ I h) λu s1 e=>e.el λx H1 I1 rx ⟨a,dx,fs,ex,ea,l,q⟩=>?_) ht;subst ex;obtain rfl:u=AC a:=rx;refine uX I1 ea c hm l ?_;exact PySem.W.callWith_K0 I1.kIn hm.kp (iJ (vs:=[.ref a]) F hr hb hd hx I1 (.cons rfl .nil) q)
structure Mk (K:Ac)(C f:Av):Prop where
 makes:Pj K C=true
 init:CN K (.ref C) "__init__" = some (some (.ref f))
 fn:LC K (.ref f)=true
 kp:FL K (.ref C)=true
theorem sm (M:Mk X.K C f)(F:FnOk X.prog X.w X.K X.mg X.base CX k f fd ps sp)(hr:Dy (k+1) X.A)(hb:HG X.K fd ps ds)(hd:BF dvs ds)
  (hx:IG CX X E) (I:A4 X Ae U H s) (r:BF vs us)
  (h:∀x dx,H x=none->H dx=none->dx≠x->sp (.ref x::(vs++dvs)) (CA (CA H dx (.own x)) x (.ins C dx [])) (λv H2=>v=.non/\Q (.ref x) H2) E) :
  Au (AA X.prog X.w) X.A (Ir (.ref C) us) (EP X Ae U Q) X.xe s:=by
 have hq:=h (s.heap.objs.size+1) s.heap.objs.size (I.hok.fresh (JD _)) (I.hok.fresh (AJ _)) (A6 (He _));have I2:=A4.made (C:=C) I;have r2:BF (V.ref (s.heap.objs.size+1)::(vs++dvs)) (AC (s.heap.objs.size+1)::(us++ds)):=.cons rfl (r.append hd)
 have hl:(AC (s.heap.objs.size+1)::us++ds).length=ps.length:=by
  have e:=r2.length;rw[F.len _ _ _ _ hq]at e;exact e.symm
 refine To (uc (f:=f) I.kIn M.makes M.init (beq_iff_eq.mp M.fn) (Gz (F.run _ X.stack _ _ ⟨AC (s.heap.objs.size+1)::us,[]⟩ (AC (s.heap.objs.size+1)::(us++ds)) _ _ E (hr.make C us [])
  (I2.env0.make C us []) (hb _ (AC (s.heap.objs.size+1)::us) I2.kIn hl) r2 hq) λr s' hq'=>?_))
 cases r with
 |error e=>exact hx Ae U _ _ e s' I2 hq'
 |ok fl=>
  cases fl with
  |ret u=>obtain⟨v,H',I3,rv,ev,q3⟩:=I2.after hq';subst ev;exact⟨rv,⟨V.ref (s.heap.objs.size+1),H',I3,rfl,q3⟩⟩
  |next=>exact C5 hq'
  |brk=>exact C5 hq'
  |cont=>exact C5 hq'
theorem pw (M:Mk X.K C f)(F:FnOk X.prog X.w X.K X.mg X.base CX k f fd ps sp)(hr:Dy (k+1) X.A)(hg:Gl X x)(hm:X.mg x=some (.ref C))(hb:HG X.K fd ps ds)(hd:BF dvs ds)(hx:IG CX X E)
  (ha:PA X (e::es) t) (hdb:(x == ("__debug__":Str))=false:=by decide) (he:As (e::es) X.env=(false,eval e X.env)::As es X.env:=by rfl) (hpl:(Cc pos (As es X.env)).any (·.1)=false:=by rfl) :
  PE X (.Call (.Name x p) (e::es) [] pos) (W9 C sp dvs E t):=by
 intro Ae s U H Q I h;refine Cm (iZ I hg hm ?_ hdb);refine Nr I.ok.mod.kin M.kp (Dp (ha pos Ae s U H _ I h) λus s1 e=>e.el λvs H1 I1 r q=>⟨I1.kIn,?_⟩) he hpl;exact sm M F hr hb hd hx I1 r q
end
section
end
structure Fe (N P:List Str)(sc:K2):Prop where
 kind:sc.kind=.function
 co:sc.isCoroutine=false
 gen:sc.isGenerator=false
 nd:N.Nodup
 pre:N.take P.length=P
 par:∀x∈P,sc.names.lookup x=some .local\/sc.names.lookup x=some .cell
 nofree:∀y∈sc.names,y.2≠.free
theorem tL {kindOf:Str->Option Fu} :∀{binds:List (Str×Ai)}{m:Str->Option Ai},(∀v,(x,v)∉binds)->Pe kindOf binds m x=m x
 |[],_,_=>rfl
 |(n,v)::r,m,h=>by
  unfold Pe;rw[tL λw hw=>h w (AE _ hw)];split
  .have:x≠n:=by rintro rfl;exact h v AF
   simp[this]
  .rfl
theorem tJ {kindOf:Str->Option Fu} :∀{binds:List (Str×Ai)}{m:Str->Option Ai},(∀v,(x,v)∉binds)->Pf kindOf binds m x=m x
 |[],_,_=>rfl
 |(n,v)::r,m,h=>by
  unfold Pf;rw[tJ λw hw=>h w (AE _ hw)];split
  .rfl
  .have:x≠n:=by rintro rfl;exact h v AF
   simp[this]
theorem tK {kindOf:Str->Option Fu}{x:Str} :∀{P:List Str}{vs:List Ai}{i:Nat}{m:Str->Option Ai},P.Nodup->P[i]? = some x->vs[i]? = some v->kindOf x=some .local ->
  Pe kindOf (P.zip vs) m x=some v
 |[],_,_,_,_,h,_,_=>by simp at h
 |_::_,[],_,_,_,_,h,_=>by simp at h
 |p::P,w::vs,0,m,nd,h1,h2,hk=>by
  simp at h1 h2;subst h1;subst h2;show Pe kindOf ((p,w)::P.zip vs) m p=_;unfold Pe;rw[tL λv hv=>(FE.mp nd).1 (Nn hv).1,if_pos hk];simp
 |p::P,w::vs,i+1,m,nd,h1,h2,hk=>by
  show Pe kindOf ((p,w)::P.zip vs) m x=_;unfold Pe;exact tK (FE.mp nd).2 (by simpa using h1) (by simpa using h2) hk
theorem tI {kindOf:Str->Option Fu}{x:Str} :∀{P:List Str}{vs:List Ai}{i:Nat}{m:Str->Option Ai},P.Nodup->P[i]? = some x->vs[i]? = some v->kindOf x≠some .local ->
  Pf kindOf (P.zip vs) m x=some v
 |[],_,_,_,_,h,_,_=>by simp at h
 |_::_,[],_,_,_,_,h,_=>by simp at h
 |p::P,w::vs,0,m,nd,h1,h2,hk=>by
  simp at h1 h2;subst h1;subst h2;show Pf kindOf ((p,w)::P.zip vs) m p=_;unfold Pf;rw[tJ λv hv=>(FE.mp nd).1 (Nn hv).1,if_neg hk];simp
 |p::P,w::vs,i+1,m,nd,h1,h2,hk=>by
  show Pf kindOf ((p,w)::P.zip vs) m x=_;unfold Pf;exact tI (FE.mp nd).2 (by simpa using h1) (by simpa using h2) hk
noncomputable def start (N:List Str)(vs:List V):St:=vs.map some++Ax (N.length-vs.length) none
noncomputable def J0 (CX:V9)(P:Bq)(w:BM)(K:Ac)(mg:Str->Option Ai)(base:CV)(N:List Str)(qual:Str)(scope:K2)(f:Av)(cd:Ai)(A:Cy)(outer:List Env)(s:Ar)(H:Hp)(E:XK):Cx where
 prog:=P
 w:=w
 K:=K
 mg:=mg
 base:=base
 A:=A.deeper (FJ qual scope s.heap.objs.size f cd)
 N:=N
 s₀:=s
 H₀:=H
 env:=FJ qual scope s.heap.objs.size f cd
 outer:=outer
 stack:=FJ qual scope s.heap.objs.size f cd::outer
 ex:=[]
 calm:=true
 fn:=λ_=>true
 pn:=[]
 xe:=λe s'=>Au (AA P w) (A.deeper (FJ qual scope s.heap.objs.size f cd)) (leaving (FJ qual scope s.heap.objs.size f cd) e) (λ_ s''=>CX outer H s E e s'') (λe' s''=>CX outer H s E e' s'') s'
theorem rT {sc:K2}(h:sc.names.lookup x=some .cell):∃c,(Wi n sc.names []).lookup x=some c:=by
 have q:=LD sc.names n [] (.inl h);exact Lf.mp q
theorem uy {K:Ac}
  (S:Fe N ps scope) (hd:A.handled=none) (e0:N9 P w K mg base A outer s H) (hl:vs.length=ps.length) (r:BF vs us)
  (x:InCallC s s.heap.objs.size (Pe (FJ qual scope s.heap.objs.size f cd).kindOf (ps.zip us) λ_=>none) (Wi (s.heap.objs.size+1) scope.names []) (Pf (FJ qual scope s.heap.objs.size f cd).kindOf (ps.zip us) λ_=>none) s1) :
  A4 (J0 CX P w K mg base N qual scope f cd A outer s H E) [] (start N vs) H s1:=by
 have hpl:ps.length<=N.length:=by have:=congrArg Es S.pre;rw[AY]at this;ext
 obtain⟨h1,tk,rfl,hk⟩:=x.done;have noA:∀b,b∉(J0 CX P w K mg base N qual scope f cd A outer s H E).ex:=λb z=>absurd (show b∈([]:List Av)from z) (by simp)
 refine ⟨⟨e0.mod,S.kind,rfl,rfl,AJ _,λy z c h1 h2=>?_,λy hy=>?_,λy c _ h=>?_,λ_=>hd,Around.frames_deeper e0.frames,.inr ⟨rfl,rfl⟩,λb z=>absurd z (noA b),e0.bs,e0.bsz,λb _ _=>noA b,λb z=>absurd z (noA b),e0.funs,e0.frf⟩,
  rfl,e0.bare,Un.kept hk,⟨_,x.toInCall.ns,λi y v h1 h2 h3=>?_⟩,λy c h=>⟨_,x.cell y c h⟩,e0.hok.fresh (AJ _),λy c h=>?_,λp hp=>absurd (show p∈([]:List (Av×Obj)) from hp) (by simp),e0.hok.kept hk,?_,λ_ h=>nomatch h⟩
 .exact name_of_addr x.apart (EE h1) (EE h2)
 .have hy:=hy;rcases hy with hy|hy
  .exact rT hy
  .exact absurd rfl (S.nofree _ (EE hy))
 .exact Fn (x.above y c (EE h))
 .have hi:i<vs.length:=by
   unfold start at h2;by_cases hi:i<vs.length
   .exact hi
   .rw[Cf (by simpa using hi)]at h2;rw[List.getElem?_replicate]at h2;split at h2<;>cases h2
  have ha:vs[i]? = some v:=by
   unfold start at h2;rw[CZ (by simpa using hi),AH]at h2;cases e:vs[i]? with
   |none=>rw[e]at h2;cases h2
   |some a=>rw[e]at h2;cases h2;rfl
  obtain⟨u,hu,rv⟩:=r.get ha
  have hp:ps[i]? = some y:=by
   rw[<- S.pre,List.getElem?_take_of_lt (by ext)];exact h1
  have ndP:ps.Nodup:=by rw[<- S.pre];exact S.nd.sublist (Gv _ _)
  refine⟨u,rv,?_⟩;rcases S.par y (Aw hp)with k|k
  .exact .inl ⟨k,tK ndP hp hu k⟩
  .obtain⟨c,e⟩:=rT k;refine .inr ⟨.inl k,c,e,?_⟩;have q:=x.cell y c e;rw[tI ndP hp hu (by show scope.names.lookup y≠_;rw[k];decide)]at q;exact q
 .exact e0.hok.fresh (Fn (x.above y c (EE h)))
 .unfold start;show _=N.length;rw[Aq,Ab,Bn];ext
theorem yI {K:Ac}{dV kV doc pm cdv ct oc:Ai}
  (lk:K.lookup f=some ⟨oc,od,.func (Fy name qual params body scope dV kV doc pm an cdv ct),osl⟩) (hcd:Kg K cdv qual=true) (S:Fe N ps scope)
  (len:∀vs H Q E,sp vs H Q E->vs.length=ps.length)
  (hbody:∀ A outer s H vs Q E,Dy k (A.deeper (FJ qual scope s.heap.objs.size f cdv))->sp vs H Q E ->
   ∃ t,KL (J0 CX P w K mg base N qual scope f cdv A outer s H E) body t/\t { nx:=λ_ H'=>Q .non H',rt:=Q } (start N vs) H) :
  FnOk P w K mg base CX (k+1) f (Fy name qual params body scope dV kV doc pm an cdv ct) ps sp:=by
 refine⟨len,λA outer s H args us vs Q E hr e0 hb r hsp=>?_⟩;have hl:=len _ _ _ _ hsp;have KX:=e0.mod.kin.keeps λb o e=>(e0.bs b o e).1;have lim:=e0.mod.nolimit.keeps λb o e=>(e0.bs b o e).1
 have hkind:∀y∈ps.zip us,scope.names.lookup y.1=some .local\/(scope.names.lookup y.1=some .cell/\((Wi (s.heap.objs.size+1) scope.names []).lookup y.1).isSome=true):=λ⟨n,v⟩ hy=>by
  rcases S.par n (Nn hy).1 with q|q
  .exact .inl q
  .exact .inr ⟨q,LD _ _ _ (.inl q)⟩
 refine codeAny_call_function hr.depth (KX _ _ lk) rfl S.co S.gen rfl (PySem.W.codeRec_of KX hcd) (hb _ _ _ _ ?_);refine wpAny_newFunctionEnv_cells S.kind hkind λenv he s1 x=>?_;subst he;refine⟨lim.keeps x.toInCall.keep,codeAny_func ?_⟩;obtain⟨t,ht,hq⟩:=hbody A outer s H vs Q E (hr.deeper _) hsp;have I:A4 (J0 CX P w K mg base N qual scope f cdv A outer s H E) [] (start N vs) H s1:=uy S hr.hd e0 hl r x;refine BK (ht [] s1 (start N vs) H _ I hq) (λfl s' hs=>?_) λe s' hs=>hs
 have fin:∀{U':St} {H':Hp} {v:V} {u:Ai},A4 (J0 CX P w K mg base N qual scope f cdv A outer s H E) [] U' H' s'->RelV v u->Q v H'->CE outer P w H s Q u s':=
  λ{U' H' v u} J rv q=>⟨v,H',J.os,J.bare,J.base,J.hok,rv,q⟩
 cases fl with
 |ret u=>obtain⟨v,U',H',J,rv,q⟩:=hs;exact fin J rv q
 |next=>obtain⟨U',H',J,q⟩:=hs;exact fin (v:=V.non) (u:=F0) J rfl q
 |brk=>obtain⟨_,_,_,q⟩:=hs;exact C5 q
 |cont=>obtain⟨_,_,_,q⟩:=hs;exact C5 q
section
variable       {id:String}
def dF (r:List V->Hp->VK->Prop)(t:TA):TE:=λU H Q=>t U H λvs H1=>r vs H1 Q
theorem rf (hc:E7 X (.builtin id) r)(hg:Gl X x)(hm:X.mg x=none)(hv:DD x=some (.builtin id))(ha:PA X (e::es) t)(hn:x≠"__name__":=by decide)(hdb:(x == ("__debug__":Str))=false:=by decide)
  (he:As (e::es) X.env=(false,eval e X.env)::As es X.env:=by rfl) (hpl:(Cc pos (As es X.env)).any (·.1)=false:=by rfl):PE X (.Call (.Name x p) (e::es) [] pos) (dF r t):=by
 intro Ae s U H Q I h;refine Cm (PK I hg hm hv ?_ hn hdb);exact EU (Dp (ha pos Ae s U H _ I h) λus s1 e=>e.el λvs H1 I1 r1 q1=>hc Ae s1 U H1 vs us Q I1 r1 q1) he hpl
theorem w9 (hc:E7 X (.type T) r)(hg:Gl X x)(hm:X.mg x=none)(hv:DD x=some (.type T))(ha:PA X (e::es) t)(hn:x≠"__name__":=by decide)(hdb:(x == ("__debug__":Str))=false:=by decide)
  (he:As (e::es) X.env=(false,eval e X.env)::As es X.env:=by rfl) (hpl:(Cc pos (As es X.env)).any (·.1)=false:=by rfl):PE X (.Call (.Name x p) (e::es) [] pos) (dF r t):=by
 intro Ae s U H Q I h;refine Cm (PK I hg hm hv ?_ hn hdb);exact BB (Dp (ha pos Ae s U H _ I h) λus s1 e=>e.el λvs H1 I1 r1 q1=>hc Ae s1 U H1 vs us Q I1 r1 q1) he hpl
end
end L2
namespace HT
open PySem PyProof.Rows
section
open PySem.SeqAt
open PySem.MeetsSeq PySem.MeetsSeq2 PySem.MeetsSeq3
end
section
noncomputable def sIx (n d:Nat):Option Int->Nat
 |none=>d
 |some v=>if v<0 then(v+(n:Int)).toNat else min v.toNat n
theorem sIx_none (n d:Nat):sIx n d none=d:=rfl
theorem sIx_nat (n d k:Nat):sIx n d (some (k:Int))=min k n:=by
 show(if (k:Int)<0 then((k:Int)+(n:Int)).toNat else min (k:Int).toNat n)=min k n;rw[if_neg (by ext),BD]
theorem lj (n d:Nat)(hd:d<=n)(o:Option Int):sIx n d o<=n:=by
 cases o with
 |none=>exact hd
 |some v=>
  show(if v<0 then(v+(n:Int)).toNat else min v.toNat n)<=n;by_cases hv:v<0
  .rw[if_pos hv];ext
  .rw[if_neg hv];exact Nat.min_le_right _ _
theorem qT (v:Int)(n d:Nat):(if v<0 then max (v+(n:Int)) 0 else min v (n:Int))=((sIx n d (some v):Nat):Int):=by
 show(if v<0 then max (v+(n:Int)) 0 else min v (n:Int))=(((if v<0 then(v+(n:Int)).toNat else min v.toNat n):Nat):Int);by_cases hv:v<0
 .simp only[if_pos hv];ext
 .simp only[if_neg hv];ext
theorem xh (lo hi:Option Int)(n:Nat):Fv lo hi 1 (n:Int)=(((sIx n 0 lo:Nat):Int),((sIx n n hi:Nat):Int)):=by
 have h1:¬((1:Int)<0):=by ext
 unfold Fv;simp only[h1,if_false];refine Ss ?_ ?_
 .cases lo with
  |none=>rfl
  |some v=>exact qT v n 0
 .cases hi with
  |none=>rfl
  |some v=>exact qT v n n
theorem xt (i j:Nat):D8 (i:Int) (j:Int) 1=j-i:=by
 unfold D8;have h1:(1:Int) > 0:=by ext
 simp only[h1,if_true,WD];split<;>ext
theorem uP (p:LG v o)(h:Q o s):Au (AA prog w) A (WH v) Q E s:=by
 cases p with
 |none=>exact cF h
 |int i t=>exact slicePart_int h
theorem ZcU {lo hi:Option Int}{n:Nat}(hs:s.heap.IsSliceOf sl vl vu .none)(pl:LG vl lo)(pu:LG vu hi)
  (h:Q (((sIx n 0 lo:Nat):Int),1,sIx n n hi-sIx n 0 lo) s):Au (AA prog w) A (IX (.ref sl) (pure (n:Int))) Q E s:=by
 obtain⟨os,hos,hcs,hds⟩:=id hs;unfold IX WI;refine Aa (Aa (Rn hos hds rfl (Aa (Rn hos hds rfl (Aa (Rn hos hds rfl (Ad ?_)))))));refine Aa (cF ?_);show Au _ _ (if ((1:Int) == 0)=true then _ else _) _ _ s;rw[if_neg (by decide)];refine Aa (uP pl (Aa (uP pu (Aa (Ad ?_)))));show Au _ _ (match Fv lo hi 1 (n:Int)with | (lo,hi)=>pure (lo,(1:Int),D8 lo hi 1)) _ _ s;rw[xh lo hi n];show Au _ _ (pure (((sIx n 0 lo:Nat):Int),(1:Int),D8 ((sIx n 0 lo:Nat):Int) ((sIx n n hi:Nat):Int) 1)) _ _ s;rw[xt];exact Ad h
theorem r9 (xs:Array Ai)(i k:Nat):((Bp k).filterMap λ(m:Nat)=>xs[((i:Int)+(m:Int)*1).toNat]?).toArray=((xs.toList.drop i).take k).toArray:=by
 have e:(λ(m:Nat)=>xs[((i:Int)+(m:Int)*1).toNat]?)=λm=>xs[i+m]?:=by
  funext m;have:((i:Int)+(m:Int)*1).toNat=i+m:=by ext
  rw[this]
 rw[e];have:=pick_run xs i k;rw[Jj]at this;have e2:((λx=>xs[x]?) ∘ λx=>i+x)=λm=>xs[i+m]?:=rfl;rw[e2]at this;rw[this]
theorem getItem_tuple_cut {lo hi:Option Int}(ht:IsTup s.heap t items)(hs:s.heap.IsSliceOf sl vl vu .none)(pl:LG vl lo)(pu:LG vu hi)
  (hw:¬(sIx items.size 0 lo=0/\sIx items.size items.size hi=items.size))
  (h:Q (.ref s.heap.objs.size) {s with heap:=s.heap.push {cls:=.type "tuple",data:=.seq ((items.toList.drop (sIx items.size 0 lo)).take (sIx items.size items.size hi-sIx items.size 0 lo)).toArray} })
  (hsz:items.size<=Am):Au (AA prog w) A (JF (.ref t) (.ref sl)) Q E s:=by
 have htake:sizeOk (.seq ((items.toList.drop (sIx items.size 0 lo)).take (sIx items.size items.size hi-sIx items.size 0 lo)).toArray):=by
  show((items.toList.drop (sIx items.size 0 lo)).take (sIx items.size items.size hi-sIx items.size 0 lo)).toArray.size<=Am;rw[AV,AY,FW,BE];ext
 have hj:sIx items.size items.size hi<=items.size:=lj _ _ (AJ _) hi;obtain⟨os,hos,hcs,hds⟩:=id hs;have hTs:s.TypeIs (.ref sl) "slice":=⟨os,hos,hcs⟩;unfold JF;try with_reducible refine BV ?_
 first | refine Aa (Ad ?_) | skip
 refine Aa (wpAny_sequenceKey ht.typeIs (by decide) ?_)
 refine Aa (HP ht.typeIs EM
  (B8 EM ht.typeIs entry_tuple_getitem ?_ (args_tuple_getitem _ _)))
 show Au _ _ (WG (.ref t) >>= _) _ _ s;refine Aa (tupleItemsOf_ ht ?_);refine Aa (Fj hTs ?_);rw[if_pos (by decide)];refine Aa (ZcU hs pl pu ?_)
 have hno:¬((((sIx items.size 0 lo:Nat):Int) == 0 && (1:Int) == 1 && (sIx items.size items.size hi-sIx items.size 0 lo) == items.size)=true):=by
  intro q;rw[BI,BI]at q;have q1:=eq_of_beq q.1.1;have q2:=eq_of_beq q.2;exact hw ⟨by ext,by ext⟩
 show Au _ _ (if (((sIx items.size 0 lo:Nat):Int) == 0 && (1:Int) == 1 && (sIx items.size items.size hi-sIx items.size 0 lo) == items.size)=true then _ else _) _ _ s;rw[if_neg hno,r9]
 first
  |exact Aa (BZ (Ad ⟨_,rfl,Ad h⟩) htake)
  |exact Aa (BZ (Aa (Ad (Ad ⟨_,rfl,Ad h⟩))) htake)
  |exact Aa (Aa (BZ (Ad (Ad ⟨_,rfl,Ad h⟩)) htake))
  |exact Aa (Aa (BZ (Ad ⟨_,rfl,Ad h⟩) htake))
end
end HT
namespace L2
open PySem PySem.Spec PyProof.Rows
abbrev TO:=St->Hp->(Option Int->Hp->Prop)->Prop
def PO (X:Cx)(e:Option Ca)(t:TO):Prop:=
 ∀(Ae:List (Av×Obj)) (s:Ar) (U:St) (H:Hp) (Q:Option Int->Hp->Prop),A4 X Ae U H s->t U H Q ->
  Au (AA X.prog X.w) X.A (evalPart e X.env) (λu s'=>∃o H',A4 X Ae U H' s'/\LG u o/\Q o H') X.xe s
def RK:TO:=λ_ H Q=>Q none H
def W5 (t:TE):TO:=λU H Q=>t U H λx H1=>∃i,x=.int i/\Q (some i) H1
section
variable    {lo:Option Ca}
theorem my:PO X none RK:=by
 intro Ae s U H Q I h;rw[evalPart_none];exact Ad ⟨none,H,I,.none,h⟩
theorem m6 (h:PE X e te):PO X (some e) (W5 te):=by
 intro Ae s U H Q I hw;rw[evalPart_some];refine Dp (h Ae s U H _ I hw) λu s1 e=>e.el λx H1 I1 r1 q1=>?_;obtain⟨i,rfl,q⟩:=q1;obtain⟨t,rfl⟩:=r1;exact⟨some i,H1,I1,.int i t,q⟩
def Sh (X:Cx)(r:V->Option Int->Option Int->Hp->VK->Prop):Prop:=
 ∀(Ae:List (Av×Obj)) (s:Ar) (U:St) (H:Hp) (x:V) (v vl vu:Ai) (lo hi:Option Int) (sl:Av) (Q:VK),A4 X Ae U H s->RelV x v->s.heap.IsSliceOf sl vl vu .none->LG vl lo->LG vu hi->r x lo hi H Q ->
  ∃T id,Nj (.type T) "__getitem__" = pure (some (.builtin id))/\s.TypeIs v T/\Au (AA X.prog X.w) X.A (JF v (.ref sl)) (EP X Ae U Q) X.xe s
def xM (r:V->Option Int->Option Int->Hp->VK->Prop)(te:TE)(tl th:TO):TE:=λU H Q=>te U H λx H1=>tl U H1 λl H2=>th U H2 λu H3=>r x l u H3 Q
theorem r6 (hr:Sh X r)(he:PE X e te)(hl:PO X lo tl)(hu:PO X hi th):PE X (.Subscript e (.Slice lo hi none p2) pos) (xM r te tl th):=by
 intro Ae s U H Q I h;refine Tz (Dp (he Ae s U H _ I h) λv s1 ⟨x,H1,I1,r1,q1⟩=>?_);refine wpAny_Slice (Dp (hl Ae s1 U H1 _ I1 q1) λvl s2 ⟨l,H2,I2,pl,q2⟩=>Dp (hu Ae s2 U H2 _ I2 q2) λvu s3 ⟨u,H3,I3,pu,q3⟩=>?_);rw[evalPart_none];refine Ad ?_;have I4:A4 X Ae U H3 {s3 with heap:=s3.heap.push {cls:=.type "slice",data:=.fields #[vl,vu,.none]} }:=I3.kept λb ob q=>Ag _ q;obtain⟨T,id,hT,ht,hg⟩:=hr Ae {s3 with heap:=s3.heap.push {cls:=.type "slice",data:=.fields #[vl,vu,.none]} } U H3 x v vl vu l u s3.heap.objs.size Q I4 r1 (Vk ..) pl pu q3;show Au (AA X.prog X.w) X.A (OG e (.Slice lo hi none p2) v (.ref s3.heap.objs.size)) (EP X Ae U Q) X.xe {s3 with heap:=s3.heap.push {cls:=.type "slice",data:=.fields #[vl,vu,.none]} };exact cE ht hT hg (by with_unfolding_all rfl)
noncomputable def Lc (xs:List V)(lo hi:Option Int):List V:=(xs.drop (HT.sIx xs.length 0 lo)).take (HT.sIx xs.length xs.length hi-HT.sIx xs.length 0 lo)
theorem vL (xs:List V)(lo hi:Option Int):(Lc xs lo hi).length<=xs.length:=by
 unfold Lc;rw[AY,FW];ext
def fP (K:Ac):V->Option Int->Option Int->Hp->VK->Prop:=λx lo hi H Q=>∃a xs,x=.ref a/\Lo K H a xs /\
 ¬(HT.sIx xs.length 0 lo=0/\HT.sIx xs.length xs.length hi=xs.length)/\∀p,H p=none->Q (.ref p) (CA H p (.tup (Lc xs lo hi)))
theorem ln:Sh X (fP X.K):=by
 intro Ae s U H x v vl vu lo hi sl Q I rx hs pl pu h;obtain⟨a,xs,rfl,hx,hw,q⟩:=h;cases rx;obtain⟨Bk,r,ht,hz⟩:=I.tuple hx;have hlen:Bk.toArray.size=xs.length:=by rw[AV];exact r.length.symm
 refine⟨"tuple",_,EM.lookup,ht.typeIs,?_⟩;refine HT.getItem_tuple_cut ht hs pl pu (by rw[hlen];exact hw) ?_ (by rw[hlen];exact hz);rw[hlen];refine⟨.ref s.heap.objs.size,_,I.laid (λb ob q=>Ag _ q) (AJ _) ?_,rfl,q _ (I.hok.fresh (AJ _))⟩;exact⟨AZ (vL xs lo hi) hz,_,(r.drop (HT.sIx xs.length 0 lo)).take (HT.sIx xs.length xs.length hi-HT.sIx xs.length 0 lo),LZ.new _ _⟩
end
noncomputable def Rb (n:Nat)(i:Int):Option Nat:=if 0<=i then(if i<n then some i.toNat else none)else if -(n:Int)<=i then some (i+n).toNat else none
noncomputable def FG {α:Type}(xs:List α)(i:Int):Option α:=(Rb xs.length i).bind λj=>xs[j]?
theorem qJ (h:Rb n i=some j):Wg i n=some j/\j<n/\-(n:Int)<=i/\i<n:=by
 unfold Rb at h;by_cases h0:0<=i
 .rw[if_pos h0]at h;by_cases h1:i<n
  .rw[if_pos h1]at h;have e:=A9 h;exact⟨by rw[seqIndex_of h0 h1,e],by ext,by ext,h1⟩
  .rw[if_neg h1]at h;cases h
 .rw[if_neg h0]at h;by_cases h1:-(n:Int)<=i
  .rw[if_pos h1]at h;have e:=A9 h;exact⟨by rw[seqIndex_neg (by ext) h1,e],by ext,h1,by ext⟩
  .rw[if_neg h1]at h;cases h
theorem iT (h:FG xs i=some v):∃j,Wg i xs.length=some j/\xs[j]? = some v/\j<xs.length/\-(xs.length:Int)<=i/\i<xs.length:=by
 unfold FG at h;cases e:Rb xs.length i with
 |none=>rw[e]at h;cases h
 |some j=>rw[e]at h;obtain⟨h1,h2,h3,h4⟩:=qJ e;exact⟨j,h1,h,h2,h3,h4⟩
theorem OE {α:Type}{xs:List α}{j:Nat}{v:α}(h:xs[j]? = some v):FG xs (j:Int)=some v:=by
 have hj:=(Ah.mp h).1
 have e:Rb xs.length (j:Int)=some j:=by
  unfold Rb;rw[if_pos (by ext),if_pos (by ext)];simp
 unfold FG;rw[e];exact h
theorem qz (xs:List α)(v:α):FG (xs++[v]) (-1)=some v:=by
 have hl:(xs++[v]).length=xs.length+1:=by simp
 have e:Rb (xs++[v]).length (-1)=some xs.length:=by
  unfold Rb;rw[hl,if_neg (by decide),if_pos (by ext)];congr 1
  ext
 unfold FG;rw[e];show(xs++[v])[xs.length]? = some v;simp
def OF (b:Ca):Prop:=∀o i,L5 b false o i=operate [o,i] (JF o i)
def O6 (X:Cx)(r:R2):Prop:=
 ∀value slice (Ae:List (Av×Obj)) (s:Ar) (U:St) (H:Hp) (x y:V) (v u:Ai) (Q:VK),A4 X Ae U H s->RelV x v->RelV y u->r x y H Q ->
  L5 slice false v u=operate [v,u] (JF v u)->Au (AA X.prog X.w) X.A (OG value slice v u) (EP X Ae U Q) X.xe s
def Nh (X:Cx)(id:String)(r:V->List V->Hp->VK->Prop):Prop:=
 ∀(Ae:List (Av×Obj)) (s:Ar) (U:St) (H:Hp) (x:V) (xs:List V) (v:Ai) (us:List Ai) (Q:VK),A4 X Ae U H s->RelV x v->BF xs us->r x xs H Q ->
  Au (AA X.prog X.w) X.A (Ir (.builtin id) (v::us)) (EP X Ae U Q) X.xe s
section
variable {X:Cx}
theorem ae (hr:O6 X r)(ha:PE X a ta)(hb:PE X b tb)(hs:OF b):PE X (.Subscript a b pos) (W6 r ta tb):=by
 intro Ae s U H Q I h;exact Tz (Um ha hb I h λv u s2 x y H2 I2 rx ry q=>hr a b Ae s2 U H2 x y v u Q I2 rx ry q (hs _ _))
def fV (K:Ac):R2:=λx y H Q=>∃p xs i v,x=.ref p/\y=.int i/\FH K H p xs/\FG xs i=some v/\Q v H
def fT (K:Ac):R2:=λx y H Q=>∃p xs i v,x=.ref p/\y=.int i/\Lo K H p xs/\FG xs i=some v/\Q v H
def fU:R2:=λx y H Q=>∃z i c,x=.str z/\y=.int i/\z.length<=Am/\FG z.cps.toList i=some c/\Q (.str ⟨#[c]⟩) H
theorem j9:O6 X (fV X.K):=by
 intro value slice Ae s U H x y v u Q I rx ry h hs;obtain⟨p,xs,i,z,e1',e2',hq,he,q⟩:_:=h;cases rx;obtain⟨t,rfl⟩:=ry;obtain⟨Bk,r,pl,hz⟩:=I.list hq;obtain⟨j,h1,h2,h3,h4,h5⟩:=iT he;obtain⟨w,ew,rw'⟩:=r.get h2;have hl:=r.length;have hn:=Kq;have fin:EP X Ae U Q w s:=⟨z,H,I,rw',q⟩;by_cases h0:0<=i
 .have hj:i.toNat=j:=by
   rw[seqIndex_of h0 h5]at h1;exact A9 h1
  exact item_listR pl.isList h0 (by ext) (by rw[hj];simpa using ew) fin hs
 .have hj:(i+(Bk.toArray.size:Int)).toNat=j:=by
   rw[seqIndex_neg (by ext) h4]at h1;rw[AV,<- hl];exact A9 h1
  exact PR pl.isList.typeIs U5.lookup
   (wpAny_getItem_list_neg pl.isList (by ext) (by rw[AV]<;>ext) (by ext) (by rw[hj];simpa using ew) ⟨rfl,fin⟩) hs
theorem b7:O6 X (fT X.K):=by
 intro value slice Ae s U H x y v u Q I rx ry h hs;obtain⟨p,xs,i,z,e1',e2',hq,he,q⟩:_:=h;cases rx;obtain⟨t,rfl⟩:=ry;obtain⟨Bk,r,pl,hz⟩:=I.tuple hq;obtain⟨j,h1,h2,h3,h4,h5⟩:=iT he;obtain⟨w,ew,rw'⟩:=r.get h2;have hl:=r.length;have hn:=Kq;have fin:EP X Ae U Q w s:=⟨z,H,I,rw',q⟩
 exact PR pl.typeIs slot_tuple_getitem.lookup
  (getItem_tuple pl (by ext) (by ext) (by rw[AV,<- hl];exact h1) (by simpa using ew) ⟨rfl,fin⟩) hs
theorem b5:O6 X fU:=by
 intro value slice Ae s U H x y v u Q I rx ry h hs;obtain⟨z,i,c,e1',e2',hz,he,q⟩:_:=h;obtain⟨t,rfl⟩:=rx;obtain⟨t',rfl⟩:=ry;obtain⟨j,h1,h2,h3,h4,h5⟩:=iT he;have hl:z.cps.toList.length=z.length:=by simp[Str.length]
 rw[hl]at h1 h4 h5;have hn:=Kq
 exact cE (Nk s z t) slot_str_getitem.lookup (getItem_str (by
  have e1:decide (i < -(2^63:Int))=false:=decide_eq_false (by ext);have e2:decide (i >= 2^63)=false:=decide_eq_false (by ext);rw [e1,e2,Mi]) (by rw [h1];simpa using h2) ⟨.str ⟨#[c]⟩,H,I.tok _,⟨_,rfl⟩,q⟩) hs
theorem Β (lo hi:Option Int)(n:Nat):(FU lo hi none n).1=((HT.sIx n 0 lo:Nat):Int)/\(FU lo hi none n).2.1=((HT.sIx n n hi:Nat):Int)/\(FU lo hi none n).2.2=1:=by
 refine⟨?_,?_,rfl⟩
 .cases lo with
  |none=>simp[FU,HT.sIx]
  |some i=>
   simp only[FU,HT.sIx,Pn,show(1:Int) > 0 by decide,if_true];by_cases h:i<0
   .simp only[h,if_true]<;>ext
   .simp only[h,if_false]<;>ext
 .cases hi with
  |none=>simp[FU,HT.sIx]
  |some i=>
   simp only[FU,HT.sIx,Pn,show(1:Int) > 0 by decide,if_true];by_cases h:i<0
   .simp only[h,if_true]<;>ext
   .simp only[h,if_false]<;>ext
theorem Zft (Bk:List Ai)(lo hi:Option Int):slicePick Bk.toArray lo hi none=((Bk.drop (HT.sIx Bk.length 0 lo)).take (HT.sIx Bk.length Bk.length hi-HT.sIx Bk.length 0 lo)).toArray:=by
 obtain⟨h1,h2,h3⟩:=Β lo hi Bk.toArray.size;unfold slicePick;rw[h1,h2,h3];simp only[sliceRange_one,pick_run,AV]<;>rfl
def fQ (K:Ac):V->Option Int->Option Int->Hp->VK->Prop:=λx lo hi H Q=>∃a xs,x=.ref a/\FH K H a xs/\∀p,H p=none->Q (.ref p) (CA H p (.lst (Lc xs lo hi)))
theorem qj:Sh X (fQ X.K):=by
 intro Ae s U H x v vl vu lo hi sl Q I rx hs pl pu h;obtain⟨a,xs,rfl,hx,q⟩:=h;cases rx;obtain⟨Bk,r,ht,hz⟩:=I.list hx;have hlen:=r.length;refine⟨"list",_,U5.lookup,ht.isList.typeIs,?_⟩;refine wpAny_getItem_list_slice ht.isList hs pl pu .none (by simp) ?_ (by rw[AV]<;>ext);rw[Zft,<- hlen];refine⟨.ref s.heap.objs.size,_,I.laid (λb ob q=>Ag _ q) (AJ _) ?_,rfl,q _ (I.hok.fresh (AJ _))⟩;exact⟨AZ (vL xs lo hi) hz,_,0,(r.drop (HT.sIx xs.length 0 lo)).take (HT.sIx xs.length xs.length hi-HT.sIx xs.length 0 lo),AB _ rfl⟩
noncomputable def Ha:V->Bool
 |.non=>true
 |.bl _=>true
 |.int _=>true
 |.str _=>true
 |_=>false
noncomputable def Qu:V->V->Bool
 |.non,.non=>true
 |.bl a,.bl b=>a == b
 |.bl a,.int b=>(if a then 1 else 0) == b
 |.int a,.bl b=>a == (if b then 1 else 0)
 |.int a,.int b=>a == b
 |.str a,.str b=>a == b
 |_,_=>false
theorem pQ (ry:RelV y u)(rx:RelV x v)(fy:Ha y=true)(fx:Ha x=true):Eo A s u v (Qu y x):=by
 cases y with
 |non=>
  cases ry;cases x with
  |non=>cases rx;exact Nx _
  |bl b=>cases rx;exact SeqAt.EqAt.none_bool b
  |int b=>obtain⟨t,rfl⟩:=rx;exact SeqAt.EqAt.none_int b t
  |str b=>obtain⟨t,rfl⟩:=rx;exact SeqAt.EqAt.none_str b t
  |_=>exact absurd (show false=true from fx) Al
 |bl a=>
  cases ry;cases x with
  |non=>cases rx;exact SeqAt.EqAt.bool_none a
  |bl b=>cases rx;exact SeqAt.EqAt.bool_bool a b
  |int b=>obtain⟨t,rfl⟩:=rx;exact SeqAt.EqAt.bool_int a b t
  |str b=>obtain⟨t,rfl⟩:=rx;exact SeqAt.EqAt.bool_str a b t
  |_=>exact absurd (show false=true from fx) Al
 |int a=>
  obtain⟨t',rfl⟩:=ry;cases x with
  |non=>cases rx;exact SeqAt.EqAt.int_none a t'
  |bl b=>cases rx;exact SeqAt.EqAt.int_bool a t' b
  |int b=>obtain⟨t,rfl⟩:=rx;exact SeqAt.EqAt.int_int a t' b t
  |str b=>obtain⟨t,rfl⟩:=rx;exact L9 a t' b t
  |_=>exact absurd (show false=true from fx) Al
 |str a=>
  obtain⟨t',rfl⟩:=ry;cases x with
  |non=>cases rx;exact SeqAt.EqAt.str_none a t'
  |bl b=>cases rx;exact SeqAt.EqAt.str_bool a t' b
  |int b=>obtain⟨t,rfl⟩:=rx;exact L8 a t' b t
  |str b=>obtain⟨t,rfl⟩:=rx;exact SeqAt.EqAt.str_str a t' b t
  |_=>exact absurd (show false=true from fx) Al
 |_=>exact absurd (show false=true from fy) Al
noncomputable def RZ (x:V)(u:Ai):Bool:=match u with
 |.none=>Qu .non x
 |.bool b=>Qu (.bl b) x
 |.int i _=>Qu (.int i) x
 |.str z _=>Qu (.str z) x
 |_=>false
theorem pR (r:RelV y u)(f:Ha y=true):RZ x u=Qu y x:=by
 cases y with
 |non=>cases r;rfl
 |bl b=>cases r;rfl
 |int i=>obtain⟨t,rfl⟩:=r;rfl
 |str z=>obtain⟨t,rfl⟩:=r;rfl
 |_=>exact absurd (show false=true from f) Al
theorem iS :∀{xs:List V}{us:List Ai},BF xs us->xs.all Ha=true->us.any (RZ x)=xs.any λy=>Qu y x
 |_,_,.nil,_=>rfl
 |y::xs,u::us,.cons r t,f=>by
  rw[FZ,BI]at f;rw[Fs,Fs,pR r f.1,iS t f.2]
theorem jQ (rx:RelV x v)(fx:Ha x=true):∀{xs:List V}{us:List Ai},BF xs us->xs.all Ha=true->∀u∈us,Eo A s u v (RZ x u)
 |_,_,.nil,_=>λu hu=>by cases hu
 |y::xs,u::us,.cons r t,f=>λu' hu=>by
  rw[FZ,BI]at f;rcases A3.mp hu with rfl|hu
  .rw[pR r f.1];exact pQ r rx f.1 fx
  .exact jQ rx fx t f.2 u' hu
noncomputable def ZC (x:V)(xs:List V):Bool:=xs.any λy=>Qu y x
def xT (K:Ac)(neg:Bool):R2:=λx y H Q=>∃p xs,y=.ref p/\(FH K H p xs\/Lo K H p xs)/\Ha x=true/\xs.all Ha=true/\Q (.bl (if neg then !ZC x xs else ZC x xs)) H
theorem wz:F6 X (A7 .In) (xT X.K false):=by
 intro Ae s U H x y v u Q I rx ry;ext1⟨p,xs,e1',hq,fx,fs,q⟩;cases ry;rcases hq with hq|hq
 .obtain⟨Bk,r,pl,hz⟩:=I.list hq;refine QV (RZ x) pl.isList (λw hw=>jQ rx fx r fs w (by simpa using hw)) ⟨.bl _,H,I,rfl,?_⟩;rw[show Bk.toArray.any (RZ x)=Bk.any (RZ x) by simp,iS r fs];exact q
 .obtain⟨Bk,r,pl,hz⟩:=I.tuple hq;refine P2 (RZ x) pl (λw hw=>jQ rx fx r fs w (by simpa using hw)) ⟨.bl _,H,I,rfl,?_⟩;rw[show Bk.toArray.any (RZ x)=Bk.any (RZ x) by simp,iS r fs];exact q
theorem zu:E7 X (.builtin "len") (λxs H Q=>∃p ys,xs=[.ref p]/\(FH X.K H p ys\/Lo X.K H p ys)/\Q (.int ys.length) H):=by
 intro Ae s U H xs us Q I r h;obtain⟨p,ys,rfl,hq,q⟩:=h;obtain⟨u,rfl,rx⟩:=G8 r;cases rx;have hn:=Kq;rcases hq with hq|hq
 .obtain⟨Bk,r',pl,hz⟩:=I.list hq;have hlen:=r'.length;exact Calls.call_len_list pl.isList (by simp only[AV]<;>ext) ⟨.int ys.length,H,I.tok _,⟨s.toks+1,by rw[AV,hlen]⟩,q⟩
 .obtain⟨Bk,r',pl,hz⟩:=I.tuple hq;have hlen:=r'.length;exact len_tuple pl (by simp only[AV]<;>ext) ⟨.int ys.length,H,I.tok _,⟨s.toks+1,by rw[AV,hlen]⟩,q⟩
theorem zw:E7 X (.builtin "len") (λxs H Q=>∃z,xs=[.str z]/\z.length<=Am/\Q (.int z.length) H):=by
 intro Ae s U H xs us Q I r h;obtain⟨z,rfl,hz,q⟩:=h;obtain⟨u,rfl,t,rfl⟩:=G8 r;have hn:=Kq;exact len_str (by ext) ⟨.int z.length,H,I.tok _,⟨_,rfl⟩,q⟩
theorem zx:E7 X (.type "list") (λxs H Q=>∃p ys,xs=[.ref p]/\(FH X.K H p ys\/Lo X.K H p ys)/\∀l,H l=none->Q (.ref l) (CA H l (.lst ys))):=by
 intro Ae s U H xs us Q I r h;obtain⟨p,ys,rfl,hq,q⟩:=h;obtain⟨u,rfl,rx⟩:=G8 r;cases rx
 have fin:∀Bk,BF ys Bk->ys.length<=Am->∀h' c',(∀b o',s.heap.get? b=some o'->h'.get? b=some o') ->
   h'.get? s.heap.objs.size=some {cls:=.type "list",dict:=none,data:=.seq Bk.toArray c',slots:=#[]}->EP X Ae U Q (.ref s.heap.objs.size) {s with heap:=h' }:=λBk r' hz h' c' kp e=>
  ⟨.ref s.heap.objs.size,_,I.laid kp (AJ _) (show CW X.prog X.w _ h' _ (.lst ys)from⟨hz,Bk,c',r',e⟩),rfl,q _ (I.hok.fresh (AJ _))⟩
 rcases hq with hq|hq
 .obtain⟨Bk,r',pl,hz⟩:=I.list hq;have hlen:=r'.length;obtain⟨o,ho,hc,n,hd⟩:=pl.isList;exact call_list_seq p (.inl rfl) ho hc hd (λh' c' kp e=>fin Bk r' hz h' c' kp e) (by simp only[AV]<;>ext)
 .obtain⟨Bk,r',pl,hz⟩:=I.tuple hq;have hlen:=r'.length;obtain⟨o,ho,hc,n,hd⟩:=pl;exact call_list_seq p (.inr rfl) ho hc hd (λh' c' kp e=>fin Bk r' hz h' c' kp e) (by simp only[AV]<;>ext)
theorem Zg0:E7 X (.type "tuple") (λxs H Q=>∃p ys,xs=[.ref p]/\((FH X.K H p ys/\∀l,H l=none->Q (.ref l) (CA H l (.tup ys)))\/(Lo X.K H p ys/\Q (.ref p) H))):=by
 intro Ae s U H xs us Q I r h;obtain⟨p,ys,rfl,h⟩:=h;obtain⟨u,rfl,rx⟩:=G8 r;cases rx;rcases h with⟨hq,q⟩|⟨hq,q⟩
 .obtain⟨Bk,r',pl,hz⟩:=I.list hq;have hlen:=r'.length;refine call_tuple_list pl.isList (λh' kp=>?_) (by simp only[AV]<;>ext);have I1:A4 X Ae U H {s with heap:=h' }:=I.kept kp
  have I2:A4 X Ae U (CA H h'.objs.size (.tup ys)) {s with heap:=h'.push {cls:=.type "tuple",data:=.seq Bk.toArray} }:=
   I1.laid (λb o e=>Ag _ e) (AJ _) (show CW X.prog X.w _ _ _ (.tup ys)from⟨hz,Bk,r',LZ.new _ _⟩)
  exact⟨.ref h'.objs.size,_,I2,rfl,q _ (I1.hok.fresh (AJ _))⟩
 .obtain⟨Bk,r',pl,hz⟩:=I.tuple hq;exact call_tuple_same pl ⟨.ref p,H,I,rfl,q⟩
def Zq (K:Ac)(T:String)(x:V)(H:Hp):Prop:=match x with
 |.str _=>T = "str"
 |.int _=>T = "int"
 |.ref p=>(T = "list"/\∃xs,FH K H p xs)\/(T = "tuple"/\∃o,K.lookup p=some o/\o.cls=.type "tuple"/\o.dict=none) \/
   (T = "dict"/\((∃AQ,H p=some (.dK AQ))\/∃AQ,H p=some (.dT AQ)))\/(T = "set"/\∃S n,H p=some (.set S n))
 |_=>False
theorem pY (I:A4 X Ae U H s)(r:RelV x v)(ty:Zq X.K T x H) :
  s.TypeIs v T/\∀a,v=.ref a->∃ob,s.heap.get? a=some ob/\ob.dict=none:=by
 cases x with
 |str z=>obtain⟨t,rfl⟩:=r;cases(show T = "str" from ty);exact⟨Nk s z t,λ_ e=>nomatch e⟩
 |int i=>obtain⟨t,rfl⟩:=r;cases(show T = "int" from ty);exact⟨typeIs_int s i t,λ_ e=>nomatch e⟩
 |ref p=>
  cases r;rcases ty with⟨rfl,xs,hq⟩|⟨rfl,o,hk,hc,hd⟩|⟨rfl,hk⟩|⟨rfl,S,n,hk⟩
  .obtain⟨Bk,_,pl,_⟩:=I.list hq;refine⟨pl.isList.typeIs,λa e=>?_⟩;cases e;obtain⟨o,n,e,c,hd,_⟩:=pl;exact⟨o,e,hd⟩
  .refine⟨⟨o,I.kIn p o hk,hc⟩,λa e=>?_⟩;cases e;exact⟨o,I.kIn _ o hk,hd⟩
  .have z:∃o,s.heap.get? p=some o/\o.ExactDict:=by
    rcases hk with⟨AQ,hk⟩|⟨AQ,hk⟩
    .obtain⟨_,_,_,_,o,_,_,e,ex,_⟩:=I.hok p _ hk;exact⟨o,e,ex⟩
    .obtain⟨_,_,_,_,o,_,_,e,ex,_⟩:=I.hok p _ hk;exact⟨o,e,ex⟩
   obtain⟨o,e,ex⟩:=z;refine⟨⟨o,e,ex.1⟩,λa e2=>?_⟩;cases e2;exact⟨o,e,ex.2.1⟩
  .obtain⟨o,_,_,_,e,ex,_⟩:=I.hok p _ hk;refine⟨⟨o,e,ex.1⟩,λa e2=>?_⟩;cases e2;exact⟨o,e,ex.2.1⟩
 |_=>exact C5 ty
def dG (K:Ac)(T:String)(r:V->List V->Hp->VK->Prop)(to:TE):TE:=λU H Q=>to U H λx H1=>Zq K T x H1/\r x [] H1 Q
def xR (K:Ac)(T:String)(r:V->List V->Hp->VK->Prop)(to:TE)(t:TA):TE:=λU H Q=>to U H λx H1=>Zq K T x H1/\t U H1 λxs H2=>r x xs H2 Q
variable {o e:Ca}{es:List Ca}{to:TE}{t:TA}{name:Str}{apos cpos:Pos}{T id:String}{r:V->List V->Hp->VK->Prop}
theorem iu (pa:Ny T)(slot:cM T name id)(hty:Tq (.builtin id)=pure (.type "method_descriptor"))(hm:Nh X id r)(ho:PE X o to)
  (hbase:CF o name X.env (eval o X.env)=eval o X.env:=by rfl) (hline:(apos.endLine == cpos.line)=true:=by rfl):PE X (.Call (.Attribute o name apos) [] [] cpos) (dG X.K T r to):=by
 intro Ae s U H Q I h;refine wpAny_Call_method0_late hbase hline (Dp (ho Ae s U H _ I h) λv s1 e=>e.el λx H1 I1 r1 ⟨ty,q1⟩=>?_);obtain⟨h1,h2⟩:=pY I1 r1 ty;exact⟨T,id,pa,slot,hty,h1,h2,Hg rfl (PySem.evalArgs_none (hm Ae s1 U H1 x [] v [] Q I1 r1 .nil q1))⟩
theorem nV (pa:Ny T)(slot:cM T name id)(hty:Tq (.builtin id)=pure (.type "method_descriptor"))(hm:Nh X id r)(ho:PE X o to)(ha:PA X (e::es) t)
  (hbase:CF o name X.env (eval o X.env)=eval o X.env:=by rfl)
  (hfew:((Cc cpos (As (e::es) X.env)).all (λx=>!x.1) && (Fq cpos (DC [] X.env)).all (λx=>x.1.isSome)
   && decide ((e::es).length+([]:List E5).length+(if ([]:List E5).isEmpty then 0 else 1)<30))=true:=by rfl)
  (hline:(apos.endLine == cpos.line)=true:=by rfl) (hs:As (e::es) X.env=(false,eval e X.env)::As es X.env:=by rfl) (hplain:(Cc cpos (As es X.env)).any (·.1)=false:=by rfl) :
  PE X (.Call (.Attribute o name apos) (e::es) [] cpos) (xR X.K T r to t):=by
 intro Ae s U H Q I h;refine PQ hbase hfew hline rfl (Dp (ho Ae s U H _ I h) λv s1 e=>e.el λx H1 I1 r1 ⟨ty,q1⟩=>?_);obtain⟨h1,h2⟩:=pY I1 r1 ty;refine⟨T,id,pa,slot,hty,h1,h2,?_⟩;have hA:=ha cpos Ae s1 U H1 _ I1 q1;rw[hs]at hA ⊢;refine Hg (by show(false || (Cc cpos (As es X.env)).any (·.1))=false;rw[hplain]<;>rfl) (NE ?_);exact Dp hA λus s2 e=>e.el λvs H2 I2 r2 q2=>hm Ae s2 U H2 x vs v us Q I2 r1 r2 q2
end
def YK (X:Cx)(id:String)(r:V->List V->Hp->VK->Prop):Prop:=
 ∀(Ae:List (Av×Obj)) (s:Ar) (U:St) (H:Hp) (x:V) (xs:List V) (v:Ai) (us:List Ai) (Q:VK),A4 X Ae U H s->RelV x v->BF xs us->r x xs H Q ->
  Au (AA X.prog X.w) X.A (Ir (.builtin id) (v::us)) (EP X Ae U Q) X.xe s
theorem BF.one:∀{x:V}{us:List Ai},BF [x] us->∃u,us=[u]/\RelV x u
 |_,_,h=>by
  cases h with | cons r t=>cases t;exact⟨_,rfl,r⟩
theorem BF.zero:∀{us:List Ai},BF [] us->us=[]
 |_,.nil=>rfl
theorem BF.dropLast {xs:List V}{us:List Ai}(h:BF xs us):BF xs.dropLast us.dropLast:=by
 induction h with
 |nil=>exact .nil
 |cons r t ih=>
  cases t with
  |nil=>exact .nil
  |cons q t'=>exact .cons r ih
theorem BF.eraseIdx:∀{xs:List V}{us:List Ai}(i:Nat),BF xs us->BF (xs.eraseIdx i) (us.eraseIdx i)
 |_,_,_,.nil=>.nil
 |_,_,0,.cons _ t=>t
 |_,_,i+1,.cons r t=>.cons r (BF.eraseIdx i t)
theorem BF.reverse {xs:List V}{us:List Ai}(h:BF xs us):BF xs.reverse us.reverse:=by
 induction h with
 |nil=>exact .nil
 |cons r t ih=>rw[Gw,Gw];exact BF.append ih (.cons r .nil)
theorem yg {α:Type}(l:List α):l.eraseIdx (l.length-1)=l.dropLast:=by
 induction l with
 |nil=>rfl
 |cons a r ih=>
  cases r with
  |nil=>rfl
  |cons b r=>
   have e:(a::b::r).length-1=((b::r).length-1)+1:=by
    have h1:(a::b::r).length=r.length+2:=rfl;have h2:(b::r).length=r.length+1:=rfl;ext
   rw[e,List.eraseIdx_cons_succ,ih]
   all_goals rfl
theorem uB {α:Type}:∀(l:List α) (i:Nat),(l.eraseIdx i).length<=l.length
 |[],_=>AJ _
 |_::_,0=>JD _
 |_::r,i+1=>Nat.succ_le_succ (uB r i)
section
theorem A4.lset {Bk its':List Ai}{n:Nat}{f:Array Ai->Array Ai}{t':Nat}(I:A4 X Ae U H s)(hH:H l=some (.lst xs))
  (e:s.heap.get? l=some {cls:=.type "list",data:=.seq Bk.toArray n}) (hf:f Bk.toArray=its'.toArray) (hv:BF ys its') (hz:ys.length<=Am) :
  A4 X Ae U (CA H l (.lst ys)) {s with heap:=s.heap.update l (Hw f),toks:=t' }:=by
 have q:=PySem.IsL.update e f;rw[hf]at q;refine I.write (by rw[hH];exact trivial) (.inl rfl) (λb' u hb hu=>(Ba s.heap (Hw f) (Bj hb)).trans hu) ⟨_,q⟩ ?_;exact⟨hz,its',_,hv,q⟩
theorem A4.lnew (I:A4 X Ae U H s)(hv:BF ys Bk)(hz:ys.length<=Am) :
  A4 X Ae U (CA H s.heap.objs.size (.lst ys)) {s with heap:=s.heap.push {cls:=.type "list",data:=.seq Bk.toArray},toks:=t' }:=
 I.laid (λ_ _ q=>Ag _ q) (AJ _) ⟨hz,Bk,0,hv,AB _ rfl⟩
theorem A4.fresh (I:A4 X Ae U H s):H s.heap.objs.size=none:=I.hok.fresh (AJ _)
theorem A4.lstM (I:A4 X Ae U H s)(hH:H l=some (.lst xs)):xs.length<=Am/\∃(Bk:List Ai) (n:Nat),BF xs Bk/\xs.length=Bk.length/\s.heap.get? l=some {cls:=.type "list",data:=.seq Bk.toArray n}:=by
 obtain⟨z,Bk,n,r,e⟩:=I.hok l _ hH;exact⟨z,Bk,n,r,r.length,e⟩
theorem Qq {n:Nat}(h:n<=Am):JK n=false:=by
 unfold JK;exact decide_eq_false (by ext)
end
section
variable {X:Cx}
def RN:V->List V->Hp->VK->Prop:=λx vs H Q=>∃l xs y,x=.ref l/\vs=[y]/\H l=some (.lst xs)/\xs.length<Am/\Q .non (CA H l (.lst (xs++[y])))
theorem wu:YK X "list.append" RN:=by
 intro Ae s U H x vs v us Q I rx rv;ext1⟨l,xs,y,e1',e2',hH,hz,q⟩;cases rx;obtain⟨u,rfl,ru⟩:=rv.one;obtain⟨z,Bk,n,r,hl,e⟩:=I.lstM hH;refine Iq F.slot_list_append ⟨_,e,rfl⟩ F.entry_list_append (F.args_list_append_2 _ _) (PySem.list_append l Bk.toArray n u (by rw[AV];ext)) ⟨e,?_⟩;refine⟨.non,_,I.lset hH e (by simp) (r.append (.cons ru .nil)) ?_,rfl,q⟩;rw[Aq,ES];ext
def fS:V->List V->Hp->VK->Prop:=λx vs H Q=>∃l xs y,x=.ref l/\vs=[]/\H l=some (.lst xs)/\xs[xs.length-1]? = some y/\Q y (CA H l (.lst xs.dropLast))
theorem ff:YK X "list.pop" fS:=by
 intro Ae s U H x vs v us Q I rx rv;ext1⟨l,xs,y,e1',e2',hH,hy,q⟩;cases rx;have hus:=rv.zero;subst hus;obtain⟨z,Bk,n,r,hl,e⟩:=I.lstM hH;obtain⟨u,hu,ru⟩:=r.get hy
 have hy':Bk.toArray[Bk.toArray.size-1]? = some u:=by
  show Bk.toArray[Bk.length-1]? = some u;rw[<- C2,<- hl];exact hu
 refine Iq F.slot_list_pop ⟨_,e,rfl⟩ F.entry_list_pop (F.args_list_pop_1 _) (MeetsSeq.list_pop_last l Bk.toArray n u hy' (by rw[AV];ext)) ⟨e,?_⟩;refine⟨y,_,I.lset hH e ?_ r.dropLast ?_,ru,q⟩
 .show Bk.toArray.eraseIdxIfInBounds (Bk.toArray.size-1)=Bk.dropLast.toArray;rw[AV,JU,yg]
 .rw[List.length_dropLast];ext
def T2:V->List V->Hp->VK->Prop:=λx vs H Q=>∃l xs i k y,x=.ref l/\vs=[.int i]/\H l=some (.lst xs)/\-(2^63)<=i/\i<2^63/\Wg i xs.length=some k/\xs[k]? = some y/\Q y (CA H l (.lst (xs.eraseIdx k)))
theorem ud:YK X "list.pop" T2:=by
 intro Ae s U H x vs v us Q I rx rv;ext1⟨l,xs,i,k,y,e1',e2',hH,h1,h2,hk,hy,q⟩;cases rx;obtain⟨u,rfl,ru⟩:=rv.one;obtain⟨t,rfl⟩:=ru;obtain⟨z,Bk,n,r,hl,e⟩:=I.lstM hH;obtain⟨w,hw,rw'⟩:=r.get hy
 refine Iq F.slot_list_pop ⟨_,e,rfl⟩ F.entry_list_pop (F.args_list_pop_2 _ _)
  (MeetsSeq.list_pop_at l Bk.toArray n i t k w (fitsIndex_both h1 h2) (by rw[AV,<- hl];exact hk) (by rw[<- C2];exact hw) (by rw[AV];ext)) ⟨e,?_⟩
 refine⟨y,_,I.lset hH e ?_ (r.eraseIdx k) ?_,rw',q⟩
 .show Bk.toArray.eraseIdxIfInBounds k=(Bk.eraseIdx k).toArray;rw[JU]
 .have:=uB xs k;ext
def Qj:V->List V->Hp->VK->Prop:=λx vs H Q=>∃l xs,x=.ref l/\vs=[]/\H l=some (.lst xs)/\Q .non (CA H l (.lst xs.reverse))
theorem yw:YK X "list.reverse" Qj:=by
 intro Ae s U H x vs v us Q I rx rv h;obtain⟨l,xs,rfl,rfl,hH,q⟩:=h;cases rx;have hus:=rv.zero;subst hus;obtain⟨z,Bk,n,r,hl,e⟩:=I.lstM hH;refine Iq F.slot_list_reverse ⟨_,e,rfl⟩ F.entry_list_reverse (F.args_list_reverse_1 _) (AutoSeq1.list_reverse_list_0 l Bk.toArray n (by rw[AV];ext)) ⟨e,?_⟩;refine⟨.non,_,I.lset hH e (by simp) r.reverse ?_,rfl,q⟩;rw[OP];ext
end
section
end
section
end
end L2
namespace Att
open PySem PySem.W PySem.Calls PyProof.Rows
theorem ZdR :∀ns vs,WellAll P h vs (ns.map YU)->P8 vs ns:=by
 intro ns;induction ns with
 |nil=>intro vs w;rw[Dr]at w;cases w;exact .nil
 |cons n ns ih=>
  intro vs w;rw[AR]at w;cases w with
  |cons a b=>cases a;exact .cons _ _ (ih _ b)
theorem wa {l:OpenLaw}(hn:l.most=some n)
  (hpre:l.row.toRowW.claim.pre args=true) (hwl:WellAll P h WJ args) :
  ∃a vs ns,WJ=[AC a]/\args=[WData.list (ns.map YU)]/\h.get? a=some {cls:=.type "list",data:=.seq vs.toArray}/\P8 vs ns/\ns.length<=n:=by
 have hsh:=(pre_splitW hpre).1;have hc:l.pre.holds [] {args:=args}=true:=(pre_splitW hpre).2;obtain⟨d,r,rfl,h1,h2⟩:=hasAllW_cons hsh;obtain rfl:=hasAllW_nil h2;obtain⟨xs,rfl,h3⟩:=hasW_list h1;obtain⟨ns,rfl⟩:=items_int h3
 have hlen:ns.length<=n:=by
  unfold OpenLaw.pre at hc
  have h4:(WTm.not (.lt (.lit (.int (n:Int))) (.len (.arg 0)))).holds [] {args:=[.list (ns.map .int)]}=true:=by
   have h4:=(holds_andW hc).1;rw[hn]at h4;exact h4
  have h5:=condW_of h4 (w_not (w_lt w_lit (w_len_list (w_arg rfl))));rw[Ab]at h5;refine Nat.le_of_not_lt λq=>?_;have q':(n:Int)<((ns.length:Nat):Int):=by ext
  first
   |(rw[decide_eq_true q']at h5;exact absurd h5 (by decide))
   |(simp at h5;ext)
 cases hwl with
 |cons w1 w2=>
  cases w2;cases w1 with
  |list ho hall=>exact⟨_,_,ns,rfl,rfl,ho,ZdR ns _ hall,hlen⟩
theorem xc (l:OpenLaw)(args:List WData):l.row.toRowW.claim.post args (.bool true) args=true:=
 postW_of
  (show Vd [] (.bool true) .bool=true by first | rfl | decide | simp[Vd,WShape.arms,WShape.armsAll])
  (show(WTm.eq .res (.lit (.bool true))).value [] {args:=args,res:=some (.bool true),after:=args}=some (.bool (true == true))from w_eq_bool (w_res rfl) w_lit) rfl
theorem attach_call {l:OpenLaw}
  (hn:l.most=some n) (hdf:d.params.defaults=[])
  (Ir:∀ w s₀ s₁ mg mb fa o pm cd doc a vs ns,
   Ground q loose [] XP w s₀ mg mb s₁.heap->YP w s₁.heap ->
   s₁.heap.get? fa=some o->o.data=.func (docDef d.name d.params d.body d.scope pm cd doc)->s₁.heap.CodeRec cd d.name->mg d.name=some (.ref fa) ->
   s₁.heap.get? a=some {cls:=.type "list",data:=.seq vs.toArray}->P8 vs ns->ns.length<=n->s₁.gens=#[] ->
   DU (AA l.prog w) JG (.call (.ref fa) ⟨[.ref a],[]⟩) (λr s'=>r=.ok (.ret (.bool true))/\OldK s₁.heap s'.heap/\s'.os=s₁.os/\Iw s'.gens) s₁) :
  WalkO q loose XP YP l.row.toRowW d [] (λf vs=>OJ f vs):=by
 intro w s₀ s₁ mg mb G Y fa o pm cd doc dV kV ho hd hcd hD hmg hg args WJ as hpre hlay hrd hwl hlo;obtain rfl:dV=.none:=Dflts.none hD hdf;obtain rfl:kV=.none:=Dflts.noKw hD;obtain⟨a,vs,ns,e1',e2',hobj,hints,hlen⟩:_:=wa hn hpre hwl;refine enter_call (Gz (Ir w s₀ s₁ mg mb fa o pm cd doc a vs ns G Y ho (fd_plain hd) hcd hmg hobj hints hlen hg) λr s' hq=>?_);obtain⟨rfl,h2,h3,h4⟩:=hq;exact⟨.inl ⟨.bool true,.bool true,[],rfl,λ_=>rfl,.bool true,xc l _,λ_=>⟨Ww,λ_ hm=>(nomatch hm)⟩⟩,h2,h3,h4⟩
section
variable      {K:WE}
end
end Att
namespace L2
open PySem PySem.Spec PyProof.Rows
theorem uO:∀{vs:List Ai}{ns:List Int},P8 vs ns->BF (ns.map V.int) vs
 |_,_,.nil=>.nil
 |_,_,.cons n t h=>.cons ⟨t,rfl⟩ (uO h)
def UO (H:Hp):Prop:=∀b,H b=none\/∃o xs,H b=some (.frz o (.lst xs))
theorem ub {K:Ac}
  (KX:K.In s₁.heap) (hns:s₁.heap.Ns BW mg) (hb:s₁.heap.Ns Tw mb) (hbb:∀x:Str,x≠"__name__"->mb x=DD x) (hlim:s₁.heap.NoLimit) (hg:s₁.gens=#[])
  (ha:s₁.heap.get? a=some {cls:=.type "list",data:=.seq vs.toArray}) (hi:P8 vs ns) (hl:ns.length<=Am) (hr:Dy k JG)
  (F:∀base:CV,K.In base->base.Ns BW mg->FnOk P w K mg base CX k fa fd [x] sp) (hbind:∀(s:Ar) (u:Ai),MY s fd ⟨[u],[]⟩ [(x,u)])
  (hsp:∀H:Hp,UO H->FH K H a (ns.map V.int)->sp [.ref a] H (λv _=>v=.bl true) λ_ _ _=>False)
  (hCX:∀H e s',CX [] H s₁ (λ_ _ _=>False) e s'->False) :
  DU (AA P w) JG (.call (.ref fa) ⟨[.ref a],[]⟩) (λr s'=>r=.ok (.ret (.bool true))/\OldK s₁.heap s'.heap/\s'.os=s₁.os/\Iw s'.gens) s₁:=by
 have rv:=uO hi;have lenV:=hi.length
 have core:∀H:Hp,UO H->FH K H a (ns.map V.int)->Ik P w H s₁.heap->(∀b,H b≠none->b=a)->(H a≠none->K.lookup a=none) ->
   DU (AA P w) JG (.call (.ref fa) ⟨[.ref a],[]⟩) (λr s'=>r=.ok (.ret (.bool true))/\OldK s₁.heap s'.heap/\s'.os=s₁.os/\Iw s'.gens) s₁:=by
  intro H hO hS hok hA hK;have base_of:∀{b:Av} {o:Obj},s₁.heap.get? b=some o->H b=none->(LQ s₁.heap H).get? b=some o:=λe n=>t6 e n
  have noA:∀{b:Av} {o:Obj} {es:Array HZ} {ep:Nat},s₁.heap.get? b=some o->o.data=.dict es ep->H b=none:=λ{b o es ep} e d=>by
   cases q:H b with
   |none=>rfl
   |some u=>have e':=hA b (by rw[q];simp);subst e';rw[ha]at e;cases e;have d':=d;cases d'
  have nsK:∀{b:Av} {m:Str->Option Ai},s₁.heap.Ns b m->(LQ s₁.heap H).Ns b m:=λ{b m} ⟨o,es,ep,e,d,r⟩=>⟨o,es,ep,base_of e (noA e d),d,r⟩
  have hKb:K.In (LQ s₁.heap H):=λb o e=>base_of (KX b o e) (by
   cases q:H b with
   |none=>rfl
   | some u=>have e':=hA b (by rw [q];simp);subst e';rw [hK (by rw [q];simp)] at e;cases e)
  have hM:Mod K mg (LQ s₁.heap H):=⟨hKb,nsK hns,⟨mb,nsK hb,hbb⟩,let ⟨mc,h1,h2⟩:=hlim;⟨mc,nsK h1,h2⟩⟩;have e0:N9 P w K mg (LQ s₁.heap H) JG [] s₁ H:=⟨rfl,hM,λb o e=>ou e,Wu (ux _ _),trivial,λb hb=>absurd (show b∈([]:List Av)from hb) (by simp),hok,.of_eq hg⟩;refine Gz ((F _ hKb (nsK hns)).run JG [] s₁ H ⟨[.ref a],[]⟩ [.ref a] [.ref a] _ _ hr e0 (hbind s₁ (.ref a)) (.cons rfl .nil) (hsp H hO hS)) λr s' h=>?_;cases r with
  |error e=>exact(hCX H e s' h).elim
  |ok fl=>
   cases fl with
   |next=>exact C5 h
   |brk=>exact C5 h
   |cont=>exact C5 h
   |ret u=>
    obtain⟨v,H',os,bare,un,hok',r',q⟩:_:=h;have q':=q;subst q';obtain rfl:u=IS true:=r';refine⟨rfl,OldK.of_keep λb o e=>?_,os,bare⟩;cases q:H b with
    |none=>exact un.keep b o e q (by intro z;exact absurd (show b∈([]:List Av)from z) (by simp)) (by simp)
    |some u=>
     rcases hO b with z|⟨ob,xs,z⟩
     .rw[q]at z;cases z
     .have z2:=un.frzs b ob _ z;obtain⟨e1,_⟩:=hok b _ z;obtain⟨e2,_⟩:=hok' b _ z2;rw[e]at e1;cases e1;exact e2
 cases hk:K.lookup a with
 |some o=>have e:=KX a o hk;rw[ha]at e;cases e;refine core (λ_=>none) (λ_=>.inl rfl) (.inr ⟨_,vs.toArray,_,hk,rfl,rfl,rfl,by rw[AV,lenV];exact hl,by simpa using rv⟩) (λb u z=>by have z':(none:Option HO)=some u:=z;cases z') (λb z=>absurd rfl z) λz=>absurd rfl z
 |none=>
  refine core (λb=>if b=a then some (.frz {cls:=.type "list",data:=.seq vs.toArray} (.lst (ns.map V.int)))else none) (λb=>?_) (.inl (.inr ⟨{cls:=.type "list",data:=.seq vs.toArray},if_pos rfl⟩)) (λb u z=>?_) (λb z=>?_) λ_=>hk
  .by_cases hb:b=a
   .exact .inr ⟨_,_,if_pos hb⟩
   .exact .inl (if_neg hb)
  .by_cases hb:b=a
   .have z':=(if_pos hb).symm.trans z;cases z';subst hb;exact⟨ha,by rw[Ab];exact hl,vs,_,rv,ha⟩
   .have z':=(if_neg hb).symm.trans z;cases z'
  .by_cases hb:b=a
   .exact hb
   .exact absurd (if_neg hb) z
theorem walk_of {l:Pk}{n k:Nat}{q:Bq}{loose:List Str}{XP:(Str->Option Ai)->CV->Prop}{YP:BM->CV->Prop}{d:DefRec}{K:Kh->Ac}{CX:BM->V9}{sp:BM->Sp}{x:Str}
  (hn:l.most=some n) (hn2:n<=Am) (hdf:d.params.defaults=[]) (hr:Dy k JG)
  (hY:∀w h,YP w h->(K w.params).In h)
  (F:∀ w mg fa h,(K w.params).In h->h.Ns BW mg->mg d.name=some (.ref fa) ->
   ∃fd,(∀s u,MY s fd ⟨[u],[]⟩ [(x,u)]) /\
    ∀ base,(K w.params).In base->base.Ns BW mg->FnOk l.prog w (K w.params) mg base (CX w) k fa fd [x] (sp w))
  (hsp:∀w H a (ns:List Int),ns.length<=n->UO H->FH (K w.params) H a (ns.map V.int)->sp w [.ref a] H (λv _=>v=.bl true) λ_ _ _=>False)
  (hCX:∀(w:BM) (H:Hp) (s:Ar) (e:Ai) (s':Ar),CX w [] H s (λ_ _ _=>False) e s'->False) :
  QW q loose XP YP l.row.toRowW d [] (λf vs=>OJ f vs):=by
 refine Att.attach_call hn hdf λw s₀ s₁ mg mb fa o pm cd doc a vs ns G Y ho hd hcd hmg hobj hints hlen hg=>?_;have KX:=hY w _ Y;obtain⟨fd,hb,hF⟩:=F w mg fa _ KX G.T.g hmg;exact ub KX G.T.g G.T.b G.T.builtins G.T.nolimit hg hobj hints (AZ hlen hn2) hr hF hb (λH hO hS=>hsp w H a ns hlen hO hS) λH e s'=>hCX w H s₁ e s'
noncomputable def R3 (s:DG):Arguments:=match s with
 |.FunctionDef _ a _ _ _ _ _ _ _ _=>a
 |_=>{posonlyargs:=[],args:=[],vararg:=none,kwonlyargs:=[],kw_defaults:=[],kwarg:=none,defaults:=[]}
noncomputable def NZ (s:DG):List DG:=match s with
 |.FunctionDef _ _ b _ _ _ _ _ _ _=>b
 |_=>[]
noncomputable def IP (s:DG):K2:=match s with
 |.FunctionDef _ _ _ _ _ _ sc _ _ _=>sc
 |_=>{kind:=.function,names:=[],isGenerator:=false,isCoroutine:=false}
abbrev CX0:V9:=λ_ _ _ _ _ _=>False
abbrev E0:XK:=λ_ _ _=>False
theorem Oz :IG CX0 X E0:=λ_ _ _ _ _ _ _ h=>h.elim
structure CI (K:Ac)(x qual:Str)(st:DG)(f:Av)(fd:DH):Prop where
 ex:∃(oc:Ai) (od:Option Av) (kV doc pm:Ai) (an:Option Av) (cdv ct:Ai) (osl:Array (Option Ai)),
  fd=Fy x qual (R3 st) (NZ st) (IP st) .none kV doc pm an cdv ct/\K.lookup f=some ⟨oc,od,.func fd,osl⟩/\Kg K cdv qual=true
 kp:FL K (.ref f)=true
section
variable   {K:Ac}
theorem CI.ok {st:DG}(F:CI K x qual st f fd)(S:Fe N ps (IP st))(len:∀vs H Q E,sp vs H Q E->vs.length=ps.length)
  (hbody:∀ cdv A outer s H vs Q E,Dy k (A.deeper (FJ qual (IP st) s.heap.objs.size f cdv))->sp vs H Q E ->
   ∃ t,KL (J0 CX0 P w K mg base N qual (IP st) f cdv A outer s H E).nox (NZ st) t/\t { nx:=λ_ H'=>Q .non H',rt:=Q } (start N vs) H):FnOk P w K mg base CX0 (k+1) f fd ps sp:=by
 obtain⟨oc,od,kV,doc,pm,an,cdv,ct,osl,rfl,lk,hcd⟩:=F.ex;refine yI lk hcd S len λA outer s H vs Q E hr hsp=>?_;obtain⟨t,h,q⟩:=hbody cdv A outer s H vs Q E hr hsp;exact⟨t,h.nox,q⟩
theorem CI.binds {st:DG}(F:CI K x qual st f fd)
  (h:∀kV doc pm an cdv ct us,us.length=ps.length->En (Fy x qual (R3 st) (NZ st) (IP st) .none kV doc pm an cdv ct) ⟨us,[]⟩=pure (ps.zip us)):HG K fd ps []:=by
 obtain⟨oc,od,kV,doc,pm,an,cdv,ct,osl,rfl,lk,hcd⟩:=F.ex;exact .all (h kV doc pm an cdv ct)
theorem fun_mk {x qual:Str}{st:DG}{f:Av}{oc:Ai}{od an:Option Av}{osl:Array (Option Ai)}{kV doc pm cdv ct:Ai}(l:K.lookup f=some ⟨oc,od,.func (Fy x qual (R3 st) (NZ st) (IP st) .none kV doc pm an cdv ct),osl⟩)
  (c:Kg K cdv qual=true) (k:FL K (.ref f)=true):CI K x qual st f (Fy x qual (R3 st) (NZ st) (IP st) .none kV doc pm an cdv ct):=⟨⟨oc,od,kV,doc,pm,an,cdv,ct,osl,rfl,l,c⟩,k⟩
end
theorem J2 (hr:Dy k A):A.units+1<C9:=Fm (IV (by decide:1<=64) _) hr.units
theorem BU (h:n<=1000):n<Am:=Fm h (by decide)
section
theorem pv (i:Nat)(hN:X.N[i]? = some x:=by rfl)(hv:YE X.env.scope x:=by first | exact BX rfl | exact G4 (BX rfl) | exact G4 (G4 rfl))(hd:(x == ("__debug__":Str))=false:=by decide)
  (hcd:(x == ("__classdict__":Str))=false:=by decide):PE X (.Name x pos) (RJ i):=oV hN hv hd hcd
end
theorem Cz {c A B:Prop}[Decidable c](h1:c->A)(h2:¬c->B):if c then A else B:=by
 by_cases h:c
 .rw[if_pos h];exact h1 h
 .rw[if_neg h];exact h2 h
theorem t7 (K)(c):Dx K (.type c) (.type c)=some true:=by
 unfold Dx;rw[if_pos (beq_self_eq_true _)]
theorem mj :Nh X "int.bit_length" (λx xs H Q=>∃i,x=.int i/\xs=[]/\Q (.int (Ej i)) H):=by
 intro Ae s U H x xs v us Q I rx r h;obtain⟨i,rfl,rfl,q⟩:=h;obtain⟨t,rfl⟩:=(show∃t,v=DE i t from rx);cases r;exact Zd ⟨.int _,H,I.tok _,⟨_,rfl⟩,q⟩
theorem A4.track (I:A4 X Ae U H s)(f:Ji X Ae H D)
  (new:CW X.prog X.w (CA H D o) s.heap D o):A4 X Ae U (CA H D o) s:=by
 obtain⟨hn,h2,_,h1,h3,h4⟩:=f;have hu:∀b u,H b=some u->CA H D o b=some u:=λb u e=>by rw[HL (V5 e hn)];exact e
 have hok:Ik X.prog X.w (CA H D o) s.heap:=λb u e=>by
  by_cases hb:b=D
  .subst hb;rw[Mn]at e;cases e;exact new
  .rw[HL hb]at e;exact(I.hok b u e).stay (λ_ _ _ q=>q) (λc q=>hu c _ q) λc xs q=>hu c _ q
 exact I.step (ch:=[D])
  (λb hb=>by
   have e:b=D:=by simpa using hb
   subst e;exact ⟨h1,h2,h3,h4⟩)
  (λb o' _ _ _ e _=>e) (λb o' _ _ _ e _=>⟨o'.slots,e⟩)
  (λb o' hb e n=>by rw[HL (λz=>hb (by simp[z]))];exact n)
  (λb o' _ e=>⟨o',e⟩) (λb xs e=>hu b _ e) (λb o' u e=>hu b _ e) (λb ps e=>⟨#[],by rw[hu b _ e];simp⟩) (λm hm=>hm) hok I.bare
theorem uW {α β:Type}{f:α->β->Sem (ForInStep β)}(g:α->β->β):∀(l:List α) (c:β),(∀x∈l,∀c,f x c=pure (.yield (g x c)))->forIn l c f=pure (l.foldl (λc x=>g x c) c)
 |[],c,_=>rfl
 |x::l,c,h=>by
  rw[GV,h x AF,pure_bind];exact uW g l (g x c) λy hy=>h y (AE _ hy)
noncomputable def Jg (env:Env)(y:Str×Fu)(c:List (Str×Av)):List (Str×Av):=if (y.2 == .free)=true then(y.1,(env.cells.lookup y.1).getD 0)::c else c
noncomputable def Ey (env:Env)(l:List (Str×Fu))(c:List (Str×Av)):List (Str×Av):=l.foldl (λc y=>Jg env y c) c
theorem kW {scope:K2}{env:Env}(h:∀y∈scope.names,y.2=.free->∃c,env.cells.lookup y.1=some c):closureFor scope env=pure (Ey env scope.names []):=by
 simp only[closureFor]
 rw [uW (Jg env) scope.names [] (λx hx c=>by
  obtain⟨n,k⟩:=x;by_cases hk:k=.free
  .subst hk;obtain⟨a,ha⟩:=h _ hx rfl;simp[Jg,cellOf,ha]
  .have:(k == B6)=false:=by simpa using hk
   simp [Jg,this])]
 rfl
theorem lookup_mem :∀{l:List (Str×α)},l.lookup x=some k->(x,k)∈l
 |[],h=>by simp at h
 |(n,a)::r,h=>by
  rw[Bs]at h;cases e:x == n with
  |true=>
   rw[e]at h;have e':x=n:=by simpa using e
   have h':a=k:=by simpa using h
   rw[e',h'];exact AF
  |false=>rw[e]at h;exact AE _ (lookup_mem (by simpa using h))
theorem UF :∀(l:List (Str×Fu)) (acc:List (Str×Av)),(∀y∈l,y.2=.free->∃c,env.cells.lookup y.1=some c) ->
  (∀x c,acc.lookup x=some c->env.cells.lookup x=some c)->∀x c,(Ey env l acc).lookup x=some c->env.cells.lookup x=some c
 |[],acc,_,ha,x,c,e=>ha x c e
 |(n,k)::l,acc,h,ha,x,c,e=>by
  refine UF l (Jg env (n,k) acc) (λy hy=>h y (AE _ hy)) (λx c e=>?_) x c e;by_cases hk:k=.free
  .subst hk;obtain⟨a,hb⟩:=h (n,.free) AF rfl;have z:Jg env (n,B6) acc=(n,a)::acc:=by simp[Jg,hb]
   rw[z,Bs]at e;cases q:x == n with
   |true=>
    rw[q]at e;have q':x=n:=by simpa using q
    have e':a=c:=by simpa using e
    rw[q',<- e'];exact hb
   |false=>rw[q]at e;exact ha x c (by simpa using e)
  .have:(k == B6)=false:=by simpa using hk
   have z:Jg env (n,k) acc=acc:=by simp[Jg,this]
   rw[z]at e;exact ha x c e
theorem iV :∀(l:List (Str×Fu)) (acc:List (Str×Av)),((∃c,acc.lookup x=some c)\/(x,B6)∈l)->∃c,(Ey env l acc).lookup x=some c
 |[],acc,h=>by
  rcases h with h|h
  .exact h
  .cases h
 |(n,k)::l,acc,h=>by
  refine iV l (Jg env (n,k) acc) ?_;by_cases hk:k=.free
  .subst hk;have z:Jg env (n,B6) acc=(n,(env.cells.lookup n).getD 0)::acc:=by simp[Jg]
   cases q:x == n with
   |true=>exact .inl ⟨_,by rw[z,Bs,q]⟩
   |false=>
    rcases h with⟨c,h⟩|h
    .exact .inl ⟨c,by rw[z,Bs,q];exact h⟩
    .rcases A3.mp h with e|h
     .have e':=(Sr e).1;rw[e']at q;simp at q
     .exact .inr h
  .have:(k == B6)=false:=by simpa using hk
   have z:Jg env (n,k) acc=acc:=by simp[Jg,this]
   rw[z];rcases h with h|h
   .exact .inl h
   .rcases A3.mp h with e|h
    .exact absurd (Sr e).2.symm hk
    .exact .inr h
theorem bX {env:Env} :∀{names:List (Str×Fu)}{k:Fu},
  (names.map λ(n,k)=>if (k == B6 && env.scope.kind == .function && env.kindOf n == some .cell)then(n,HY)else(n,k)).lookup x=some k ->
  names.lookup x=some k\/(k=.cell/\names.lookup x=some .free)
 |[],_,h=>by simp at h
 |(n,k0)::r,k,h=>by
  rw[AR]at h;by_cases hc:(k0 == B6 && env.scope.kind == .function && env.kindOf n == some .cell)=true
  .have hf:k0=.free:=by
    simp only[BI]at hc;simpa using hc.1.1
   simp only[hc,if_true]at h;rw[Bs]at h ⊢;cases q:x == n with
   |true=>
    rw[q]at h;have h':HY=k:=by simpa using h
    exact .inr ⟨h'.symm,by rw[hf]⟩
   |false=>rw[q]at h;exact bX (by simpa using h)
  .have hc':(k0 == B6 && env.scope.kind == .function && env.kindOf n == some .cell)=false:=by simpa using hc
   simp only[hc',if_false,FS]at h;rw[Bs]at h ⊢;cases q:x == n with
   |true=>rw[q]at h;exact .inl (by simpa using h)
   |false=>rw[q]at h;exact bX (by simpa using h)
theorem kT {env:Env} :∀{names:List (Str×Fu)},names.lookup x=some .free ->
  (names.map λ(n,k)=>if (k == B6 && env.scope.kind == .function && env.kindOf n == some .cell)then(n,HY)else(n,k)).lookup x=some .cell \/
  (names.map λ(n,k)=>if (k == B6 && env.scope.kind == .function && env.kindOf n == some .cell)then(n,HY)else(n,k)).lookup x=some .free
 |[],h=>by simp at h
 |(n,k0)::r,h=>by
  rw[AR];rw[Bs]at h;by_cases hc:(k0 == B6 && env.scope.kind == .function && env.kindOf n == some .cell)=true
  .simp only[hc,if_true];rw[Bs];cases q:x == n with
   |true=>exact .inl rfl
   |false=>rw[q]at h;exact kT (by simpa using h)
  .have hc':(k0 == B6 && env.scope.kind == .function && env.kindOf n == some .cell)=false:=by simpa using hc
   simp only[hc',if_false,FS];rw[Bs];cases q:x == n with
   |true=>rw[q]at h;exact .inr (by simpa using h)
   |false=>rw[q]at h;exact kT (by simpa using h)
theorem ZbV (I:Nat->Ar->Prop)
  (turn:∀ n s,I n s->Au (AA prog w) A (Ip it) (λr s₁=>match r with
   |none=>R (.ok .next) s₁
   | some v=>Au (AA prog w) A (IK target it v) (λ_ s₁'=>Au (AA prog w) A (LB target env v) (λ_ s₂ =>
     Au (AA prog w) A (forIn ifs true λc r=>if r=true then do let ok <- PZ c env (eval c env);pure (C7 ok) else pure (C7 r)) (λok s₃ =>
      if ok=true then Au (AA prog w) A (eval elt env) (λx s₄ =>
       Au (AA prog w) A (Ir (.builtin "list.append") [acc,x]) (λ_ s₅=>∃ m,m<n/\I m s₅) (MR (AA prog w) A env λe s'=>R (.error e) s') s₄) (MR (AA prog w) A env λe s'=>R (.error e) s') s₃
      else ∃ m,m<n/\I m s₃) (MR (AA prog w) A env λe s'=>R (.error e) s') s₂) (MR (AA prog w) A env λe s'=>R (.error e) s') s₁') (MR (AA prog w) A env λe s'=>R (.error e) s') s₁)
      (MR (AA prog w) A env λe s'=>R (.error e) s') s)
  (n:Nat) (h:I n s) :
  DU (AA prog w) A (.compLoop (.ListComp elt [⟨target,iter,ifs,0⟩] scope pos) 0 it acc env) R s:=by
 refine codeAny_loop rfl I (λn s hI=>?_) n h;show Au _ A ((compTurn (.ListComp elt [⟨target,iter,ifs,0⟩] scope pos) 0 it acc env).onRaise (λx=>do noteFrame x env;theTreesLotGoes x)) _ _ s;refine wpAny_noted ?_;rw[compTurn_list];refine Aa (wpAny_standAt (Aa (BK (turn n s hI) (λr s₁ h₁=>?_) λ_ _ h'=>h')));cases r with
 |none=>exact Ad h₁
 |some v=>
  refine Aa (BK h₁ (λ_ s₁' h₁'=>Aa (BK h₁' (λ_ s₂ h₂=>Aa (BK h₂ (λok s₃ h₃=>?_) λ_ _ h'=>h')) λ_ _ h'=>h')) λ_ _ h'=>h');cases ok with
  |false=>exact Ad ⟨rfl,h₃⟩
  |true=>exact Aa (Aa (BK h₃ (λx s₄ h₄=>Aa (BK h₄ (λ_ s₅ h₅=>Ad (Ad ⟨rfl,h₅⟩)) λ_ _ h'=>h')) λ_ _ h'=>h'))
noncomputable def GL (X:Cx)(scope:K2)(cl:List (Str×Av))(C:Av)(N:List Str)(fp:List Av)(Ae:List (Av×Obj))(s:Ar)(H:Hp):Cx where
 prog:=X.prog
 w:=X.w
 K:=X.K
 mg:=X.mg
 base:=X.base
 A:=X.A
 N:=N
 s₀:=s
 H₀:=H
 env:=Nq scope cl C X.env
 outer:=X.stack
 stack:=X.stack
 ex:=fp
 calm:=X.calm
 fn:=λ_=>false
 pn:=X.pn++Ae
 xe:=λ_ _=>False
 fz:=X.fz
def SS:TT:=λ_ H Q=>Q true H
inductive HE (Y:Cx):List Ca->TT->Prop where
 |nil:HE Y [] SS
 |one {c:Ca} {t:TT} (h:PT Y c t):HE Y [c] t
noncomputable def MK (U:St)(caps:List (Str×Nat))(v:Option V):St:=v::caps.map λc=>(U[c.2]?).join
def JN (wi:TI)(caps:List (Str×Nat))(tt:TT)(te:TE):TE:=λU H Q=>wi U H λJ H1=>∃(n:Nat) (W:Nat->List V->Hp->Prop),W 0 [] H1/\∀i ys H,W i ys H ->
 (J.stop i H/\ys.length<=Am/\∀p,H p=none->Q (.ref p) (CA H p (.lst ys))) \/
 (J.go i H/\i<n/\ys.length<Am/\∀x H',J.yld i H x H'->tt (MK U caps (some x)) H' λb H2=>if b=true then te (MK U caps (some x)) H2 λy H3=>W (i+1) (ys++[y]) H3 else W (i+1) ys H2)
structure Eb (X:Cx)(scope:K2)(x:Str)(caps:List (Str×Nat)):Prop where
 kind:scope.kind=.function
 frees:(scope.names.all λy=>y.2 != .free || X.env.scope.names.lookup y.1 == some .cell || X.env.scope.names.lookup y.1 == some .free)=true
 nocell:(scope.names.all λy=>y.2 != .cell)=true
 locs:(scope.names.all λy=>y.2 != .local || scope.names.lookup y.1 == some .local)=true
 var:scope.names.lookup x=some .local
 capsOk:(caps.all λc=>scope.names.lookup c.1 == some .free && X.N[c.2]? == some c.1 && (X.env.scope.names.lookup c.1 == some .cell || X.env.scope.names.lookup c.1 == some .free))=true
 nd:(x::caps.map (·.1)).Nodup
noncomputable def Fi (U:St)(caps:List (Str×Nat))(vs:List (Option V)):St:=vs++caps.map λc=>(U[c.2]?).join
structure Kw (X:Cx)(scope:K2)(x:Str)(ns:List Str)(caps:List (Str×Nat)):Prop where
 b:Eb X scope x caps
 C6:(ns.all λy=>scope.names.lookup y == some .local)=true
 nd:(x::(ns++caps.map (·.1))).Nodup
section
variable       {x:Str}
theorem Eb.hfree (B:Eb X scope x caps):∀y∈scope.names,y.2=.free->X.env.kindOf y.1=some .cell\/X.env.kindOf y.1=some .free:=λy hy hf=>by
 have:=CM.mp B.frees y hy;rw[hf]at this;simp only[Ke]at this;rcases this with(h|h)|h
 .simp at h
 .exact .inl (show X.env.scope.names.lookup y.1=_ by simpa using h)
 .exact .inr (show X.env.scope.names.lookup y.1=_ by simpa using h)
theorem Eb.hcell (B:Eb X scope x caps):∀y∈scope.names,y.2≠.cell:=λy hy hf=>by
 have:=CM.mp B.nocell y hy;rw[hf]at this;simp at this
theorem Eb.hloc (B:Eb X scope x caps):∀y∈scope.names,y.2=.local->scope.names.lookup y.1=some .local:=λy hy hf=>by
 have:=CM.mp B.locs y hy;rw[hf]at this;simpa using this
theorem Eb.hcaps (B:Eb X scope x caps):∀c∈caps,scope.names.lookup c.1=some .free/\X.N[c.2]? = some c.1/\(X.env.kindOf c.1=some .cell\/X.env.kindOf c.1=some .free):=λc hc=>by
 have:=CM.mp B.capsOk c hc;simp only[BI,Ke]at this;obtain⟨⟨h1,h2⟩,h3⟩:=this;refine⟨by simpa using h1,by simpa using h2,?_⟩;rcases h3 with h|h
 .exact .inl (show X.env.scope.names.lookup c.1=_ by simpa using h)
 .exact .inr (show X.env.scope.names.lookup c.1=_ by simpa using h)
theorem eh (B:Eb X scope x caps)(I:A4 X Ae U H s)(hC:C=s.heap.objs.size+1)(hf:∀b∈fp,Ji X Ae H b)(hfo:∀b∈fp,∃o,s.heap.get? b=some o)(hcl:∀y∈scope.names,y.2=.free->∃c,X.env.cells.lookup y.1=some c) :
  (GL X scope (Ey X.env scope.names []) C (x::caps.map (·.1)) fp Ae s H).Ok where
 mod:=I.ok.mod
 kind:=B.kind
 glob:=I.ok.glob
 blt:=I.ok.blt
 above:=by show s.heap.objs.size<=C;rw[hC];exact JD _
 inj:=λy z c h1 h2=>I.ok.inj y z c (UF _ _ hcl (λ_ _ e=>by simp at e) _ _ h1) (UF _ _ hcl (λ_ _ e=>by simp at e) _ _ h2)
 has:=λy h=>by
  refine iV _ _ (.inr ?_);rcases h with h|h
  .rcases bX h with e|⟨_,e⟩
   .exact absurd rfl (B.hcell _ (lookup_mem e))
   .exact lookup_mem e
  .rcases bX h with e|⟨z,e⟩
   .exact lookup_mem e
   .cases z
 cab:=λ_ _ h=>nomatch h
 hd:=I.ok.hd
 frames:=I.ok.frames
 stk:=.inl rfl
 exf:=λb hb=>by
  obtain⟨o,ho⟩:=hfo b hb;refine⟨λz=>?_,λy c e=>(hf b hb).2.2.2.2.1 y c (UF _ _ hcl (λ_ _ e=>by simp at e) _ _ e)⟩;exact absurd (show b=C from z) (A6 (by rw[hC];exact Ep (Ap ho)))
 bs:=I.bs
 bsz:=AZ I.ok.bsz I.sz
 noex:=λb o e hb=>by
  rcases(hf b hb).2.2.2.1 with z|z
  .exact I.ok.noex b o e z
  .exact absurd (Bl (Ap e) (AZ I.ok.bsz z)) (EQ _)
 exfs:=λb hb hs=>by
  rcases A3.mp (I.stkSub b hs)with e|e
  .exact(hf b hb).2.1 e
  .exact(hf b hb).2.2.1 e
 funs:=I.stack
 frf:=I.stkFree
noncomputable def JZ (Bk:List Ai)(n:Nat):Obj:={cls:=.type "list",data:=.seq Bk.toArray n}
theorem ju (B:Kw X scope x ns caps)(I:A4 X Ae U H s)(hC:C=s.heap.objs.size+1)(hf:∀b∈fp,Ji X Ae H b)(hfo:∀b∈fp,∃o,s.heap.get? b=some o)(hcl:∀y∈scope.names,y.2=.free->∃c,X.env.cells.lookup y.1=some c) :
  (GL X scope (Ey X.env scope.names []) C (x::(ns++caps.map (·.1))) fp Ae s H).Ok:=by
 have h:=eh B.b I hC hf hfo hcl;exact{h with}
theorem uS {Q:VK}{RR:Ai->Av->TB->Ar->Prop}(B:Kw X scope x ns caps)(hc:X.calm=true)
  (he:∀cl C fp pn s H,PE (GL X scope cl C (x::(ns++caps.map (·.1))) fp pn s H) elt te) (hif:∀cl C fp pn s H,HE (GL X scope cl C (x::(ns++caps.map (·.1))) fp pn s H) ifs tt)
  (hg:∀cl C fp pn s H,PG (GL X scope cl C (x::(ns++caps.map (·.1))) fp pn s H) tgt g)
  (hRR:∀D C s' H' ys m,A4 X Ae U (CA H' D (.lst ys)) s'->Ji X Ae (CA H' D (.lst ys)) C->s'.heap.Ns C m->Q (.ref D) (CA H' D (.lst ys))->RR (.ref D) C (.ok .next) s')
  (h:YI X Ae U tgt (λJ H1=>∃ (n:Nat) (W:Nat->List V->Hp->Prop),W 0 [] H1/\∀ i ys H,W i ys H ->
   (J.stop i H/\ys.length<=Am/\∀p,H p=none->Q (.ref p) (CA H p (.lst ys))) \/
   (J.go i H/\i<n/\ys.length<Am/\∀ v H',J.yld i H v H'->∃ us:List V,us.length=ns.length+1/\(∀ (o:List (Option V)) (R:St->Hp->Prop),o.length=ns.length+1->R (Fi U caps (us.map some)) H'->g v (Fi U caps o) H' R)/\tt (Fi U caps (us.map some)) H' λb H2=>if b=true then te (Fi U caps (us.map some)) H2 λy H3=>W (i+1) (ys++[y]) H3 else W (i+1) ys H2)) it s₂) :
  Au (AA X.prog X.w) X.A (PX []) (λacc s₃=>Au (AA X.prog X.w) X.A (No scope X.env.globals (Ey X.env scope.names []) [] X.env.qual none .none (some X.env)) (λcenv s₄ =>
   DU (AA X.prog X.w) X.A (.compStart (.ListComp elt [⟨tgt,iter,ifs,0⟩] scope pos) 0 it acc { cenv with scope:=relabel scope X.env }) (RR acc cenv.locals) s₄) E s₃) E s₂:=by
 obtain⟨itA,fp,tn,J,H2,e1',I2,T,st2,f2,n,W,w0,turn⟩:_:=h;have hcl:∀y∈scope.names,y.2=.free->∃c,X.env.cells.lookup y.1=some c:=λy hy hf=>I2.ok.has y.1 (B.b.hfree y hy hf);have hfo:∀b∈fp,∃o,s₂.heap.get? b=some o:=λb hb=>by obtain⟨o,e,_⟩:=T.obj _ _ st2 b hb;exact⟨o,e⟩
 refine BZ (wpAny_newFunctionEnv B.b.hcell (by intro y hy;simp at hy) (λh₁ hns₁ hsb₁=>?_) B.b.kind);dsimp only at hns₁ hsb₁ ⊢;generalize hH2:s₂.heap.push {cls:=.type "list",dict:=none,data:=.seq ([]:List Ai).toArray}=G2 at hns₁ hsb₁ ⊢;have hC:G2.objs.size=s₂.heap.objs.size+1:=by rw[<- hH2,F8]
 have hDC:s₂.heap.objs.size≠G2.objs.size:=by rw[hC];exact A6 (He _)
 have old:∀b o,s₂.heap.get? b=some o->h₁.get? b=some o:=λb o e=>hsb₁.extBut b o (A6 (by rw[hC];exact Ep (Ap e))) (Ag _ (hH2 ▸ Ag _ e));have hacc:=hsb₁.extBut _ _ hDC (Ag _ (hH2 ▸ AB _ rfl));have okY:=ju B I2 hC f2 hfo hcl;generalize hY:GL X scope (Ey X.env scope.names []) G2.objs.size (x::(ns++caps.map (·.1))) fp Ae s₂ H2=Y at okY;have freshD:=I2.hok.fresh (AJ _);have freshC:H2 G2.objs.size=none:=I2.hok.fresh (by ext)
 have IY:∀tk,A4 Y [(s₂.heap.objs.size,JZ [] 0)] (Fi U caps (Ax (ns.length+1) none)) H2 {s₂ with heap:=h₁,toks:=tk}:=λtk=>by
  subst hY;refine⟨okY,rfl,I2.bare,Un.kept old,⟨_,hns₁,λi y v e1 e2 e3=>?_⟩,λy c e=>?_,freshC,λy c e=>?_,λp hp=>?_,I2.hok.kept old,?_,I2.fzd⟩
  .by_cases hin:i<ns.length+1
   .have hx:(Fi U caps (Ax (ns.length+1) none))[i]? = some none:=by
     unfold Fi;rw[CZ (by simpa using hin),List.getElem?_replicate_of_lt hin]
    rw[hx]at e2;cases e2
   .obtain⟨j,rfl⟩:∃j,i=ns.length+1+j:=⟨i-(ns.length+1),by ext⟩
    have e1':(caps.map (·.1))[j]? = some y:=by
     have z:(x::(ns++caps.map (·.1)))[ns.length+1+j]? = some y:=e1;rw[<- Ed,Cf (by simp)]at z;simpa[Hf]using z
    have e2':(caps.map λc=>(U[c.2]?).join)[j]? = some (some v):=by
     have z:=e2;unfold Fi at z;rw[Cf (by simp)]at z;simpa[Hf]using z
    rw[AH]at e1' e2';cases ec:caps[j]? with
    |none=>rw[ec]at e1';cases e1'
    |some c=>
     rw[ec]at e1' e2';have e1'':c.1=y:=by simpa using e1'
     have e2'':(U[c.2]?).join=some v:=by simpa using e2'
     have hv:U[c.2]? = some (some v):=by
      cases q:U[c.2]? with
      |none=>rw[q]at e2'';cases e2''
      |some w'=>rw[q]at e2'';rw[show w'=some v from e2'']
     obtain⟨k1,k2,k3⟩:=B.b.hcaps c (Aw ec);obtain⟨m,_,hl⟩:=I2.loc;obtain⟨u,ru,lk⟩:=hl c.2 c.1 v k2 hv (.inr k3);refine⟨u,ru,.inr ?_⟩;rcases lk with⟨z,_⟩|⟨_,cc,ce,ci⟩
     .rcases k3 with k3|k3
      .rw[k3]at z;cases z
      .rw[k3]at z;cases z
     .obtain⟨c',hc'⟩:=iV scope.names [] (.inr (lookup_mem k1));have hs':=UF scope.names [] hcl (λ_ _ e=>by simp at e) _ _ hc';rw[ce]at hs';cases hs';refine⟨?_,cc,?_,?_⟩
      .rw[<- e1''];exact kT k1
      .rw[<- e1''];exact hc'
      .obtain⟨o,ho,hd⟩:=ci;exact⟨o,old _ _ ho,hd⟩
  .obtain⟨v,o,ho,hd⟩:=I2.cell y c (UF _ _ hcl (λ_ _ e=>by simp at e) _ _ e);exact⟨v,o,old _ _ ho,hd⟩
  .exact I2.freeC y c (UF _ _ hcl (λ_ _ e=>by simp at e) _ _ e)
  .rcases AT.mp hp with hp|hp
   .obtain⟨e,n,ne,nf,d⟩:=I2.pin p hp;refine⟨old _ _ e,n,λz=>?_,λhs=>?_,d⟩
    .exact absurd (show p.1=G2.objs.size from z) (A6 (by rw[hC];exact Ep (Ap e)))
    .rcases A3.mp (I2.stkSub _ hs)with z|z
     .exact ne z
     .exact nf z
   .have e:p=(s₂.heap.objs.size,JZ [] 0):=by simpa using hp
    subst e;refine⟨hacc,freshD,hDC,λhs=>?_,λv z=>by cases z⟩;rcases A3.mp (I2.stkSub _ hs)with z|z
    .exact absurd z (EZ I2.lt)
    .exact I2.nofs (AJ _) z
  .simp[Fi,GL];ext
 have fpY:∀{H':Hp} {l:Obj},(∀b∈fp,H' b=none)->∀b∈fp,Ji Y [(s₂.heap.objs.size,l)] H' b:=λ{H' l} hn b hb=>by
  subst hY;obtain⟨o,ho⟩:=hfo b hb;have:=Ap ho;refine⟨hn b hb,(okY.exf b hb).1,okY.exfs b hb,.inl hb,(okY.exf b hb).2,λp hp=>?_⟩;rcases AT.mp hp with hp|hp
  .exact(f2 b hb).2.2.2.2.2 p hp
  .have e:p=(s₂.heap.objs.size,l):=by simpa using hp
   subst e;exact λz=>absurd (show s₂.heap.objs.size=b from z) (EZ (Ap ho))
 have loop:∀s₃:Ar,s₃={s₂ with heap:=h₁,toks:=s₂.toks+([]:List (Str×Ai)).length} ->
   DU (AA X.prog X.w) X.A (.compLoop (.ListComp elt [⟨tgt,iter,ifs,0⟩] scope pos) 0 (.ref itA) (.ref s₂.heap.objs.size) (Nq scope (Ey X.env scope.names []) G2.objs.size X.env))
    (RR (.ref s₂.heap.objs.size) G2.objs.size) s₃:=by
  rintro s₃ rfl
  refine ZbV (λk s'=>∃i ys H' v Bk l,k+i=n+1/\v.length=ns.length+1/\A4 Y [(s₂.heap.objs.size,JZ Bk l)] (Fi U caps v) H' s'/\tn i s'.heap/\(∀b∈fp,H' b=none)/\W i ys H'/\BF ys Bk) ?_ (n+1)
   ⟨0,[],H2,Ax (ns.length+1) none,[],0,rfl,Bn,IY _,T.keep _ _ _ st2 λb hb o e=>old b o e,λb hb=>(f2 b hb).1,w0,.nil⟩
  intro k s';ext1⟨i,ys,H',v,Bk,l,hk,hv,J1,st,fr,w1,rv⟩
  have hYe:Y.prog=X.prog/\Y.w=X.w/\Y.K=X.K/\Y.calm=true/\Y.A=X.A/\Y.env=Nq scope (Ey X.env scope.names []) G2.objs.size X.env/\Y.N=x::(ns++caps.map (·.1))/\(∀e s,Y.xe e s->False)/\Y.fz=X.fz:=by
   subst hY;exact⟨rfl,rfl,rfl,hc,rfl,rfl,rfl,λ_ _ h=>h,rfl⟩
  obtain⟨y1,y2,y3,y4,y5,y6,y7,y8,yF⟩:_:=hYe;rcases turn i ys H' w1 with⟨stop,hz,qn⟩|⟨go,hin,hz,step⟩
  .have d:=T.done Y y1 y2 y3 yF y4 i _ s' _ H' (λ_ _=>False) J1 (fpY fr) st stop;rw[y5]at d;refine BK d (λr s4 ⟨hr,J4⟩=>?_) λ_ _ f=>f.elim;subst hr;have pD:=J4.pin (s₂.heap.objs.size,JZ Bk l) (AU _ (by simp));obtain⟨m,hm,_⟩:=J4.loc;have hC4:s4.heap.Ns G2.objs.size m:=by subst hY;exact hm
   have fC:H' G2.objs.size=none:=by subst hY;exact J4.free
   have baseY:Un (PH X.stack) fp H2 H' s₂.heap s4.heap:=by subst hY;exact J4.base
   have hokY:Ik X.prog X.w H' s4.heap:=by rw[<- y1,<- y2];exact J4.hok
   have osY:s4.os=s₂.os:=by subst hY;exact J4.os
   have I4:=I2.call' osY baseY hokY J4.bare λb hb=>⟨(f2 b hb).2.2.2.1,(f2 b hb).2.1,(f2 b hb).2.2.2.2.1,(f2 b hb).2.2.2.2.2⟩;have fD4:=I2.fpOk (AJ _) pD.2.1;have fC4:=I2.fpOk (by ext) fC;have I5:A4 X Ae U (CA H' s₂.heap.objs.size (.lst ys)) s4:=I4.track fD4 ⟨hz,Bk,l,rv,pD.1⟩;refine hRR _ _ s4 H' ys m I5 ⟨by rw[HL hDC.symm];exact fC4.1,fC4.2⟩ hC4 (qn _ pD.2.1)
  .have d:=T.item Y y1 y2 y3 yF y4 i _ s' _ H' (λ_ _=>False) J1 (fpY fr) st go;rw[y5]at d;refine BK d (λr s4 ⟨u,hr,h4⟩=>?_) λ_ _ f=>f.elim;subst hr;refine BK h4 (λ_ s5 ⟨v5,H5,J5,r5,yl5,st5,fr5⟩=>?_) λ_ _ f=>f.elim;have J5':=J5.pinned (fpY fr5) (T.obj _ _ st5);obtain⟨us,hus,hset,q5⟩:=step v5 H5 yl5;have hgY:=hg (Ey X.env scope.names []) G2.objs.size fp Ae s₂ H2;rw[hY]at hgY;have d6:=hgY _ s5 _ H5 v5 u (λU' H'=>U'=Fi U caps (us.map some)/\H5=H') J5' r5 (hset _ _ hv ⟨rfl,rfl⟩);rw[y1,y2,y5,y6]at d6;refine BK d6 (λ_ s6 ⟨U6,H6,J6,e6,e6'⟩=>?_) λe s z=>(y8 e s z).elim;subst e6 e6'
   have Nu:∀{s7:Ar} {H7:Hp} {ys7:List V} {its7:List Ai} {l7:Nat},A4 Y [(s₂.heap.objs.size,JZ its7 l7)] (Fi U caps (us.map some)) H7 s7->(∀b∈fp,∀o,s5.heap.get? b=some o->s7.heap.get? b=some o/\H7 b=none)->W (i+1) ys7 H7->BF ys7 its7 ->
     ∃m,m<k/\∃i ys H' v Bk l,m+i=n+1/\v.length=ns.length+1/\A4 Y [(s₂.heap.objs.size,JZ Bk l)] (Fi U caps v) H' s7/\tn i s7.heap/\(∀b∈fp,H' b=none)/\W i ys H'/\BF ys Bk:=λ{s7 H7 ys7 its7 l7} K7 hb w7 r7=>by
    refine⟨k-1,by ext,i+1,ys7,H7,us.map some,its7,l7,by ext,by rw[Ab];exact hus,K7,T.keep _ _ _ st5 λb hb' o e=>(hb b hb' o e).1,λb hb'=>?_,w7,r7⟩;obtain⟨o,e,_⟩:=T.obj _ _ st5 b hb';exact(hb b hb' o e).2
   have pinD:∀{U7:St} {H7:Hp} {s7:Ar},A4 Y ([(s₂.heap.objs.size,JZ Bk l)]++IB fp s5.heap) U7 H7 s7->(∀b∈fp,∀o,s5.heap.get? b=some o->s7.heap.get? b=some o/\H7 b=none):=λK7 b hb o e=>by
    have z:=K7.pin (b,o) (AU _ (AU _ (bG hb e)));exact⟨z.1,z.2.1⟩
   have dt:Au (AA X.prog X.w) X.A (forIn ifs true λc r=>if r=true then do let ok <- PZ c (Nq scope (Ey X.env scope.names []) G2.objs.size X.env) (eval c (Nq scope (Ey X.env scope.names []) G2.objs.size X.env));pure (C7 ok)else pure (C7 r))
     (λok s7=>∃H7,A4 Y ([(s₂.heap.objs.size,JZ Bk l)]++IB fp s5.heap) (Fi U caps (us.map some)) H7 s7/\(if ok=true then te (Fi U caps (us.map some)) H7 λy H3=>W (i+1) (ys++[y]) H3 else W (i+1) ys H7)) (λ_ _=>False) s6:=by
    have q:=q5;have pif:=hif (Ey X.env scope.names []) G2.objs.size fp Ae s₂ H2;rw[hY]at pif;cases pif with
    |nil=>exact Ad ⟨H5,J6,q⟩
    |one pt=>have z:=pt _ s6 _ H5 _ J6 q;rw[y1,y2,y5,y6]at z;exact wpAny_tests_one (BK z (λb s7 ⟨H7,J7,q7⟩=>⟨H7,J7,q7⟩) λe s z=>(y8 e s z).elim)
   refine BK dt (λok s7 ⟨H7,J7,q7⟩=>?_) λ_ _ f=>f.elim;cases ok with
   |false=>rw[if_neg Al]at q7 ⊢;exact Nu J7.unpinned (pinD J7) q7 rv
   |true=>
    rw[if_pos rfl]at q7 ⊢;have pe:=he (Ey X.env scope.names []) G2.objs.size fp Ae s₂ H2;rw[hY]at pe;have z:=pe _ s7 _ H7 _ J7 q7;rw[y1,y2,y5,y6]at z;refine BK z (λu8 s8 ⟨v8,H8,J8,r8,w8⟩=>?_) λe s z=>(y8 e s z).elim;have pD:=J8.pin (s₂.heap.objs.size,JZ Bk l) (AU _ (CK _ (by simp)));have lits:=rv.length;refine wpAny_list_append_plain ⟨l,pD.1⟩ λh9 pl9 sb9=>?_;obtain⟨l9,e9⟩:=pl9
    have J9:A4 Y (IB fp s5.heap) (Fi U caps (us.map some)) H8 {s8 with heap:=h9}:=by
     refine(J8.pins_of λp hp=>J8.pin p (AU _ (AU _ hp))).turned (λb o hb e=>(sb9.2 b hb).trans e) pD.2.1 pD.2.2.1 ?_ (λy c e z=>?_) λp hp z=>?_
     .subst hY;exact .inr (AJ _)
     .obtain⟨v',o',ho',hd'⟩:=J8.cell y c e;rw[z,pD.1]at ho';cases ho';exact pD.2.2.2.2 _ hd'
     .rcases AT.mp hp with hp|hp
      .have hp':p∈X.pn++Ae:=by subst hY;exact hp
       exact absurd z (A6 (Ap (I2.pin p hp').1))
      .obtain⟨hb,_⟩:=uL hp;obtain⟨o,ho⟩:=hfo _ hb;exact absurd z (A6 (Ap ho))
    have J10:A4 Y [(s₂.heap.objs.size,JZ (Bk++[u8]) l9)] (Fi U caps (us.map some)) H8 {s8 with heap:=h9}:=J9.pins_of λp hp=>by
     have e:p=(s₂.heap.objs.size,JZ (Bk++[u8]) l9):=by simpa using hp
     subst e;refine⟨?_,pD.2.1,pD.2.2.1,pD.2.2.2.1,λv z=>by cases z⟩;rw[e9];simp[JZ]
    refine Nu J10 (λb hb o e=>?_) w8 (rv.append (.cons r8 .nil));have z:=J9.pin (b,o) (AU _ (bG hb e));exact⟨z.1,z.2.1⟩
 exact codeAny_compStart_list (loop _ rfl) (T.self _ 0 _ _ _ (T.keep _ _ _ st2 λb hb o e=>old b o e) (loop _ rfl))
theorem Yy {Q:VK}{RR:Ai->Av->TB->Ar->Prop}(B:Eb X scope x caps)(hc:X.calm=true)
  (he:∀cl C fp pn s H,PE (GL X scope cl C (x::caps.map (·.1)) fp pn s H) elt te) (hif:∀cl C fp pn s H,HE (GL X scope cl C (x::caps.map (·.1)) fp pn s H) ifs tt)
  (hRR:∀D C s' H' ys m,A4 X Ae U (CA H' D (.lst ys)) s'->Ji X Ae (CA H' D (.lst ys)) C->s'.heap.Ns C m->Q (.ref D) (CA H' D (.lst ys))->RR (.ref D) C (.ok .next) s')
  (h:YI X Ae U (.Name x px) (λJ H1=>∃ (n:Nat) (W:Nat->List V->Hp->Prop),W 0 [] H1/\∀ i ys H,W i ys H ->
   (J.stop i H/\ys.length<=Am/\∀p,H p=none->Q (.ref p) (CA H p (.lst ys))) \/
   (J.go i H/\i<n/\ys.length<Am/\∀ v H',J.yld i H v H'->tt (MK U caps (some v)) H' λb H2=>if b=true then te (MK U caps (some v)) H2 λy H3=>W (i+1) (ys++[y]) H3 else W (i+1) ys H2)) it s₂) :
  Au (AA X.prog X.w) X.A (PX []) (λacc s₃=>Au (AA X.prog X.w) X.A (No scope X.env.globals (Ey X.env scope.names []) [] X.env.qual none .none (some X.env)) (λcenv s₄ =>
   DU (AA X.prog X.w) X.A (.compStart (.ListComp elt [⟨.Name x px,iter,ifs,0⟩] scope pos) 0 it acc { cenv with scope:=relabel scope X.env }) (RR acc cenv.locals) s₄) E s₃) E s₂:=by
 refine uS (ns:=[]) (tgt:=.Name x px) (g:=Kt 0) ⟨B,rfl,B.nd⟩ hc he hif (λcl C fp pn s H=>LX B.nd rfl (.inl (Rp B.var)) (.inr (Rp B.var))) hRR ?_;obtain⟨itA,fp,tn,J,H2,e,I2,T,st2,f2,n,W,w0,turn⟩:_:=h;refine⟨itA,fp,tn,J,H2,e,I2,T,st2,f2,n,W,w0,λi ys H w=>(turn i ys H w).imp id λ⟨z1,z2,z3,st⟩=>⟨z1,z2,z3,λv H' y=>⟨[v],rfl,λo R ho q=>?_,st v H' y⟩⟩⟩;cases o with
 |nil=>cases ho
 |cons o r=>cases AG (GJ ho);exact q
theorem aC (B:Eb X scope x caps)(hc:X.calm=true)(hi:PI X (.Name x px) iter wi)
  (he:∀cl C fp pn s H,PE (GL X scope cl C (x::caps.map (·.1)) fp pn s H) elt te) (hif:∀cl C fp pn s H,HE (GL X scope cl C (x::caps.map (·.1)) fp pn s H) ifs tt)
  (hs:∀x,Bw iter X.env x=pure x:=by intro _;rfl):PE X (.ListComp elt [⟨.Name x px,iter,ifs,0⟩] scope pos) (JN wi caps tt te):=by
 intro Ae s U H Q I h;rw[eval_ListComp];have hcl:∀y∈scope.names,y.2=.free->∃c,X.env.cells.lookup y.1=some c:=λy hy hf=>I.ok.has y.1 (B.hfree y hy hf);refine Hu rfl hs (kW hcl) B.kind B.hloc (Dp (hi Ae s U H _ I h) λv s1 h1=>Dp h1 λitv s2 h2=>?_);refine Yy B hc he hif (λD C s' H' ys m I' f' hn q=>?_) h2;refine⟨m,hn,λh' sb=>⟨.ref D,CA H' D (.lst ys),?_,rfl,q⟩⟩;obtain⟨g0,g1,g2,g3,g4,g5⟩:=f';exact I'.turned (λb o hb e=>(sb.2 b hb).trans e) g0 g1 g3 g4 g5
theorem jH (hN:X.N.Nodup)(hi0:X.N[i]? = some y)(hy:X.env.scope.names.lookup y=some .local)(B:Eb X scope x caps)(hc:X.calm=true)(hi:PI X (.Name x px) iter wi)
  (he:∀cl C fp pn s H,PE (GL X scope cl C (x::caps.map (·.1)) fp pn s H) elt te) (hif:∀cl C fp pn s H,HE (GL X scope cl C (x::caps.map (·.1)) fp pn s H) ifs tt)
  (hsw:DW (.ListComp elt [⟨.Name x px,iter,ifs,0⟩] scope pos) (some (.Name y py)) spos.line X.env=pure true:=by rfl)
  (hs:∀x,Bw iter X.env x=pure x:=by intro _;rfl):PS X (.Assign [.Name y py] (.ListComp elt [⟨.Name x px,iter,ifs,0⟩] scope pos) spos) (OU (JN wi caps tt te) (Kt i)):=by
 intro Ae s U H D I h;rw[exec_Assign_Name_used _ _ _ _ hsw];refine Aa (wpAny_standAt (Aa ?_));show Au _ X.A (do let _ <- comprehension (.ListComp elt [⟨.Name x px,iter,ifs,0⟩] scope pos) scope X.env _ (PX []) false (eval iter X.env) (some (LB (.Name y py) X.env))) _ _ s;have hcl:∀y∈scope.names,y.2=.free->∃c,X.env.cells.lookup y.1=some c:=λy hy hf=>I.ok.has y.1 (B.hfree y hy hf)
 refine Aa (BK (Hu rfl hs (kW hcl) B.kind B.hloc (Dp (hi Ae s U H _ I h) λv s1 h1=>Dp h1 λitv s2 h2=>?_))
  (λ_ s' hq=>Ad (Ad hq)) λ_ _ e=>e)
 refine Yy (Q:=λv H'=>D.nx (U.set i (some v)) H') (RR:=λacc C=>compPost (AA X.prog X.w) X.A X.xe (some (LB (.Name y py) X.env)) (λ_ s'=>SP X Ae D .next s') acc C) B hc he hif (λD' C s' H' ys m I' f' hn q=>?_) h2;show Au _ _ (LB (.Name y py) X.env (.ref D')) _ _ s';obtain⟨g0,g1,g2,g3,g4,g5⟩:=f';refine UY (uI I' hN hi0 (.inl hy) (v:=.ref D') rfl (λs'' I'' sb=>?_) (.inr hy));obtain⟨a,sb,ha⟩:=sb
 have nC:C≠a:=by
  rcases ha with rfl|ha
  .exact g1
  .exact λz=>g4 _ _ ha z.symm
 refine⟨m,hn.sameBut sb nC,λh' sb'=>⟨U.set i (some (.ref D')),CA H' D' (.lst ys),?_,q⟩⟩;exact I''.turned (λb o hb e=>(sb'.2 b hb).trans e) g0 g1 g3 g4 g5
end
section
variable {K:Ac}{a:Av}{xs:List V}{caps:List (Str×Nat)}{tt:TT}{te:TE}{U:St}{H:Hp}{Q:VK}
end
section
variable {κ:Type}[DecidableEq κ]
noncomputable def FN (AQ:List (κ×V))(k:κ):Option V:=(AQ.find? λkv=>decide (kv.1=k)).map (·.2)
noncomputable def putK (AQ:List (κ×V))(k:κ)(v:V):List (κ×V):=
 if (AQ.any λkv=>decide (kv.1=k))=true then AQ.map (λkv=>if kv.1=k then(kv.1,v)else kv)else AQ++[(k,v)]
theorem jU {p:κ×V}{r:List (κ×V)}{k:κ}(e:p.1=k):FN (p::r) k=some p.2:=by simp[FN,Cn,e]
theorem jT {p:κ×V}{r:List (κ×V)}{k:κ}(e:¬p.1=k):FN (p::r) k=FN r k:=by simp[FN,Cn,e]
theorem tE (k:κ):∀AQ,(AQ.any λkv=>decide (kv.1=k))=(FN AQ k).isSome
 |[]=>rfl
 |p::r=>by
  rw[Fs];by_cases e:p.1=k
  .simp only[jU e,decide_eq_true e,Bool.true_or,Og]
  .rw[jT e,decide_eq_false e,Mj];exact tE k r
theorem bF (AQ:List (κ×V))(k:κ)(v:V):(putK AQ k v).length<=AQ.length+1:=by
 unfold putK;split
 .rw[Ab];ext
 .rw[Aq,AO,E9];ext
theorem Ig.isSome_eq (r:Ig o u):o.isSome=u.isSome:=by
 cases o with
 |none=>cases u with
  |none=>rfl
  |some _=>exact(show False from r).elim
 |some _=>cases u with
  |none=>exact(show False from r).elim
  |some _=>rfl
theorem KV.val {AQ:List (κ×V)}{vs:List (κ×Ai)}(r:KV AQ vs)(k:κ):Ig (FN AQ k) (JC vs k):=by
 unfold KV at r;induction r with
 |nil=>exact Ch
 | @cons p q ps qs h t ih=>
  obtain⟨h1,h2⟩:=h;by_cases e:p.1=k
  .have e':=h1.symm.trans e;have b:JC (q::qs) k=some q.2:=by simp[JC,Cn,e']
   rw[jU e,b];exact h2
  .have e':¬q.1=k:=λz=>e (h1.trans z);have b:JC (q::qs) k=JC qs k:=by simp[JC,Cn,e']
   rw[jT e,b];exact ih
theorem KV.any (r:KV AQ vs)(k:κ):(AQ.any λkv=>decide (kv.1=k))=vs.any λkv=>decide (kv.1=k):=by
 unfold KV at r;induction r with
 |nil=>rfl
 |cons h t ih=>rw[Fs,Fs,ih,h.1]
theorem KV.repl (r:KV AQ vs)(k:κ)(ry:RelV y u) :
  KV (AQ.map λkv=>if kv.1=k then(kv.1,y)else kv) (vs.map λkv=>if kv.1=k then(kv.1,u)else kv):=by
 unfold KV at r ⊢;induction r with
 |nil=>exact .nil
 | @cons p q ps qs h t ih=>
  rw[AR,AR];refine .cons ?_ ih;obtain⟨h1,h2⟩:=h;by_cases e:p.1=k
  .rw[if_pos e,if_pos (h1.symm.trans e)];exact⟨h1,ry⟩
  .rw[if_neg e,if_neg (λz=>e (h1.trans z))];exact⟨h1,h2⟩
theorem KV.put (r:KV AQ vs)(k:κ)(ry:RelV y u):KV (putK AQ k y) (stored vs k u):=by
 unfold putK stored;rw[r.any k];by_cases e:(vs.any λkv=>decide (kv.1=k))=true
 .rw[if_pos e,if_pos e];exact r.repl k ry
 .rw[if_neg e,if_neg e];exact TJ r ⟨rfl,ry⟩
theorem KV.keys {AQ:List (κ×V)}{vs:List (κ×Ai)}(r:KV AQ vs):AQ.map (·.1)=vs.map (·.1):=by
 unfold KV at r;induction r with
 |nil=>rfl
 |cons h t ih=>rw[AR,AR,ih,h.1]
theorem KV.length {AQ:List (κ×V)}{vs:List (κ×Ai)}(r:KV AQ vs):AQ.length=vs.length:=DZ r
end
theorem Sa (r:RelV (kV k) u):(BP P w).is k u=true:=by
 cases k with
 |inl i=>obtain⟨t,e⟩:=(show∃t,u=DE i t from r);subst e;exact zp P w i t
 |inr x=>obtain⟨t,e⟩:=(show∃t,u=De x t from r);subst e;exact zq P w x t
theorem tX :∀{ks:List B4}{us:List Ai},BF (ks.map kV) us->ItemsAre (BP P w) ks us
 |[],_,r=>by rw[Dr]at r;cases r;exact .nil
 |k::ks,_,r=>by
  rw[AR]at r;cases r with
  |cons h t=>exact .cons (Sa h) (tX t)
abbrev KT (H:Hp):List (List B4×V)->List (List B4×Av×Ai)->Prop:=D0 λp q=>p.1=q.1/\H q.2.1=some (.tup (p.1.map kV))/\RelV p.2 q.2.2
theorem KT.val {H:Hp}{AQ:List (List B4×V)}{xs:List (List B4×Av×Ai)}(r:KT H AQ xs)(k:List B4):Ig (FN AQ k) ((Pg xs k).map (·.2)):=by
 induction r with
 |nil=>exact Ch
 | @cons p q ps qs h t ih=>
  obtain⟨h1,_,h2⟩:=h;by_cases e:p.1=k
  .have e':=h1.symm.trans e;have b:Pg (q::qs) k=some q.2:=by simp[Pg,Cn,e']
   rw[jU e,b];exact h2
  .have e':¬q.1=k:=λz=>e (h1.trans z);have b:Pg (q::qs) k=Pg qs k:=by simp[Pg,Cn,e']
   rw[jT e,b];exact ih
theorem KT.repl (r:KT H AQ xs)(k:List B4)(ry:RelV y u) :
  KT H (AQ.map λkv=>if kv.1=k then(kv.1,y)else kv) (xs.map (putAt k u)):=by
 induction r with
 |nil=>exact .nil
 | @cons p q ps qs h t ih=>
  rw[AR,AR];refine .cons ?_ ih;obtain⟨h1,h2,h3⟩:=h;unfold putAt;by_cases e:p.1=k
  .rw[if_pos e,if_pos (h1.symm.trans e)];exact⟨h1,h2,ry⟩
  .rw[if_neg e,if_neg (λz=>e (h1.trans z))];exact⟨h1,h2,h3⟩
theorem KT.put (r:KT H AQ xs)(k:List B4)(hb:H b=some (.tup (k.map kV)))(ry:RelV y u) :
  KT H (putK AQ k y) (storedH xs k b u):=by
 have e:(AQ.any λkv=>decide (kv.1=k))=(Pg xs k).isSome:=by
  rw[tE,(r.val k).isSome_eq,Np]
 unfold putK storedH;rw[e];by_cases q:(Pg xs k).isSome=true
 .rw[if_pos q,if_pos q];exact r.repl k ry
 .rw[if_neg q,if_neg q];exact TJ r ⟨rfl,hb,ry⟩
theorem KT.keeps (r:KT H AQ xs)(ht:∀b ys,H b=some (.tup ys)->H' b=some (.tup ys)):KT H' AQ xs:=
 D0.mapP r λ_ _ z=>⟨z.1,ht _ _ z.2.1,z.2.2⟩
section
theorem oG (ok:Ik P w H h)(e:Rd H a u):CW P w H h a u:=e.ok ok
theorem Rh (ok:Ik P w H h)(e:Rd H a (.dK AQ)):AQ.length<=Am/\(a == E8)=false/\∃vs,KV AQ vs/\h.DictOf (BP P w) a vs:=
 show CW P w H h a (.dK AQ)from oG ok e
theorem gV (ok:Ik P w H h)(e:H a=some (.dK AQ)):AQ.length<=Am/\(a == E8)=false/\∃vs,KV AQ vs/\h.DictOf (BP P w) a vs:=Rh ok (.inl e)
theorem Ye (ok:Ik P w H h)(e:H a=some (.tup (ks.map kV))):(Lr (BP P w)).is h ks a:=by
 obtain⟨_,Bk,r,o,h1,h2,n,h3,_⟩:=(show CW P w H h a (.tup (ks.map kV))from ok a _ e);exact⟨o,Bk.toArray,n,h1,h2,h3,by simpa using tX r⟩
theorem Vz (ok:Ik P w H h)(e:Rd H a (.dT AQ)):AQ.length<=Am/\(a == E8)=false /\
  ∃xs,KT H AQ xs/\h.DictOfH (Lr (BP P w)) a xs:=by
 obtain⟨z,y,xs,r,o,es,ep,h1,h2,h3,h4,h5⟩:=(show CW P w H h a (.dT AQ)from oG ok e);refine⟨z,y,xs,r,o,es,ep,h1,h2,h3,h4,λx hx=>?_,h5⟩
 have all:∀{l:List (List B4×V)} {m:List (List B4×Av×Ai)},KT H l m->∀x∈m,(Lr (BP P w)).is h x.1 x.2.1:=by
  intro l m q;induction q with
  |nil=>intro x hx;exact nomatch hx
  | @cons p q ps qs hq t ih=>
   intro x hx;rcases A3.mp hx with e|hx
   .subst e;exact Ye ok (by rw[<- hq.1];exact hq.2.1)
   .exact ih x hx
 exact all r x hx
theorem yH (ok:Ik P w H h)(e:H a=some (.dT AQ)):AQ.length<=Am/\(a == E8)=false /\
  ∃xs,KT H AQ xs/\h.DictOfH (Lr (BP P w)) a xs:=Vz ok (.inl e)
end
def QQ (H:Hp)(a:Av)(y:V)(r:Option V):Prop:=
 (∃AQ k,Rd H a (.dK AQ)/\y=kV k/\r=FN AQ k)\/∃AQ k b,Rd H a (.dT AQ)/\y=.ref b/\H b=some (.tup (k.map kV))/\r=FN AQ k
def QP (H:Hp)(a:Av)(y v:V)(H':Hp):Prop:=
 (∃AQ k,H a=some (.dK AQ)/\y=kV k/\AQ.length<Am/\H'=CA H a (.dK (putK AQ k v))) \/
 ∃AQ k b,H a=some (.dT AQ)/\y=.ref b/\H b=some (.tup (k.map kV))/\AQ.length<Am/\H'=CA H a (.dT (putK AQ k v))
theorem QP.k {k:B4}(e:H a=some (.dK AQ))(hl:AQ.length<Am):QP H a (kV k) v (CA H a (.dK (putK AQ k v))):=.inl ⟨AQ,k,e,rfl,hl,rfl⟩
section
theorem A4.big (I:A4 X Ae U H s):E8<s.heap.objs.size:=by
 have h:=(I.mod.glob.keeps I.bk).lt;exact Nat.lt_trans (by decide) h
theorem vq (hu:A.units+1<C9)(I:A4 X Ae U H s)(g:QQ H a y (some v))(ry:RelV y u)(h:∀w' s',A4 X Ae U H s'->RelV v w'->Q w' s') :
  Au (AA X.prog X.w) A (JF (.ref a) u) Q E s:=by
 rcases g with⟨AQ,k,e,ey,l⟩|⟨AQ,k,b,e,ey,eb,l⟩
 .subst ey;obtain⟨z,hd,vs,rel,dd⟩:=Rh I.hok e;obtain⟨w',hw,rw'⟩:=Ig.some_of (by rw[l];exact rel.val k);exact Wc (Sa ry) dd.mapOf hw (h w' _ (I.tok _) rw')
 .subst ey;cases(show u=AC b from ry);obtain⟨z,hd,xs,rel,dd⟩:=Vz I.hok e;obtain⟨w',hw,rw'⟩:=Ig.some_of (by rw[l];exact rel.val k);obtain⟨p,hp,hp2⟩:=EY.mp hw;refine wpAny_getItem_heap (GQ hu) (Ye I.hok eb) dd hp ?_;rw[hp2];exact h w' _ (I.tok _) rw'
theorem gN (hu:A.units+1<C9)(I:A4 X Ae U H s)(g:QQ H a y o)(ry:RelV y u)(h:∀s',A4 X Ae U H s'->Q (.bool o.isSome) s') :
  Au (AA X.prog X.w) A (A7 .In u (.ref a)) Q E s:=by
 rcases g with⟨AQ,k,e,ey,l⟩|⟨AQ,k,b,e,ey,eb,l⟩
 .subst ey;obtain⟨z,hd,vs,rel,dd⟩:=Rh I.hok e;refine wpAny_in_of (Sa ry) hd dd.mapOf ?_;rw[<- (rel.val k).isSome_eq,<- l];exact h _ (I.tok _)
 .subst ey;cases(show u=AC b from ry);obtain⟨z,hd,xs,rel,dd⟩:=Vz I.hok e;refine wpAny_in_heap (GQ hu) (Ye I.hok eb) hd dd ?_;have q:=(rel.val k).isSome_eq;rw[Np]at q;rw[<- q,<- l];exact h _ (I.tok _)
theorem jz (hu:A.units+1<C9)(I:A4 X Ae U H s)(g:QQ H a y o)(ry:RelV y u)(h:∀s',A4 X Ae U H s'->Q (.bool (!o.isSome)) s') :
  Au (AA X.prog X.w) A (A7 .NotIn u (.ref a)) Q E s:=by
 rcases g with⟨AQ,k,e,ey,l⟩|⟨AQ,k,b,e,ey,eb,l⟩
 .subst ey;obtain⟨z,hd,vs,rel,dd⟩:=Rh I.hok e;refine wpAny_notIn_of (Sa ry) hd dd.mapOf ?_;rw[<- (rel.val k).isSome_eq,<- l];exact h _ (I.tok _)
 .subst ey;cases(show u=AC b from ry);obtain⟨z,hd,xs,rel,dd⟩:=Vz I.hok e;refine wpAny_notIn_heap (GQ hu) (Ye I.hok eb) hd dd ?_;have q:=(rel.val k).isSome_eq;rw[Np]at q;rw[<- q,<- l];exact h _ (I.tok _)
theorem aF (I:A4 X Ae U H s)(mu:YJ (H a))(hs:BH a s.heap h')(he:∃q,h'.get? a=some q)(new:CW X.prog X.w (CA H a ob) h' a ob) :
  A4 X Ae U (CA H a ob) {s with heap:=h',toks:=t' }:=
 I.write mu (.inl rfl) (λb q hb z=>(hs.2 b hb).trans z) he new
theorem ZS (z:AQ.length<=Am)(hd:(a == E8)=false)(rel:KV AQ vs)(dd:h'.DictOf (BP P w) a vs) :
  CW P w H' h' a (.dK AQ):=⟨z,hd,vs,rel,dd⟩
theorem vt (hu:A.units+1<C9)(I:A4 X Ae U H s)(g:QP H a y v H')(ry:RelV y u)(rv:RelV v r)(h:∀s',A4 X Ae U H' s'->Q () s') :
  Au (AA X.prog X.w) A (setItem (.ref a) u r) Q E s:=by
 rcases g with⟨AQ,k,e,ey,l,eH⟩|⟨AQ,k,b,e,ey,eb,l,eH⟩
 .subst ey eH;obtain⟨z,hd,vs,rel,dd⟩:=gV I.hok e;have hz:vs.length<=Am:=by rw[<- rel.length];exact z
  have hl:(putK AQ k v).length<=Am:=by have:=bF AQ k v;ext
  refine wpAny_setItem_pairs (Sa ry) dd λh' dd' hs=>h _ ?_;have he:∃q,h'.get? a=some q:=let ⟨q,_,_,hq,_⟩:=dd';⟨q,hq⟩;exact aF I (by rw[e];exact Ch) hs he (ZS hl hd (rel.put k rv) dd')
 .subst ey eH;cases(show u=AC b from ry);obtain⟨z,hd,xs,rel,dd⟩:=yH I.hok e;have hz:xs.length<=Am:=by rw[<- DZ rel];exact z
  have hl:(putK AQ k v).length<=Am:=by have:=bF AQ k v;ext
  refine wpAny_setItem_heap (GQ hu) (Ye I.hok eb) dd λh' dd' hs=>h _ ?_;obtain⟨q,es,ep,hq,h2,h3,h4,_,h5⟩:=dd';refine aF I (by rw[e];exact Ch) hs ⟨q,hq⟩ ⟨hl,hd,_,(rel.put k eb rv).keeps λc ys ec=>?_,q,es,ep,hq,h2,h3,h4,h5⟩;rw[HL (zN ec e (λz=>nomatch z))];exact ec
end
section
end
def UP (i:Ca):Prop:=∀ov iv,L5 i false ov iv=operate [ov,iv] (JF ov iv)
theorem qq {T id:String}
  (hl:Nj (.type T) "__getitem__" = pure (some (.builtin id))) (hs:UP slice)
  (h:Au (AA prog w) A (eval value env) (λo s₁=>Au (AA prog w) A (eval slice env) (λi s₂=>s₂.TypeIs o T/\Au (AA prog w) A (JF o i) Q E s₂) E s₁) E s) :
  Au (AA prog w) A (eval (.Subscript value slice pos) env) Q E s:=by
 refine Tz (BK h (λo s₁ h₁=>BK h₁ (λi s₂ h₂=>?_) λ_ _ x=>x) λ_ _ x=>x);obtain⟨hT,h₂⟩:=h₂;unfold OG;refine Aa ?_;rw[getitemInPython_of_ne hT.not_modules];refine Aa (YR hT hl ?_)
 have fin:Au (AA prog w) A (L5 slice false o i) (λr s₃=>Au (AA prog w) A (letTemporaryGo value o r >>= λ_=>pure r) Q E s₃) E s₂:=by
  rw[hs o i];exact wpAny_operating (BK h₂ (λr s₃ h₃=>Aa (wpAny_letTemporaryGo (Ad h₃))) λ_ _ x=>x)
 first
  |exact Ad (Aa fin)
  |exact Aa (Ad (Aa fin))
  |exact Aa fin
theorem y9 (I:A4 X Ae U H s)(g:QQ H a y o):s.TypeIs (.ref a) "dict":=by
 rcases g with⟨AQ,k,e,_,_⟩|⟨AQ,k,b,e,_,_,_⟩
 .obtain⟨_,_,vs,_,dd⟩:=Rh I.hok e;exact dd.typeIs
 .obtain⟨_,_,xs,_,dd⟩:=Vz I.hok e;exact dd.typeIs
def Xd (td ty:TE):TE:=λU H Q=>td U H λx H1=>ty U H1 λy H2=>∃a v,x=.ref a/\QQ H2 a y (some v)/\Q v H2
def Xp (td ty tv:TE):TS:=λD U H=>tv U H λv H1=>td U H1 λx H2=>ty U H2 λy H3=>∃a H4,x=.ref a/\QP H3 a y v H4/\D.nx U H4
section
theorem pk (hu:X.A.units+1<C9)(ho:PE X o td)(hi:PE X i ty)(hs:UP i):PE X (.Subscript o i pos) (Xd td ty):=by
 intro Ae s U H Q I h;refine qq PySem.F.slot_dict_getitem.lookup hs (Dp (ho Ae s U H _ I h) λu s1 e=>e.el λx H1 I1 rx q1=>Dp (hi Ae s1 U H1 _ I1 q1) λiv s2 e=>e.el λy H2 I2 ry ⟨a,v,ex,g,q2⟩=>?_);subst ex;obtain rfl:u=AC a:=rx;exact⟨y9 I2 g,vq hu I2 g ry λw' s3 I3 rw'=>⟨v,H2,I3,rw',q2⟩⟩
theorem m9 (hu:X.A.units+1<C9)(ho:PE X o td)(hi:PE X i ty)(hv:PE X value tv)(hs:DW value (some (.Subscript o i pos')) pos.line X.env=pure false) :
  PS X (.Assign [.Subscript o i pos'] value pos) (Xp td ty tv):=by
 intro Ae s U H D I h;refine wpAny_Assign_Subscript (Dp (hv Ae s U H _ I h) λr s1 e=>e.el λv H1 I1 rv q1=>Dp (ho Ae s1 U H1 _ I1 q1) λu s2 e=>e.el λx H2 I2 rx q2=>Dp (hi Ae s2 U H2 _ I2 q2) λiv s3 e=>e.el λy H3 I3 ry ⟨a,H4,ex,g,q3⟩=>?_) hs;subst ex;obtain rfl:u=AC a:=rx;exact vt hu I3 g ry rv λs4 I4=>⟨U,H4,I4,q3⟩
end
theorem rX (h:CV)(hb:E8<h.objs.size):CW P w H (h.push {cls:=.type "dict",data:=.dict #[]}) h.objs.size (.dK []):=
 ⟨Ef _,beq_eq_false_iff_ne.mpr (Bj (A6 hb)),[],.nil,MW h⟩
def TW:TE:=λ_ H Q=>∀p,H p=none->Q (.ref p) (CA H p (.dK []))
section
theorem rj:PE X (.Dict [] [] pos) TW:=λAe s U H Q I h=>
 wpAny_Dict_empty ⟨.ref s.heap.objs.size,_,I.laid (λ_ _ q=>Ag _ q) (AJ _) (rX s.heap I.big),rfl,h _ (I.hok.fresh (AJ _))⟩
end
def NM:List (TE×TE)->St->Hp->(List (V×V)->Hp->Prop)->Prop
 |[],_,H,Q=>Q [] H
 |(tk,tv)::r,U,H,Q=>tk U H λx H1=>tv U H1 λy H2=>NM r U H2 λps H3=>Q ((x,y)::ps) H3
abbrev VV:List (V×V)->List (Ai×Ai)->Prop:=D0 λp q=>RelV p.1 q.1/\RelV p.2 q.2
def cA (X:Cx)(pos:Pos)(keys:List (Option Ca))(values:List Ca)(trs:List (TE×TE)):Prop:=
 ∀(Ae:List (Av×Obj)) (s:Ar) (U:St) (H:Hp) (Q:List (V×V)->Hp->Prop),A4 X Ae U H s->NM trs U H Q ->
  Au (AA X.prog X.w) X.A (evalPairs (pairTrees keys values X.env pos)) (λvs s'=>∃ps H',A4 X Ae U H' s'/\VV ps vs/\Q ps H') X.xe s
theorem m8 :cA X pos [] [] []:=λAe s U H Q I h=>pairTrees_nil_walk ⟨[],H,I,.nil,h⟩
theorem bE (hk:PE X k tk)(hv:PE X v tv)(hr:cA X pos ks vs trs) :
  cA X pos (some k::ks) (v::vs) ((tk,tv)::trs):=λAe s U H Q I h=>
 pairTrees_cons_walk (Dp (hk Ae s U H _ I h) λu s1 ⟨x,H1,I1,rx,q1⟩=>Dp (hv Ae s1 U H1 _ I1 q1) λw2 s2 ⟨y,H2,I2,ry,q2⟩ =>
  Dp (hr Ae s2 U H2 _ I2 q2) λws s3 ⟨ps,H3,I3,rel,q3⟩=>⟨(x,y)::ps,H3,I3,.cons ⟨rx,ry⟩ rel,q3⟩)
noncomputable def mergeK (AQ more:List (B4×V)):List (B4×V):=more.foldl (λacc kv=>putK acc kv.1 kv.2) AQ
theorem KV.merge:∀{more:List (B4×V)}{rs:List (B4×Ai)}{AQ:List (B4×V)}{vs:List (B4×Ai)},KV more rs->KV AQ vs->KV (mergeK AQ more) (Jo vs rs):=by
 intro more rs AQ vs r;unfold KV at r;induction r generalizing AQ vs with
 |nil=>intro q;exact q
 | @cons p q ps qs h t ih=>
  intro r0
  have e:KV (putK AQ p.1 p.2) (stored vs q.1 q.2):=by
   have:=r0.put p.1 h.2;rw[<- h.1];exact this
  exact ih e
theorem wE:∀(more AQ:List (B4×V)),(mergeK AQ more).length<=AQ.length+more.length
 |[],AQ=>by show AQ.length<=AQ.length+0;ext
 |p::r,AQ=>by
  have h1:=wE r (putK AQ p.1 p.2);have h2:=bF AQ p.1 p.2;show(mergeK (putK AQ p.1 p.2) r).length<=_;rw[AO];ext
theorem uR :∀{AQ:List (B4×V)}{ws:List (Ai×Ai)},VV (AQ.map λkv=>(kV kv.1,kv.2)) ws->∃rs,Carries (BP P w) ws rs/\KV AQ rs
 |[],_,r=>by rw[Dr]at r;cases r;exact⟨[],Ch,.nil⟩
 |p::AQ,_,r=>by
  rw[AR]at r;cases r with
  | @cons a b as bs h t=>obtain⟨rs,c,q⟩:=uR t;obtain⟨b1,b2⟩:=b;exact⟨(p.1,b2)::rs,⟨Sa h.1,rfl,c⟩,.cons ⟨rfl,h.2⟩ q⟩
def Xc (trs:List (TE×TE)):TE:=λU H Q=>∀p,H p=none->NM trs U (CA H p (.dK [])) λps H2=>H2 p=some (.dK [])/\∃AQ,ps=AQ.map (λkv=>(kV kv.1,kv.2))/\AQ.length<=15/\Q (.ref p) (CA H2 p (.dK (mergeK [] AQ)))
theorem pq (h:cA X pos keys values trs)(hall:keys.all (·.isSome)=true)(hl:keys.length=values.length)(h0:keys≠[])
  (h15:keys.length<=15):PE X (.Dict keys values pos) (Xc trs):=by
 intro Ae s U H Q I q;have hn:=I.hok.fresh (AJ s.heap.objs.size);have I1:=I.laid (a:=s.heap.objs.size) (o:=.dK []) (h':=s.heap.push {cls:=.type "dict",data:=.dict #[]}) (t':=s.toks) (λ_ _ q=>Ag _ q) (AJ _) (rX s.heap I.big);refine wpAny_Dict_walk (knd:=BP X.prog X.w) hall hl h0 h15 (Dp (h Ae _ U _ _ I1 (q _ hn)) λws s2 ⟨ps,H2,I2,rel,e,AQ,ep,lk,q2⟩=>?_);subst ep;obtain⟨rs,c,rk⟩:=uR (P:=X.prog) (w:=X.w) rel;obtain⟨z,hd,vs0,r0,dd⟩:=gV I2.hok e;cases r0;refine⟨rs,c,dd,λh' dd' hs=>⟨.ref s.heap.objs.size,_,?_,rfl,q2⟩⟩
 have hz:(mergeK [] AQ).length<=Am:=by
  have h1:=wE AQ [];rw[E9]at h1;rw[Jn];ext
 have he:∃q,h'.get? s.heap.objs.size=some q:=let ⟨q,_,_,hq,_⟩:=dd';⟨q,hq⟩;exact aF I2 (by rw[e];exact Ch) hs he (ZS hz hd (rk.merge .nil) dd')
structure M1 (X:Cx)(o:Ca)(m:Str)(apos:Pos)(e:Ca)(cpos:Pos):Prop where
 base:CF o m X.env (eval o X.env)=eval o X.env
 few:((Cc cpos (As [e] X.env)).all (λx=>!x.1) && (Fq cpos (DC [] X.env)).all (λx=>x.1.isSome)
  && decide (([e]:List Ca).length+([]:List E5).length+(if ([]:List E5).isEmpty then 0 else 1)<30))=true
 line:(apos.endLine == cpos.line)=true
 trees:Cc cpos (As [e] X.env)=[(false,eval e X.env)]
structure M2 (X:Cx)(o:Ca)(m:Str)(apos:Pos)(e f:Ca)(cpos:Pos):Prop where
 base:CF o m X.env (eval o X.env)=eval o X.env
 few:((Cc cpos (As [e,f] X.env)).all (λx=>!x.1) && (Fq cpos (DC [] X.env)).all (λx=>x.1.isSome)
  && decide (([e,f]:List Ca).length+([]:List E5).length+(if ([]:List E5).isEmpty then 0 else 1)<30))=true
 line:(apos.endLine == cpos.line)=true
 trees:Cc cpos (As [e,f] X.env)=[(false,eval e X.env),(false,eval f X.env)]
section
end
section
end
section
end
section
end
section
end
section
variable {κ:Type}[DecidableEq κ]
end
structure Df (K:Ac)(mg:Str->Option Ai)(x:Str)(st:DG)(ps:List Str)(f:Av)(fd:DH):Prop where
 F:CI K x x st f fd
 b:HG K fd ps []
 m:mg x=some (.ref f)
structure Blt (mg:Str->Option Ai):Prop where
 len:mg "len" = none
 range:mg "range" = none
 isinstance:mg "isinstance" = none
 int:mg "int" = none
 bool:mg "bool" = none
 list:mg "list" = none
 tuple:mg "tuple" = none
 max:mg "max" = none
 min:mg "min" = none
 dict:mg "dict" = none
 reversed:mg "reversed" = none
 sorted:mg "sorted" = none
 set:mg "set" = none
 str:mg "str" = none
 sum:mg "sum" = none
 enumerate:mg "enumerate" = none
 zip:mg "zip" = none
 all:mg "all" = none
section
theorem XN {st:DG}(d:Df X.K X.mg x st ps f fd)(G:FnOk X.prog X.w X.K X.mg X.base CX0 k f fd ps sp)(hr:Dy k X.A)(ha:PA X (e::es) t)
  (hg:Gl X x:=by rfl) (hdb:(x == ("__debug__":Str))=false:=by decide) (he:As (e::es) X.env=(false,eval e X.env)::As es X.env:=by rfl) (hpl:(Cc pos (As es X.env)).any (·.1)=false:=by rfl) :
  PE X (.Call (.Name x p) (e::es) [] pos) (SU sp [] E0 t):=pi G hr hg d.m d.F.kp d.b .nil Oz ha hdb he hpl
theorem XM (hm:X.mg x=some (.int i t))(hg:Gl X x:=by rfl)(hd:(x == ("__debug__":Str))=false:=by decide):PE X (.Name x pos) (tC (.int i)):=rO hg hm ⟨_,rfl⟩ hd
theorem xV (hm:X.mg x=none)(hv:DD x=some (.type T))(hg:Gl X x:=by rfl)(hn:x≠"__name__":=by decide)(hd:(x == ("__debug__":Str))=false:=by decide):PE X (.Name x pos) (tC (.ty T)):=ph hg hm hv rfl hn hd
end
theorem small (h:n<=1000):n<=Am:=Fn (BU h)
theorem iI (xs)(k:Nat):Lc xs none (some (k:Int))=xs.take k:=by
 unfold Lc;rw[HT.sIx_none,HT.sIx_nat,Ly,Nm];by_cases h:k<=xs.length
 .rw[Fb h]
 .rw[Fl (by ext),Bc,BO (by ext)]
theorem rW (xs)(k:Nat):Lc xs (some (k:Int)) none=xs.drop k:=by
 unfold Lc;rw[HT.sIx_none,HT.sIx_nat];by_cases h:k<=xs.length
 .rw[Fb h,BO (by rw[FW];exact AJ _)]
 .rw[Fl (by ext),Jm,Ls,MV (by ext)]
def TabOk (K:Ac)(w:BM)(h:Av)(D:List (Str×Int)):Prop:=
 ∃es n,K.lookup h=some ⟨.type "dict",none,.dict es n,#[]⟩/\PySem.W.KeysLit w.params es.toList/\∀x v,D.lookup x=some v->∃t,PySem.W.nsIn K h x=some (some (.int v t))
theorem T9 (hm:X.mg x=some (.ref h))(hg:Gl X x:=by rfl)(hd:(x == ("__debug__":Str))=false:=by decide):PE X (.Name x pos) (tC (.ref h)):=rO hg hm rfl hd
def fW (K:Ac)(w:BM):R2:=λx y H Q=>∃h D k v,x=.ref h/\y=.str k/\TabOk K w h D/\D.lookup k=some v/\Q (.int v) H
theorem b6 :O6 X (fW X.K X.w):=by
 intro value slice Ae s U H x y v u Q I rx ry h hs;obtain⟨a,D,k,z,e1',e2',⟨es,n,hl,hk,he⟩,hz,q⟩:_:=h;cases(show v=AC a from rx);obtain⟨t,rfl⟩:=(show∃t,u=De k t from ry);obtain⟨t',e⟩:=he k z hz;have hm:=PySem.W.mapOf_K (prog:=X.prog) (w:=X.w) I.kIn hl hk;exact cE hm.typeIs slot_dict_getitem.lookup (Wc (strKind_is X.prog X.w k t) hm (PySem.W.find_K hl e) ⟨.int z,H,I.tok _,⟨_,rfl⟩,q⟩) hs
theorem iF (h0:0<=i)(h1:i<(xs.length:Int)):∃v,FG xs i=some v/\v∈xs:=by
 have hk:i.toNat<xs.length:=by ext
 have e:i=((i.toNat:Nat):Int):=by ext
 have z:=OE (Af hk);rw[<- e]at z;exact⟨xs[i.toNat],z,FX hk⟩
end L2
namespace L3
open PySem PySem.Spec PyProof.Rows L2
inductive D where
 |non | bl (b:Bool) | int (i:Int) | str (x:Str) | ref (a:Av) | ty (n:String)
 |tup (xs:List D) | lst (xs:List D) | dic (AQ:List (B4×D)) | dct (AQ:List (List B4×D))
noncomputable def Qt:Bool:=false
abbrev Zt:=Av->D->Prop
def At (Z:Zt)(v:V):D->Prop
 |.non=>v=.non
 |.bl b=>v=.bl b
 |.int i=>v=.int i
 |.str x=>v=.str x
 |.ref a=>v=.ref a
 |.ty n=>v=.ty n
 |.tup xs=>∃p,v=.ref p/\Z p (.tup xs)
 |.lst xs=>∃p,v=.ref p/\Z p (.lst xs)
 |.dic AQ=>∃p,v=.ref p/\Z p (.dic AQ)
 |.dct AQ=>∃p,v=.ref p/\Z p (.dct AQ)
abbrev Dq (Z:Zt):List V->List D->Prop:=D0 (At Z)
def KAt (Z:Zt)(p:κ×V)(q:κ×D):Prop:=p.1=q.1/\At Z p.2 q.2
abbrev Cq (Z:Zt):List (κ×V)->List (κ×D)->Prop:=D0 (KAt Z)
def Le (Z Z':Zt):Prop:=∀p d,Z p d->Z' p d
theorem Le.refl (Z:Zt):Le Z Z:=λ_ _ h=>h
theorem Le.trans (a:Le Z Z1)(b:Le Z1 Z2):Le Z Z2:=λp d h=>b p d (a p d h)
theorem At.mono (l:Le Z Z')(h:At Z v d):At Z' v d:=by
 cases d with
 |tup xs=>obtain⟨p,e,z⟩:=h;exact⟨p,e,l _ _ z⟩
 |lst xs=>obtain⟨p,e,z⟩:=h;exact⟨p,e,l _ _ z⟩
 |dic xs=>obtain⟨p,e,z⟩:=h;exact⟨p,e,l _ _ z⟩
 |dct xs=>obtain⟨p,e,z⟩:=h;exact⟨p,e,l _ _ z⟩
 |_=>exact h
theorem Dq.mono (l:Le Z Z'):∀{vs:List V}{ds:List D},Dq Z vs ds->Dq Z' vs ds
 |_,_,.nil=>.nil
 |_,_,.cons r t=>.cons (At.mono l r) (Dq.mono l t)
theorem Cq.mono (l:Le Z Z'):∀{vs:List (κ×V)}{ds:List (κ×D)},Cq Z vs ds->Cq Z' vs ds
 |_,_,.nil=>.nil
 |_,_,.cons r t=>.cons ⟨r.1,At.mono l r.2⟩ (Cq.mono l t)
theorem Dq.length (h:Dq Z vs ds):vs.length=ds.length:=DZ h
theorem Dq.get :∀{vs:List V}{ds:List D}{i:Nat}{d:D},Dq Z vs ds->ds[i]? = some d->∃v,vs[i]? = some v/\At Z v d
 |_,_,_,_,.nil,e=>by simp at e
 |_,_,0,_,.cons r _,e=>by simp at e;subst e;exact⟨_,rfl,r⟩
 |_,_,i+1,d,.cons _ t,e=>by
  obtain⟨v,h1,h2⟩:=Dq.get t (by simpa using e);exact⟨v,by simpa using h1,h2⟩
theorem Dq.got :∀{vs:List V}{ds:List D}{i:Nat}{v:V},Dq Z vs ds->vs[i]? = some v->∃d,ds[i]? = some d/\At Z v d
 |_,_,_,_,.nil,e=>by simp at e
 |_,_,0,_,.cons r _,e=>by simp at e;subst e;exact⟨_,rfl,r⟩
 |_,_,i+1,d,.cons _ t,e=>by
  obtain⟨v,h1,h2⟩:=Dq.got t (by simpa using e);exact⟨v,by simpa using h1,h2⟩
theorem Dq.append :∀{xs ys:List V}{us ws:List D},Dq Z xs us->Dq Z ys ws->Dq Z (xs++ys) (us++ws)
 |_,_,_,_,.nil,s=>s
 |_,_,_,_,.cons r t,s=>.cons r (Dq.append t s)
theorem Dq.take :∀{xs:List V}{us:List D}(n:Nat),Dq Z xs us->Dq Z (xs.take n) (us.take n)
 |_,_,0,_=>.nil
 |_,_,_+1,.nil=>.nil
 |_,_,n+1,.cons r t=>.cons r (Dq.take n t)
theorem Dq.drop :∀{xs:List V}{us:List D}(n:Nat),Dq Z xs us->Dq Z (xs.drop n) (us.drop n)
 |_,_,0,r=>r
 |_,_,_+1,.nil=>.nil
 |_,_,n+1,.cons _ t=>Dq.drop n t
inductive MO where
 |lst (xs:List D) | dic (AQ:List (B4×D)) | dct (AQ:List (List B4×D)) | obj (C:Av) (fs:List (Str×D))
abbrev Mp:=Av->Option MO
noncomputable def put (M:Mp)(a:Av)(o:MO):Mp:=λb=>if b=a then some o else M b
noncomputable def JA (M:Mp)(a:Av):Mp:=λb=>if b=a then none else M b
theorem C8 :put M a o a=some o:=by unfold put;rw[if_pos rfl]
theorem Ds (h:b≠a):put M a o b=M b:=by unfold put;rw[if_neg h]
theorem QH :put (put M a o) a u=put M a u:=by funext b;unfold put;split<;>rfl
theorem VO (h:M a=none):JA (put M a o) a=M:=by
 funext b;unfold JA put;split
 .next e=>rw[e,h]
 .rfl
def Sub (M M':Mp):Prop:=∀a o,M a=some o->M' a=some o
theorem Sub.refl (M:Mp):Sub M M:=λ_ _ h=>h
theorem Sub.trans {M M1 M2:Mp}(a:Sub M M1)(b:Sub M1 M2):Sub M M2:=λp o h=>b p o (a p o h)
theorem Sub.put (h:M a=none):Sub M (put M a o):=λb u e=>by
 rw[Ds (λz=>by rw[z,h]at e;cases e)];exact e
theorem Sub.puts (s:Sub M M')(h:M a=none):Sub M (L3.put M' a o):=λb u e=>by
 rw[Ds (λz=>by rw[z,h]at e;cases e)];exact s b u e
section
variable (K:Ac)
def HB (H:Hp)(Z:Zt)(p:Av):D->Prop
 |.tup ds=>∃vs,H p=some (.tup vs)/\Dq Z vs ds
 |.lst ds=>∃vs,Rd H p (.lst vs)/\Dq Z vs ds
 |.dic AQ=>∃ks,Rd H p (.dK ks)/\Cq Z ks AQ
 |.dct AQ=>∃ks,Rd H p (.dT ks)/\Cq Z ks AQ
 |_=>False
def KB (Z:Zt)(p:Av):D->Prop
 |.tup ds=>Qt=true/\∃vs,(∃o Bk n,K.lookup p=some o/\o.cls=.type "tuple"/\o.data=.seq Bk n/\Bk.size<=Am/\BF vs Bk.toList)/\Dq Z vs ds
 |.lst ds=>∃vs,(∃o Bk n,K.lookup p=some o/\o.cls=.type "list"/\o.dict=none/\o.data=.seq Bk n/\Bk.size<=Am/\BF vs Bk.toList)/\Dq Z vs ds
 |_=>False
def MB (H:Hp)(Z:Zt)(p:Av):MO->Prop
 |.lst ds=>∃vs,H p=some (.lst vs)/\Dq Z vs ds
 |.dic AQ=>∃ks,H p=some (.dK ks)/\Cq Z ks AQ
 |.dct AQ=>∃ks,H p=some (.dT ks)/\Cq Z ks AQ
 |.obj C fs=>∃dx ks,H p=some (.ins C dx ks)/\Cq Z ks fs
structure HR (H:Hp)(M:Mp)(Z:Zt):Prop where
 z:∀p d,Z p d->HB H Z p d\/KB K Z p d
 m:∀p o,M p=some o->(∀d,Z p d->KB K Z p d)/\MB H Z p o
end
section
variable {K:Ac}{H:Hp}{M M':Mp}{Z:Zt}{p:Av}{d:D}
theorem HB.mono (l:Le Z Z')(h:HB H Z p d):HB H Z' p d:=by
 cases d with
 |tup ds=>obtain⟨vs,r,a⟩:=h;exact⟨vs,r,a.mono l⟩
 |lst ds=>obtain⟨vs,r,a⟩:=h;exact⟨vs,r,a.mono l⟩
 |dic ds=>obtain⟨vs,r,a⟩:=h;exact⟨vs,r,a.mono l⟩
 |dct ds=>obtain⟨vs,r,a⟩:=h;exact⟨vs,r,a.mono l⟩
 |_=>exact h.elim
theorem KB.mono (l:Le Z Z')(h:KB K Z p d):KB K Z' p d:=by
 cases d with
 |tup ds=>obtain⟨g,vs,r,a⟩:=h;exact⟨g,vs,r,a.mono l⟩
 |lst ds=>obtain⟨vs,r,a⟩:=h;exact⟨vs,r,a.mono l⟩
 |_=>exact h.elim
theorem MB.mono (l:Le Z Z')(h:MB H Z p o):MB H Z' p o:=by
 cases o with
 |lst ds=>obtain⟨vs,r,a⟩:=h;exact⟨vs,r,a.mono l⟩
 |dic ds=>obtain⟨vs,r,a⟩:=h;exact⟨vs,r,a.mono l⟩
 |dct ds=>obtain⟨vs,r,a⟩:=h;exact⟨vs,r,a.mono l⟩
 |obj C fs=>obtain⟨dx,vs,r,a⟩:=h;exact⟨dx,vs,r,a.mono l⟩
theorem Rd.at (e:H' p=H p)(h:Rd H p u):Rd H' p u:=by
 rcases h with h|⟨o,h⟩
 .exact .inl (e.trans h)
 .exact .inr ⟨o,e.trans h⟩
theorem HB.at (e:H' p=H p)(h:HB H Z p d):HB H' Z p d:=by
 cases d with
 |tup ds=>obtain⟨vs,r,a⟩:=h;exact⟨vs,e.trans r,a⟩
 |lst ds=>obtain⟨vs,r,a⟩:=h;exact⟨vs,Rd.at e r,a⟩
 |dic ds=>obtain⟨vs,r,a⟩:=h;exact⟨vs,Rd.at e r,a⟩
 |dct ds=>obtain⟨vs,r,a⟩:=h;exact⟨vs,Rd.at e r,a⟩
 |_=>exact h.elim
theorem MB.at (e:H' p=H p)(h:MB H Z p o):MB H' Z p o:=by
 cases o with
 |lst ds=>obtain⟨vs,r,a⟩:=h;exact⟨vs,e.trans r,a⟩
 |dic ds=>obtain⟨vs,r,a⟩:=h;exact⟨vs,e.trans r,a⟩
 |dct ds=>obtain⟨vs,r,a⟩:=h;exact⟨vs,e.trans r,a⟩
 |obj C fs=>obtain⟨dx,vs,r,a⟩:=h;exact⟨dx,vs,e.trans r,a⟩
theorem HB.some (h:HB H Z p d):H p≠none:=λe=>by
 cases d with
 |tup ds=>obtain⟨vs,r,a⟩:=h;rw[e]at r;cases r
 |lst ds=>obtain⟨vs,r | ⟨o,r⟩,a⟩:=h<;>rw[e]at r<;>cases r
 |dic ds=>obtain⟨vs,r | ⟨o,r⟩,a⟩:=h<;>rw[e]at r<;>cases r
 |dct ds=>obtain⟨vs,r | ⟨o,r⟩,a⟩:=h<;>rw[e]at r<;>cases r
 |_=>exact h.elim
theorem MB.some (h:MB H Z p o):H p≠none:=λe=>by
 cases o with
 |lst ds=>obtain⟨vs,r,a⟩:=h;rw[e]at r;cases r
 |dic ds=>obtain⟨vs,r,a⟩:=h;rw[e]at r;cases r
 |dct ds=>obtain⟨vs,r,a⟩:=h;rw[e]at r;cases r
 |obj C fs=>obtain⟨dx,vs,r,a⟩:=h;rw[e]at r;cases r
theorem HR.fresh (h:HR K H M Z)(e:H p=none):M p=none:=by
 cases q:M p with
 |none=>rfl
 |some o=>exact absurd e (h.m p o q).2.some
theorem HR.sub (h:HR K H M Z)(s:Sub M' M):HR K H M' Z:=⟨h.z,λp o e=>h.m p o (s p o e)⟩
def ext (Z:Zt)(p:Av)(d:D):Zt:=λb u=>Z b u\/(b=p/\u=d)
theorem Le.ext:Le Z (ext Z p d):=λ_ _ h=>.inl h
theorem HR.lay (h:HR K H M Z)(e:H p=none)(o:HO):(∀b u,Z b u->HB (CA H p o) Z b u\/KB K Z b u)/\∀b u,M b=some u->(∀d,Z b d->KB K Z b d)/\MB (CA H p o) Z b u:=by
 refine⟨λb u z=>?_,λb u q=>?_⟩
 .rcases h.z b u z with k|k
  .exact .inl (k.at (HL λq=>k.some (by rw[q];exact e)))
  .exact .inr k
 .obtain⟨k1,k2⟩:=h.m b u q;exact⟨k1,k2.at (HL λq=>k2.some (by rw[q];exact e))⟩
theorem HR.datum (h:HR K H M Z)(e:H p=none){o:HO}(hb:HB (CA H p o) Z p d):HR K (CA H p o) M (ext Z p d):=by
 obtain⟨h1,h2⟩:=h.lay e o;have mn:=h.fresh e;refine⟨λb u z=>?_,λb u q=>?_⟩
 .rcases z with z|⟨rfl,rfl⟩
  .rcases h1 b u z with k|k
   .exact .inl (k.mono Le.ext)
   .exact .inr (k.mono Le.ext)
  .exact .inl (hb.mono Le.ext)
 .obtain⟨k1,k2⟩:=h2 b u q;refine⟨λd' z=>?_,k2.mono Le.ext⟩;rcases z with z|⟨rfl,rfl⟩
  .exact(k1 d' z).mono Le.ext
  .rw[mn]at q;cases q
theorem HR.newT (h:HR K H M Z)(e:H p=none){vs:List V}{ds:List D}(a:Dq Z vs ds):HR K (CA H p (.tup vs)) M (ext Z p (.tup ds)):=h.datum e ⟨vs,Mn,a⟩
theorem HR.newF (h:HR K H M Z)(e:H p=none){vs:List V}{ds:List D}(a:Dq Z vs ds):HR K (CA H p (.lst vs)) M (ext Z p (.lst ds)):=h.datum e ⟨vs,.inl Mn,a⟩
theorem HR.newFD (h:HR K H M Z)(e:H p=none){vs:List (B4×V)}{ds:List (B4×D)}(a:Cq Z vs ds):HR K (CA H p (.dK vs)) M (ext Z p (.dic ds)):=h.datum e ⟨vs,.inl Mn,a⟩
theorem ra :At (ext Z p (.dct xs)) (.ref p) (.dct xs):=⟨p,rfl,.inr ⟨rfl,rfl⟩⟩
theorem qQ :At (ext Z p (.tup xs)) (.ref p) (.tup xs):=⟨p,rfl,.inr ⟨rfl,rfl⟩⟩
theorem Z9 :At (ext Z p (.lst xs)) (.ref p) (.lst xs):=⟨p,rfl,.inr ⟨rfl,rfl⟩⟩
theorem qP :At (ext Z p (.dic xs)) (.ref p) (.dic xs):=⟨p,rfl,.inr ⟨rfl,rfl⟩⟩
theorem HR.newM (h:HR K H M Z)(e:H p=none){o:HO}{u:MO}(hb:MB (CA H p o) Z p u):HR K (CA H p o) (put M p u) Z:=by
 obtain⟨h1,h2⟩:=h.lay e o;refine⟨h1,λb w q=>?_⟩;by_cases hbp:b=p
 .subst hbp;rw[C8]at q;cases q;refine⟨λd z=>?_,hb⟩;rcases h.z b d z with k|k
  .exact absurd e k.some
  .exact k
 .rw[Ds hbp]at q;exact h2 b w q
theorem HR.newL (h:HR K H M Z)(e:H p=none){vs:List V}{ds:List D}(a:Dq Z vs ds):HR K (CA H p (.lst vs)) (put M p (.lst ds)) Z:=h.newM e ⟨vs,Mn,a⟩
theorem HR.newD (h:HR K H M Z)(e:H p=none){vs:List (B4×V)}{ds:List (B4×D)}(a:Cq Z vs ds):HR K (CA H p (.dK vs)) (put M p (.dic ds)) Z:=h.newM e ⟨vs,Mn,a⟩
theorem HR.chg (h:HR K H M Z){u u':MO}{o:HO}(e:M p=some u)(hb:MB (CA H p o) Z p u'):HR K (CA H p o) (put M p u') Z:=by
 obtain⟨hk,_⟩:=h.m p u e;refine⟨λb d z=>?_,λb w q=>?_⟩
 .by_cases hbp:b=p
  .subst hbp;exact .inr (hk d z)
  .rcases h.z b d z with k|k
   .exact .inl (k.at (HL hbp))
   .exact .inr k
 .by_cases hbp:b=p
  .subst hbp;rw[C8]at q;cases q;exact⟨hk,hb⟩
  .rw[Ds hbp]at q;obtain⟨k1,k2⟩:=h.m b w q;exact⟨k1,k2.at (HL hbp)⟩
theorem HR.chgL (h:HR K H M Z){u:MO}(e:M p=some u){vs:List V}{ds:List D}(a:Dq Z vs ds):HR K (CA H p (.lst vs)) (put M p (.lst ds)) Z:=h.chg e ⟨vs,Mn,a⟩
theorem HR.chgD (h:HR K H M Z){u:MO}(e:M p=some u){vs:List (B4×V)}{ds:List (B4×D)}(a:Cq Z vs ds):HR K (CA H p (.dK vs)) (put M p (.dic ds)) Z:=h.chg e ⟨vs,Mn,a⟩
theorem HR.frzM (h:HR K H M Z){u:MO}(e:M p=some u)(hb:HB H Z p d):HR K H (JA M p) (ext Z p d):=by
 refine⟨λb d' z=>?_,λb w q=>?_⟩
 .rcases z with z|⟨rfl,rfl⟩
  .rcases h.z b d' z with k|k
   .exact .inl (k.mono Le.ext)
   .exact .inr (k.mono Le.ext)
  .exact .inl (hb.mono Le.ext)
 .unfold JA at q;split at q
  .cases q
  .next hbp=>
   obtain⟨k1,k2⟩:=h.m b w q;refine⟨λd' z=>?_,k2.mono Le.ext⟩;rcases z with z|⟨z,_⟩
   .exact(k1 d' z).mono Le.ext
   .exact absurd z hbp
theorem HR.frzL (h:HR K H M Z){ds:List D}(e:M p=some (.lst ds)):HR K H (JA M p) (ext Z p (.lst ds)):=by
 obtain⟨_,vs,r,a⟩:=h.m p _ e;exact h.frzM e ⟨vs,.inl r,a⟩
theorem HR.frzD (h:HR K H M Z){ds:List (B4×D)}(e:M p=some (.dic ds)):HR K H (JA M p) (ext Z p (.dic ds)):=by
 obtain⟨_,vs,r,a⟩:=h.m p _ e;exact h.frzM e ⟨vs,.inl r,a⟩
theorem HR.frzDT (h:HR K H M Z){ds:List (List B4×D)}(e:M p=some (.dct ds)):HR K H (JA M p) (ext Z p (.dct ds)):=by
 obtain⟨_,vs,r,a⟩:=h.m p _ e;exact h.frzM e ⟨vs,.inl r,a⟩
theorem HR.rdT (h:HR K H M Z){v:V}{ds:List D}(a:At Z v (.tup ds)):∃p vs,v=.ref p/\Lo K H p vs/\Dq Z vs ds:=by
 obtain⟨p,rfl,z⟩:=a;rcases h.z p _ z with⟨vs,r,a⟩|⟨_,vs,r,a⟩
 .exact⟨p,vs,rfl,.inl (.inl r),a⟩
 .exact⟨p,vs,rfl,.inr r,a⟩
theorem HR.rdK (hg:Qt=false)(h:HR K H M Z){v:V}{ds:List D}(a:At Z v (.tup ds)):∃p vs,v=.ref p/\H p=some (.tup vs)/\Dq Z vs ds:=by
 obtain⟨p,rfl,z⟩:=a;rcases h.z p _ z with⟨vs,r,a⟩|⟨g,_⟩
 .exact⟨p,vs,rfl,r,a⟩
 .rw[hg]at g;cases g
theorem HR.rdF (h:HR K H M Z){v:V}{ds:List D}(a:At Z v (.lst ds)):∃p vs,v=.ref p/\FH K H p vs/\Dq Z vs ds:=by
 obtain⟨p,rfl,z⟩:=a;rcases h.z p _ z with⟨vs,r,a⟩|⟨vs,r,a⟩
 .exact⟨p,vs,rfl,.inl r,a⟩
 .exact⟨p,vs,rfl,.inr r,a⟩
theorem HR.rdM (h:HR K H M Z){ds:List D}(e:M p=some (.lst ds)):∃vs,H p=some (.lst vs)/\Dq Z vs ds:=(h.m p _ e).2
theorem HR.rdMT (h:HR K H M Z){ds:List (List B4×D)}(e:M p=some (.dct ds)):∃vs,H p=some (.dT vs)/\Cq Z vs ds:=(h.m p _ e).2
theorem HR.rdMO (h:HR K H M Z){C:Av}{fs:List (Str×D)}(e:M p=some (.obj C fs)):∃dx vs,H p=some (.ins C dx vs)/\Cq Z vs fs:=(h.m p _ e).2
theorem HR.rdMD (h:HR K H M Z){ds:List (B4×D)}(e:M p=some (.dic ds)):∃vs,H p=some (.dK vs)/\Cq Z vs ds:=(h.m p _ e).2
noncomputable def Bf (M:Mp):D->Option (List D)
 |.lst ds=>some ds
 |.ref p=>match M p with
  |some (.lst ds)=>some ds
  |_=>none
 |_=>none
noncomputable def Hz (M:Mp):D->Option (List D)
 |.tup ds=>some ds
 |d=>Bf M d
theorem HR.rdL (h:HR K H M Z){v:V}{d:D}{ds:List D}(e:Bf M d=some ds)(a:At Z v d):∃p vs,v=.ref p/\FH K H p vs/\Dq Z vs ds:=by
 cases d with
 |lst xs=>cases e;exact h.rdF a
 |ref p=>
  cases(show v=.ref p from a);unfold Bf at e;simp only at e;split at e
  .next q=>
   cases e;obtain⟨vs,r,a⟩:=h.rdM q;exact⟨p,vs,rfl,FH.of r,a⟩
  .cases e
 |_=>cases e
theorem HR.rdS (h:HR K H M Z){v:V}{d:D}{ds:List D}(e:Hz M d=some ds)(a:At Z v d):∃p vs,v=.ref p/\(FH K H p vs\/Lo K H p vs)/\Dq Z vs ds:=by
 have go:Bf M d=some ds->∃p vs,v=.ref p/\(FH K H p vs\/Lo K H p vs)/\Dq Z vs ds:=λe=>by
  obtain⟨p,vs,e1,s,a⟩:=h.rdL e a;exact⟨p,vs,e1,.inl s,a⟩
 cases d with
 |tup xs=>cases e;obtain⟨p,vs,e1,s,a⟩:=h.rdT a;exact⟨p,vs,e1,.inr s,a⟩
 |lst xs=>exact go e
 |ref p=>exact go e
 |_=>cases e
end
abbrev St:=L2.St
abbrev Gu:=List (Option D)
abbrev El:=D->Mp->Prop
abbrev DV:=Gu->Mp->El->Prop
abbrev KH:=Gu->Mp->(Bool->Mp->Prop)->Prop
abbrev Kc:=Gu->Mp->(List D->Mp->Prop)->Prop
abbrev YF:=Gu->Mp->(Option Int->Mp->Prop)->Prop
structure JQ where
 nx:Gu->Mp->Prop
 rt:El
 bk:Gu->Mp->Prop:=λ_ _=>False
 ct:Gu->Mp->Prop:=λ_ _=>False
abbrev Ht:=JQ->Gu->Mp->Prop
abbrev KJ:=D->D->Mp->El->Prop
abbrev DO:=List D->Mp->El->Prop
def OA (Z:Zt):Option V->Option D->Prop
 |_,none=>True
 |some v,some d=>At Z v d
 |none,some _=>False
abbrev Gs (Z:Zt):St->Gu->Prop:=D0 (OA Z)
theorem OA.mono {Z Z':Zt}(l:Le Z Z'){v:Option V}{d:Option D}(h:OA Z v d):OA Z' v d:=by
 cases d with
 |none=>cases v<;>exact Ch
 |some d=>cases v with
  |none=>exact h
  |some v=>exact At.mono l h
theorem Gs.mono (l:Le Z Z'):∀{U:St}{τ:Gu},Gs Z U τ->Gs Z' U τ
 |_,_,.nil=>.nil
 |_,_,.cons r t=>.cons (OA.mono l r) (Gs.mono l t)
theorem Gs.set (r:At Z x d):∀{U:St}{τ:Gu}(i:Nat),Gs Z U τ->Gs Z (U.set i (some x)) (τ.set i (some d))
 |_,_,_,.nil=>.nil
 |_,_,0,.cons _ t=>.cons r t
 |_,_,i+1,.cons q t=>.cons q (Gs.set r i t)
theorem Gs.get :∀{U:St}{τ:Gu}{i:Nat}{d:D},Gs Z U τ->τ[i]? = some (some d)->∃v,U[i]? = some (some v)/\At Z v d
 |_,_,_,_,.nil,e=>by simp at e
 |v::_,_,0,_,.cons r _,e=>by
  simp at e;subst e;cases v with
  |none=>exact r.elim
  |some v=>exact⟨v,rfl,r⟩
 |_,_,i+1,d,.cons _ t,e=>by
  obtain⟨v,h1,h2⟩:=Gs.get t (by simpa using e);exact⟨v,by simpa using h1,h2⟩
def EW (x:D)(k:Int->Prop):Prop:=match x with
 |.int i=>k i
 |_=>False
def Q9 (x:D)(k:Bool->Prop):Prop:=match x with
 |.bl b=>k b
 |_=>False
def Gb (x:D)(k:Str->Prop):Prop:=match x with
 |.str b=>k b
 |_=>False
def JO (x:D)(k:Av->Prop):Prop:=match x with
 |.ref b=>k b
 |_=>False
def Ck (o:Option α)(k:α->Prop):Prop:=match o with
 |some x=>k x
 |none=>False
theorem CU (h:EW x k):∃i,x=.int i/\k i:=by
 cases x with
 |int i=>exact⟨i,rfl,h⟩
 |_=>exact h.elim
theorem RU {x:D}{k:Bool->Prop}(h:Q9 x k):∃i,x=.bl i/\k i:=by
 cases x with
 |bl i=>exact⟨i,rfl,h⟩
 |_=>exact h.elim
theorem D4 (h:Gb x k):∃i,x=.str i/\k i:=by
 cases x with
 |str i=>exact⟨i,rfl,h⟩
 |_=>exact h.elim
theorem Ib (h:JO x k):∃i,x=.ref i/\k i:=by
 cases x with
 |ref i=>exact⟨i,rfl,h⟩
 |_=>exact h.elim
theorem Ci (h:Ck x k):∃i,x=some i/\k i:=by
 cases x with
 |some i=>exact⟨i,rfl,h⟩
 |none=>exact h.elim
section
variable (K:Ac)
def Hs (Z:Zt)(Q2:El)(Q:VK):Prop:=∀Z' v d H' M',Le Z Z'->HR K H' M' Z'->At Z' v d->Q2 d M'->Q v H'
def lE (t:DV):TE:=λU H Q=>∃Z τ M Q2,Gs Z U τ/\HR K H M Z/\t τ M Q2/\Hs K Z Q2 Q
def lT (t:KH):TT:=λU H Q=>∃Z τ M Q2,Gs Z U τ/\HR K H M Z/\t τ M Q2/\∀Z' b H' M',Le Z Z'->HR K H' M' Z'->Q2 b M'->Q b H'
def lA (t:Kc):TA:=λU H Q=>∃Z τ M Q2,Gs Z U τ/\HR K H M Z/\t τ M Q2/\∀Z' vs ds H' M',Le Z Z'->HR K H' M' Z'->Dq Z' vs ds->Q2 ds M'->Q vs H'
def lO (t:YF):TO:=λU H Q=>∃Z τ M Q2,Gs Z U τ/\HR K H M Z/\t τ M Q2/\∀Z' b H' M',Le Z Z'->HR K H' M' Z'->Q2 b M'->Q b H'
def Rk (Z:Zt)(Q2:Gu->Mp->Prop)(Q:St->Hp->Prop):Prop:=∀Z' U τ H' M',Le Z Z'->Gs Z' U τ->HR K H' M' Z'->Q2 τ M'->Q U H'
structure ER (Z:Zt)(D2:JQ)(D:Oa):Prop where
 nx:Rk K Z D2.nx D.nx
 rt:Hs K Z D2.rt D.rt
 bk:Rk K Z D2.bk D.bk
 ct:Rk K Z D2.ct D.ct
def lS (t:Ht):TS:=λD U H=>∃Z τ M D2,Gs Z U τ/\HR K H M Z/\t D2 τ M/\ER K Z D2 D
def lR (r:KJ):R2:=λx y H Q=>∃Z dx dy M Q2,HR K H M Z/\At Z x dx/\At Z y dy/\r dx dy M Q2/\Hs K Z Q2 Q
def lC (r:List D->Mp->El->Prop):List V->Hp->VK->Prop:=λxs H Q=>∃Z ds M Q2,HR K H M Z/\Dq Z xs ds/\r ds M Q2/\Hs K Z Q2 Q
def lU (r:D->Mp->El->Prop):V->Hp->VK->Prop:=λx H Q=>∃Z d M Q2,HR K H M Z/\At Z x d/\r d M Q2/\Hs K Z Q2 Q
def lSp (sp:DO):Sp:=λvs H Q _=>∃Z ds M Q2,HR K H M Z/\Dq Z vs ds/\sp ds M Q2/\Hs K Z Q2 Q
end
section
variable {K:Ac}
theorem Hs.le (h:Hs K Z Q2 Q)(l:Le Z Z'):Hs K Z' Q2 Q:=λZ1 v d H M l1 hr a q=>h Z1 v d H M (l.trans l1) hr a q
theorem Rk.le {Q2:Gu->Mp->Prop}{Q:St->Hp->Prop}(h:Rk K Z Q2 Q)(l:Le Z Z'):Rk K Z' Q2 Q:=λZ1 v d H M l1 hr a q=>h Z1 v d H M (l.trans l1) hr a q
theorem ER.le {D2:JQ}{D:Oa}(h:ER K Z D2 D)(l:Le Z Z'):ER K Z' D2 D:=⟨h.nx.le l,h.rt.le l,h.bk.le l,h.ct.le l⟩
theorem Hs.dn {Q2:El}{Q:VK}(h:Hs K Z Q2 Q):Hs K Z (λd M=>∃M0,Sub M0 M/\Q2 d M0) Q:=λZ1 v d H M l1 hr a ⟨M0,s,q⟩=>h Z1 v d H M0 l1 (hr.sub s) a q
end
@[irreducible] def BY (X:Cx)(e:Ca)(t:DV):Prop:=PE X e (lE X.K t)
unseal BY
@[irreducible] def HM (X:Cx)(e:Ca)(t:KH):Prop:=PT X e (lT X.K t)
unseal HM
@[irreducible] def Jl (X:Cx)(e:Ca)(t:KH):Prop:=PW X e (lT X.K t)
unseal Jl
@[irreducible] def Gc (X:Cx)(es:List Ca)(t:Kc):Prop:=PA X es (lA X.K t)
unseal Gc
@[irreducible] def Kd (X:Cx)(e:Option Ca)(t:YF):Prop:=PO X e (lO X.K t)
unseal Kd
@[irreducible] def GN (X:Cx)(st:DG)(t:Ht):Prop:=PS X st (lS X.K t)
unseal GN
@[irreducible] def Dd (X:Cx)(st:List DG)(t:Ht):Prop:=KL X st (lS X.K t)
unseal Dd
@[irreducible] def Cb (X:Cx)(f:Ai->Ai->Sem Ai)(r:KJ):Prop:=F6 X f (lR X.K r)
unseal Cb
@[irreducible] def FP (X:Cx)(f:Ai->Sem Ai)(r:D->Mp->El->Prop):Prop:=Rj X f (lU X.K r)
unseal FP
@[irreducible] def BS (X:Cx)(f:Ai)(r:List D->Mp->El->Prop):Prop:=E7 X f (lC X.K r)
unseal BS
@[irreducible] def FC (X:Cx)(r:KJ):Prop:=O6 X (lR X.K r)
unseal FC
section
variable {X:Cx}
theorem PE.mono {e:Ca}{t t':TE}(h:PE X e t)(m:∀U H Q,t' U H Q->t U H Q):PE X e t':=λAe s U H Q I q=>h Ae s U H Q I (m U H Q q)
theorem PT.mono {e:Ca}{t t':TT}(h:PT X e t)(m:∀U H Q,t' U H Q->t U H Q):PT X e t':=λAe s U H Q I q=>h Ae s U H Q I (m U H Q q)
theorem PW.mono (h:PW X e t)(m:∀U H Q,t' U H Q->t U H Q):PW X e t':=λwh Ae s U H Q I q=>h wh Ae s U H Q I (m U H Q q)
theorem PA.mono (h:PA X e t)(m:∀U H Q,t' U H Q->t U H Q):PA X e t':=λpos Ae s U H Q I q=>h pos Ae s U H Q I (m U H Q q)
theorem PO.mono (h:PO X e t)(m:∀U H Q,t' U H Q->t U H Q):PO X e t':=λAe s U H Q I q=>h Ae s U H Q I (m U H Q q)
theorem PS.mono (h:PS X e t)(m:∀D U H,t' D U H->t D U H):PS X e t':=λAe s U H D I q=>h Ae s U H D I (m D U H q)
theorem KL.mono (h:KL X e t)(m:∀D U H,t' D U H->t D U H):KL X e t':=λAe s U H D I q=>h Ae s U H D I (m D U H q)
theorem F6.mono (h:F6 X f r)(m:∀x y H Q,r' x y H Q->r x y H Q):F6 X f r':=λAe s U H x y v u Q I rx ry q=>h Ae s U H x y v u Q I rx ry (m x y H Q q)
theorem Rj.mono (h:Rj X f r)(m:∀x H Q,r' x H Q->r x H Q):Rj X f r':=λAe s U H x v Q I rx q=>h Ae s U H x v Q I rx (m x H Q q)
theorem E7.mono (h:E7 X f r)(m:∀x H Q,r' x H Q->r x H Q):E7 X f r':=λAe s U H x v Q I rx q=>h Ae s U H x v Q I rx (m x H Q q)
theorem O6.mono (h:O6 X r)(m:∀x y H Q,r' x y H Q->r x y H Q):O6 X r':=λvalue slice Ae s U H x y v u Q I rx ry q hs=>h value slice Ae s U H x y v u Q I rx ry (m x y H Q q) hs
def GB (i:Nat):DV:=λτ M Q=>Ck (τ[i]?).join λd=>Q d M
def uC (d:D):DV:=λ_ M Q=>Q d M
theorem qv (i:Nat)(hN:X.N[i]? = some x:=by rfl)(hv:YE X.env.scope x:=by first | exact BX rfl | exact G4 (BX rfl) | exact G4 (G4 rfl))(hd:(x == ("__debug__":Str))=false:=by decide)
  (hcd:(x == ("__classdict__":Str))=false:=by decide):BY X (.Name x pos) (GB i):=PE.mono (pv i hN hv hd hcd) λU H Q ⟨Z,τ,M,Q2,st,hr,h,k⟩=>by
 obtain⟨d,e,q⟩:=Ci h;obtain⟨v,e1,a⟩:=st.get (ET.mp e);exact⟨v,e1,k Z v d H M (Le.refl _) hr a q⟩
theorem qc (h:PE X e (tC v))(a:∀Z,At Z v d):BY X e (uC d):=PE.mono h λU H Q ⟨Z,τ,M,Q2,st,hr,q,k⟩=>k Z v d H M (Le.refl _) hr (a Z) q
theorem Aj {i j pos}:BY X (.Constant (.int i) j pos) (uC (.int i)):=qc i4 λ_=>rfl
theorem T8 {b j pos}:BY X (.Constant (.bool b) j pos) (uC (.bl b)):=qc ab λ_=>rfl
theorem T4 {j pos}:BY X (.Constant .none j pos) (uC .non):=qc i5 λ_=>rfl
theorem BQ {x j pos}:BY X (.Constant (.str x) j pos) (uC (.str x)):=qc i8 λ_=>rfl
theorem Ii (hm:X.mg x=some (.int i t))(hg:Gl X x:=by rfl)(hd:(x == ("__debug__":Str))=false:=by decide):BY X (.Name x pos) (uC (.int i)):=qc (XM hm hg hd) λ_=>rfl
theorem Ql (hm:X.mg x=some (.ref h))(hg:Gl X x:=by rfl)(hd:(x == ("__debug__":Str))=false:=by decide):BY X (.Name x pos) (uC (.ref h)):=qc (T9 hm hg hd) λ_=>rfl
theorem mO (hm:X.mg x=none)(hv:DD x=some (.type T))(hg:Gl X x:=by rfl)(hn:x≠"__name__":=by decide)(hd:(x == ("__debug__":Str))=false:=by decide):BY X (.Name x pos) (uC (.ty T)):=qc (xV hm hv hg hn hd) λ_=>rfl
variable {a b c e:Ca}{ta tb tc te:DV}{pos:Pos}
theorem lE.bind {K:Ac}{U:St}{H:Hp}{Z:Zt}{τ:Gu}{M:Mp}{R:El}{Q:VK}(st:Gs Z U τ)(hr:HR K H M Z)(h:ta τ M R)
  (k:∀Z' v d H' M',Le Z Z'->HR K H' M' Z'->At Z' v d->R d M'->Q v H'):lE K ta U H Q:=⟨Z,τ,M,R,st,hr,h,k⟩
def Vn (r:KJ)(ta tb:DV):DV:=λτ M Q=>ta τ M λx M1=>tb τ M1 λy M2=>r x y M2 Q
theorem ZB {K:Ac}{r:KJ}:∀U H Q,lE K (Vn r ta tb) U H Q->W6 (lR K r) (lE K ta) (lE K tb) U H Q:=by
 intro U H Q;ext1⟨Z,τ,M,Q2,st,hr,h,k⟩;refine lE.bind st hr h λZ1 x dx H1 M1 l1 h1 a1 q1=>lE.bind (st.mono l1) h1 q1 λZ2 y dy H2 M2 l2 h2 a2 q2=>?_;exact⟨Z2,dx,dy,M2,Q2,h2,a1.mono l2,a2,q2,k.le (l1.trans l2)⟩
theorem BC (ho:Cb X (Bt op) r)(ha:BY X a ta)(hb:BY X b tb):BY X (.BinOp a op b pos) (Vn r ta tb):=PE.mono (af ho ha hb) ZB
theorem Be (hr:FC X r)(ha:BY X a ta)(hb:BY X b tb)(hs:OF b:=by exact λ_ _=>rfl):BY X (.Subscript a b pos) (Vn r ta tb):=PE.mono (ae hr ha hb hs) ZB
theorem Jx (ho:Cb X (A7 op) r)(ha:BY X a ta)(hb:BY X b tb)(hm:FT op b=false:=by exact Qr _):BY X (.Compare a [op] [b] pos) (Vn r ta tb):=PE.mono (pj ho ha hb hm) ZB
def Ov (t:DV):KH:=λτ M Q=>t τ M λx M1=>Q9 x λc=>Q c M1
theorem S5 {K:Ac}{t1:TE}(m:∀U H Q,lE K te U H Q->t1 U H Q):∀U H Q,lT K (Ov te) U H Q->t1 U H λx H1=>∃k,x=.bl k/\Q k H1:=by
 intro U H Q;ext1⟨Z,τ,M,Q2,st,hr,h,k⟩;refine m _ _ _ (lE.bind st hr h λZ1 x dx H1 M1 l1 h1 a1 q1=>?_);obtain⟨c,rfl,q⟩:=RU q1;exact⟨c,a1,k Z1 c H1 M1 l1 h1 q⟩
theorem AX {op:CmpOp}{r:KJ}(ho:Cb X (A7 op) r)(ha:BY X a ta)(hb:BY X b tb)(hm:FT op b=false:=by exact Qr _):HM X (.Compare a [op] [b] pos) (Ov (Vn r ta tb)):=PT.mono (nj ho ha hb hm) (S5 ZB)
theorem GF {t:DV}(h:BY X e t)(he:∀whole,PZ e X.env whole=(do let v <- whole;MQ e.pos;Gy [v] (truthy v)):=by intro _;rfl):HM X e (Ov t):=PT.mono (ga h he) (S5 λ_ _ _ h=>h)
def NL (r r':KJ)(ta tb tc:DV):DV:=λτ M Q=>ta τ M λx M1=>tb τ M1 λy M2=>r x y M2 λz M3=>Q9 z λk=>if k=true then tc τ M3 λw M4=>r' y w M4 Q else Q (.bl false) M3
theorem Uh {K:Ac} :∀U H Q,lE K (NL r r' ta tb tc) U H Q->Qd (lR K r) (lR K r') (lE K ta) (lE K tb) (lE K tc) U H Q:=by
 intro U H Q;ext1⟨Z,τ,M,Q2,st,hr,h,k⟩;refine lE.bind st hr h λZ1 x dx H1 M1 l1 h1 a1 q1=>lE.bind (st.mono l1) h1 q1 λZ2 y dy H2 M2 l2 h2 a2 q2=>?_;refine⟨Z2,dx,dy,M2,_,h2,a1.mono l2,a2,q2,λZ3 z dz H3 M3 l3 h3 a3 q3=>?_⟩;obtain⟨c,rfl,q⟩:=RU q3;refine⟨c,a3,?_⟩;cases c with
 |false=>rw[if_neg Al]at q ⊢;exact k Z3 (.bl false) (.bl false) H3 M3 (l1.trans (l2.trans l3)) h3 rfl q
 |true=>rw[if_pos rfl]at q ⊢;refine lE.bind (st.mono (l1.trans (l2.trans l3))) h3 q λZ4 w dw H4 M4 l4 h4 a4 q4=>?_;exact⟨Z4,dy,dw,M4,Q2,h4,a2.mono (l3.trans l4),a4,q4,k.le (l1.trans (l2.trans (l3.trans l4)))⟩
theorem NR (ho:Cb X (A7 op) r)(ho':Cb X (A7 op') r')(ha:BY X a ta)(hb:BY X b tb)(hc:BY X c tc)
  (hm:lastMarks [op,op'] [b,c]=false:=by with_unfolding_all rfl):BY X (.Compare a [op,op'] [b,c] pos) (NL r r' ta tb tc):=PE.mono (rg ho ho' ha hb hc hm) Uh
def mC (r:D->Mp->El->Prop)(ta:DV):DV:=λτ M Q=>ta τ M λx M1=>r x M1 Q
theorem Q6 {op:UnaryOp}{r:D->Mp->El->Prop}(ho:FP X (MP op) r)(ha:BY X a ta):BY X (.UnaryOp op a pos) (mC r ta):=PE.mono (ah ho ha) (by
 intro U H Q;ext1⟨Z,τ,M,Q2,st,hr,h,k⟩;exact lE.bind st hr h λZ1 x dx H1 M1 l1 h1 a1 q1=>⟨Z1,dx,M1,Q2,h1,a1,q1,k.le l1⟩)
variable {tB:KH}{C6:List Ca}
def W3 (t u:KH):KH:=λτ M Q=>t τ M λc M1=>if c=true then u τ M1 Q else Q false M1
def mF (t u:KH):KH:=λτ M Q=>t τ M λc M1=>if c=true then Q true M1 else u τ M1 Q
def WV (t:KH):KH:=λτ M Q=>t τ M λc M1=>Q (!c) M1
theorem lT.bind {K:Ac}(st:Gs Z U τ)(hr:HR K H M Z)(h:tA τ M R)
  (k:∀Z' b H' M',Le Z Z'->HR K H' M' Z'->R b M'->Q b H'):lT K tA U H Q:=⟨Z,τ,M,R,st,hr,h,k⟩
theorem VS (ha:HM X a tA):Jl X (.BoolOp .And [a] pos) tA:=np ha
theorem VF (ha:HM X a tA):Jl X (.BoolOp .Or [a] pos) tA:=gf ha
theorem VE (ha:HM X a tA)(hb:Jl X (.BoolOp .And (b::C6) pos) tB):Jl X (.BoolOp .And (a::b::C6) pos) (W3 tA tB):=PW.mono (gc ha hb) (by
 intro U H Q;ext1⟨Z,τ,M,Q2,st,hr,h,k⟩;refine lT.bind st hr h λZ1 c H1 M1 l1 h1 q1=>?_;cases c with
 |true=>rw[if_pos rfl]at q1 ⊢;exact lT.bind (st.mono l1) h1 q1 λZ2 c H2 M2 l2 h2 q2=>k Z2 c H2 M2 (l1.trans l2) h2 q2
 | false=>rw [if_neg Al] at q1 ⊢;exact k Z1 false H1 M1 l1 h1 q1)
theorem Tf (ha:HM X a tA)(hb:Jl X (.BoolOp .Or (b::C6) pos) tB):Jl X (.BoolOp .Or (a::b::C6) pos) (mF tA tB):=PW.mono (ak ha hb) (by
 intro U H Q;ext1⟨Z,τ,M,Q2,st,hr,h,k⟩;refine lT.bind st hr h λZ1 c H1 M1 l1 h1 q1=>?_;cases c with
 |false=>rw[if_neg Al]at q1 ⊢;exact lT.bind (st.mono l1) h1 q1 λZ2 c H2 M2 l2 h2 q2=>k Z2 c H2 M2 (l1.trans l2) h2 q2
 | true=>rw [if_pos rfl] at q1 ⊢;exact k Z1 true H1 M1 l1 h1 q1)
theorem Jl.pt (h:Jl X e t):HM X e t:=PW.pt (show PW X e (lT X.K t)from h)
theorem Li (ha:HM X a tA):HM X (.UnaryOp .Not a pos) (WV tA):=PT.mono (f8 ha) (by
 intro U H Q;ext1⟨Z,τ,M,Q2,st,hr,h,k⟩;exact lT.bind st hr h λZ1 c H1 M1 l1 h1 q1=>k Z1 _ H1 M1 l1 h1 q1)
def SQ (ta tb:DV):DV:=λτ M Q=>ta τ M λx M1=>Q9 x λc=>if c=true then tb τ M1 Q else Q (.bl false) M1
def WU (ta tb:DV):DV:=λτ M Q=>ta τ M λx M1=>Q9 x λc=>if c=true then Q (.bl true) M1 else tb τ M1 Q
theorem NQ {op}(h:BY X a t):BY X (.BoolOp op [a] pos) t:=i7 h
theorem RP (ha:BY X a ta)(hb:BY X (.BoolOp .And (b::C6) pos) tb):BY X (.BoolOp .And (a::b::C6) pos) (SQ ta tb):=PE.mono (ir ha hb) (by
 intro U H Q;ext1⟨Z,τ,M,Q2,st,hr,h,k⟩;refine lE.bind st hr h λZ1 x dx H1 M1 l1 h1 a1 q1=>?_;obtain⟨c,rfl,q1'⟩:=RU q1;replace q1:=q1';refine⟨c,a1,?_⟩;cases c with
 |true=>rw[if_pos rfl]at q1 ⊢;exact lE.bind (st.mono l1) h1 q1 λZ2 y dy H2 M2 l2 h2 a2 q2=>k Z2 y dy H2 M2 (l1.trans l2) h2 a2 q2
 | false=>rw [if_neg Al] at q1 ⊢;exact k Z1 (.bl false) (.bl false) H1 M1 l1 h1 rfl q1)
theorem fZ (ha:BY X a ta)(hb:BY X (.BoolOp .Or (b::C6) pos) tb):BY X (.BoolOp .Or (a::b::C6) pos) (WU ta tb):=PE.mono (ag ha hb) (by
 intro U H Q;ext1⟨Z,τ,M,Q2,st,hr,h,k⟩;refine lE.bind st hr h λZ1 x dx H1 M1 l1 h1 a1 q1=>?_;obtain⟨c,rfl,q1'⟩:=RU q1;replace q1:=q1';refine⟨c,a1,?_⟩;cases c with
 |false=>rw[if_neg Al]at q1 ⊢;exact lE.bind (st.mono l1) h1 q1 λZ2 y dy H2 M2 l2 h2 a2 q2=>k Z2 y dy H2 M2 (l1.trans l2) h2 a2 q2
 | true=>rw [if_pos rfl] at q1 ⊢;exact k Z1 (.bl true) (.bl true) H1 M1 l1 h1 rfl q1)
def mG (t:KH)(ta tb:DV):DV:=λτ M Q=>t τ M λc M1=>if c=true then ta τ M1 Q else tb τ M1 Q
theorem Jw (hc:HM X c tA)(ha:BY X a ta)(hb:BY X b tb):BY X (.IfExp c a b pos) (mG tA ta tb):=PE.mono (rm hc ha hb) (by
 intro U H Q;ext1⟨Z,τ,M,Q2,st,hr,h,k⟩;refine lT.bind st hr h λZ1 c H1 M1 l1 h1 q1=>?_;cases c with
 |true=>rw[if_pos rfl]at q1 ⊢;exact lE.bind (st.mono l1) h1 q1 λZ2 y dy H2 M2 l2 h2 a2 q2=>k Z2 y dy H2 M2 (l1.trans l2) h2 a2 q2
 | false=>rw [if_neg Al] at q1 ⊢;exact lE.bind (st.mono l1) h1 q1 λZ2 y dy H2 M2 l2 h2 a2 q2=>k Z2 y dy H2 M2 (l1.trans l2) h2 a2 q2)
variable {es:List Ca}{t:Kc}
def TR:Kc:=λ_ M Q=>Q [] M
def SN (ta:DV)(tr:Kc):Kc:=λτ M Q=>ta τ M λx M1=>tr τ M1 λxs M2=>Q (x::xs) M2
theorem qN:Gc X [] TR:=PA.mono ZW λU H Q ⟨Z,τ,M,Q2,st,hr,h,k⟩=>k Z [] [] H M (Le.refl _) hr .nil h
theorem qA (ha:BY X e te)(hr:Gc X es t)(hs:As (e::es) X.env=(false,eval e X.env)::As es X.env:=by rfl):Gc X (e::es) (SN te t):=PA.mono (aB ha hr hs) (by
 intro U H Q;ext1⟨Z,τ,M,Q2,st,hr,h,k⟩;refine lE.bind st hr h λZ1 x dx H1 M1 l1 h1 a1 q1=>⟨Z1,τ,M1,_,st.mono l1,h1,q1,λZ2 vs ds H2 M2 l2 h2 a2 q2=>?_⟩;exact k Z2 (x::vs) (dx::ds) H2 M2 (l1.trans l2) h2 (.cons (a1.mono l2) a2) q2)
def WO (t:Kc):DV:=λτ M Q=>t τ M λxs M1=>xs.length<=Am/\Q (.tup xs) M1
def SG (t:Kc):DV:=λτ M Q=>t τ M λxs M1=>xs.length<=Am/\Q (.lst xs) M1
def WW (t:Kc):DV:=λτ M Q=>t τ M λxs M1=>xs.length<=Am/\∀p,M1 p=none->Q (.ref p) (put M1 p (.lst xs))
theorem CB {x1}(h:Gc X es t):BY X (.Tuple es x1 pos) (WO t):=PE.mono (i9 h) (by
 intro U H Q;ext1⟨Z,τ,M,Q2,st,hr,h,k⟩;refine ⟨Z,τ,M,_,st,hr,h,λZ1 vs ds H1 M1 l1 h1 a1 q1=>⟨by rw [a1.length];exact q1.1,λp hp=>?_⟩⟩;exact k _ (.ref p) (.tup ds) _ M1 (l1.trans Le.ext) (h1.newT hp a1) qQ q1.2)
theorem HA (h:Gc X es t):BY X (.List es pos) (SG t):=PE.mono (oU h) (by
 intro U H Q;ext1⟨Z,τ,M,Q2,st,hr,h,k⟩;refine ⟨Z,τ,M,_,st,hr,h,λZ1 vs ds H1 M1 l1 h1 a1 q1=>⟨by rw [a1.length];exact q1.1,λp hp=>?_⟩⟩;exact k _ (.ref p) (.lst ds) _ M1 (l1.trans Le.ext) (h1.newF hp a1) Z9 q1.2)
theorem Jv (h:Gc X es t):BY X (.List es pos) (WW t):=PE.mono (oU h) (by
 intro U H Q;ext1⟨Z,τ,M,Q2,st,hr,h,k⟩;refine ⟨Z,τ,M,_,st,hr,h,λZ1 vs ds H1 M1 l1 h1 a1 q1=>⟨by rw [a1.length];exact q1.1,λp hp=>?_⟩⟩;exact k Z1 (.ref p) (.ref p) _ _ l1 (h1.newL hp a1) rfl (q1.2 p (h1.fresh hp)))
def Zp (r:List D->Mp->El->Prop)(t:Kc):DV:=λτ M Q=>t τ M λxs M1=>r xs M1 Q
theorem mT {K:Ac} :∀U H Q,lE K (Zp r t) U H Q->dF (lC K r) (lA K t) U H Q:=by
 intro U H Q;ext1⟨Z,τ,M,Q2,st,hr,h,k⟩;exact⟨Z,τ,M,_,st,hr,h,λZ1 vs ds H1 M1 l1 h1 a1 q1=>⟨Z1,ds,M1,Q2,h1,a1,q1,k.le l1⟩⟩
theorem Cp {id:String}(hc:BS X (.builtin id) r)(hm:X.mg x=none)(hv:DD x=some (.builtin id))(ha:Gc X (e::es) t)(hg:Gl X x:=by rfl)(hn:x≠"__name__":=by decide)(hdb:(x == ("__debug__":Str))=false:=by decide)
  (he:As (e::es) X.env=(false,eval e X.env)::As es X.env:=by rfl) (hpl:(Cc pos (As es X.env)).any (·.1)=false:=by rfl):BY X (.Call (.Name x p) (e::es) [] pos) (Zp r t):=PE.mono (rf hc hg hm hv ha hn hdb he hpl) mT
theorem D9 (hc:BS X (.type T) r)(hm:X.mg x=none)(hv:DD x=some (.type T))(ha:Gc X (e::es) t)(hg:Gl X x:=by rfl)(hn:x≠"__name__":=by decide)(hdb:(x == ("__debug__":Str))=false:=by decide)
  (he:As (e::es) X.env=(false,eval e X.env)::As es X.env:=by rfl) (hpl:(Cc pos (As es X.env)).any (·.1)=false:=by rfl):BY X (.Call (.Name x p) (e::es) [] pos) (Zp r t):=PE.mono (w9 hc hg hm hv ha hn hdb he hpl) mT
def SO (sp:DO)(t:Kc):DV:=λτ M Q=>t τ M λxs M1=>sp xs M1 Q
theorem Ay {st:DG}(d:Df X.K X.mg x st ps f fd)(G:FnOk X.prog X.w X.K X.mg X.base CX0 k f fd ps (lSp X.K sp))(hr:Dy k X.A)(ha:Gc X (e::es) t)
  (hg:Gl X x:=by rfl) (hdb:(x == ("__debug__":Str))=false:=by decide) (he:As (e::es) X.env=(false,eval e X.env)::As es X.env:=by rfl) (hpl:(Cc pos (As es X.env)).any (·.1)=false:=by rfl) :
  BY X (.Call (.Name x p) (e::es) [] pos) (SO sp t):=PE.mono (XN d G hr ha hg hdb he hpl) (by
 intro U H Q;ext1⟨Z,τ,M,Q2,st,hr,h,k⟩;refine ⟨Z,τ,M,_,st,hr,h,λZ1 vs ds H1 M1 l1 h1 a1 q1=>?_⟩;show lSp X.K sp (vs++[]) H1 Q E0;rw [CH];exact ⟨Z1,ds,M1,Q2,h1,a1,q1,k.le l1⟩)
def Ow:YF:=λ_ M Q=>Q none M
def SD (t:DV):YF:=λτ M Q=>t τ M λx M1=>EW x λi=>Q (some i) M1
theorem VP:Kd X none Ow:=PO.mono my λU H Q ⟨Z,τ,M,Q2,st,hr,h,k⟩=>k Z none H M (Le.refl _) hr h
theorem Tg (h:BY X e te):Kd X (some e) (SD te):=PO.mono (m6 h) (by
 intro U H Q;ext1⟨Z,τ,M,Q2,st,hr,h,k⟩;refine lE.bind st hr h λZ1 x dx H1 M1 l1 h1 a1 q1=>?_;obtain ⟨i,rfl,q⟩:=CU q1;exact ⟨i,a1,k Z1 (some i) H1 M1 l1 h1 q⟩)
def mD (r:D->Option Int->Option Int->Mp->El->Prop)(te:DV)(tl th:YF):DV:=λτ M Q=>te τ M λx M1=>tl τ M1 λl M2=>th τ M2 λu M3=>r x l u M3 Q
def xX (K:Ac)(r:D->Option Int->Option Int->Mp->El->Prop):V->Option Int->Option Int->Hp->VK->Prop:=λx lo hi H Q=>∃Z d M Q2,HR K H M Z/\At Z x d/\r d lo hi M Q2/\Hs K Z Q2 Q
@[irreducible] def F5 (X:Cx)(r:D->Option Int->Option Int->Mp->El->Prop):Prop:=Sh X (xX X.K r)
unseal F5
theorem Sh.mono (h:Sh X r)(m:∀x l u H Q,r' x l u H Q->r x l u H Q):Sh X r':=λAe s U H x v vl vu lo hi sl Q I rx hs pl pu q=>h Ae s U H x v vl vu lo hi sl Q I rx hs pl pu (m x lo hi H Q q)
theorem IA {lo hi:Option Ca}(hr:F5 X r)(he:BY X e te)(hl:Kd X lo tl)(hu:Kd X hi th):BY X (.Subscript e (.Slice lo hi none p2) pos) (mD r te tl th):=PE.mono (r6 hr he hl hu) (by
 intro U H Q;ext1⟨Z,τ,M,Q2,st,hr,h,k⟩;refine lE.bind st hr h λZ1 x dx H1 M1 l1 h1 a1 q1=>⟨Z1,τ,M1,_,st.mono l1,h1,q1,λZ2 lo H2 M2 l2 h2 q2=>⟨Z2,τ,M2,_,st.mono (l1.trans l2),h2,q2,λZ3 hi H3 M3 l3 h3 q3=>?_⟩⟩;exact ⟨Z3,dx,M3,Q2,h3,a1.mono (l2.trans l3),q3,k.le (l1.trans (l2.trans l3))⟩)
end
end L3
namespace L3
open PySem PySem.Spec PyProof.Rows L2
unseal BY HM Jl Gc Kd GN Dd Cb FP BS FC F5
section
variable {K:Ac}{Z:Zt}{H:Hp}{M:Mp}{Q2:El}{Q:VK}
theorem Hs.v (k:Hs K Z Q2 Q)(hr:HR K H M Z){v:V}(a:At Z v d)(q:Q2 d M):Q v H:=k Z v d H M (Le.refl _) hr a q
theorem Hs.b (k:Hs K Z Q2 Q)(hr:HR K H M Z){b:Bool}(q:Q2 (.bl b) M):Q (.bl b) H:=k Z (.bl b) (.bl b) H M (Le.refl _) hr rfl q
theorem Hs.i (k:Hs K Z Q2 Q)(hr:HR K H M Z){b:Int}(q:Q2 (.int b) M):Q (.int b) H:=k Z (.int b) (.int b) H M (Le.refl _) hr rfl q
theorem Hs.s (k:Hs K Z Q2 Q)(hr:HR K H M Z){b:Str}(q:Q2 (.str b) M):Q (.str b) H:=k Z (.str b) (.str b) H M (Le.refl _) hr rfl q
theorem Hs.n (k:Hs K Z Q2 Q)(hr:HR K H M Z)(q:Q2 .non M):Q .non H:=k Z .non .non H M (Le.refl _) hr rfl q
theorem Hs.t (k:Hs K Z Q2 Q)(hr:HR K H M Z){vs:List V}{ds:List D}{p:Av}(hp:H p=none)(a:Dq Z vs ds)(q:Q2 (.tup ds) M):Q (.ref p) (CA H p (.tup vs)):=k _ (.ref p) (.tup ds) _ M Le.ext (hr.newT hp a) qQ q
theorem Hs.f (k:Hs K Z Q2 Q)(hr:HR K H M Z){vs:List V}{ds:List D}{p:Av}(hp:H p=none)(a:Dq Z vs ds)(q:Q2 (.lst ds) M):Q (.ref p) (CA H p (.lst vs)):=k _ (.ref p) (.lst ds) _ M Le.ext (hr.newF hp a) Z9 q
theorem Hs.l (k:Hs K Z Q2 Q)(hr:HR K H M Z){vs:List V}{ds:List D}{p:Av}(hp:H p=none)(a:Dq Z vs ds)(q:∀p,M p=none->Q2 (.ref p) (put M p (.lst ds))):Q (.ref p) (CA H p (.lst vs)):=k Z (.ref p) (.ref p) _ _ (Le.refl _) (hr.newL hp a) rfl (q p (hr.fresh hp))
theorem Hs.fd (k:Hs K Z Q2 Q)(hr:HR K H M Z){vs:List (B4×V)}{ds:List (B4×D)}{p:Av}(hp:H p=none)(a:Cq Z vs ds)(q:Q2 (.dic ds) M):Q (.ref p) (CA H p (.dK vs)):=k _ (.ref p) (.dic ds) _ M Le.ext (hr.newFD hp a) qP q
theorem Hs.d (k:Hs K Z Q2 Q)(hr:HR K H M Z){vs:List (B4×V)}{ds:List (B4×D)}{p:Av}(hp:H p=none)(a:Cq Z vs ds)(q:∀p,M p=none->Q2 (.ref p) (put M p (.dic ds))):Q (.ref p) (CA H p (.dK vs)):=k Z (.ref p) (.ref p) _ _ (Le.refl _) (hr.newD hp a) rfl (q p (hr.fresh hp))
end
section
def sI (C:Int->Int->Prop)(g:Int->Int->D):KJ:=λx y M Q=>EW x λi=>EW y λj=>C i j/\Q (g i j) M
def Qh (g:Int->Int->D):KJ:=λx y M Q=>EW x λi=>EW y λj=>Q (g i j) M
theorem o2 (h:F6 X f (rI C g))(hg:∀i j Z,At Z (g i j) (g2 i j)):Cb X f (sI C g2):=F6.mono h (by
 intro x y H Q;ext1⟨Z,dx,dy,M,Q2,hr,ax,ay,h,k⟩;obtain ⟨i,rfl,h1⟩:=CU h;obtain ⟨j,rfl,c,q⟩:=CU h1;exact ⟨i,j,ax,ay,c,k Z _ _ H M (Le.refl _) hr (hg i j Z) q⟩)
theorem RX (h:F6 X f (Pz g))(hg:∀i j Z,At Z (g i j) (g2 i j)):Cb X f (Qh g2):=F6.mono h (by
 intro x y H Q;ext1⟨Z,dx,dy,M,Q2,hr,ax,ay,h,k⟩;obtain ⟨i,rfl,h1⟩:=CU h;obtain ⟨j,rfl,q⟩:=CU h1;exact ⟨i,j,ax,ay,k Z _ _ H M (Le.refl _) hr (hg i j Z) q⟩)
theorem Hl:Cb X (Bt .Add) (Qh λi j=>.int (i+j)):=RX ic λ_ _ _=>rfl
theorem ML:Cb X (Bt .Sub) (Qh λi j=>.int (i-j)):=RX io λ_ _ _=>rfl
theorem Uo:Cb X (Bt .Mult) (sI O8 λi j=>.int (i*j)):=o2 ii λ_ _ _=>rfl
theorem KD:Cb X (Bt .FloorDiv) (sI UU λi j=>.int (i / j)):=o2 oz λ_ _ _=>rfl
theorem G3:Cb X (Bt .Mod) (sI (λ_ j=>0<j) λi j=>.int (i%j)):=o2 ig λ_ _ _=>rfl
theorem Sb:Cb X (Bt .Pow) (sI O7 λi j=>.int (i^j.toNat)):=o2 ij λ_ _ _=>rfl
theorem VD:Cb X (Bt .LShift) (sI O7 λi j=>.int (i*2^j.toNat)):=o2 ik λ_ _ _=>rfl
theorem hV:Cb X (Bt .RShift) (sI (λ_ j=>0<=j) λi j=>.int (i / 2^j.toNat)):=o2 im λ_ _ _=>rfl
theorem Td:Cb X (Bt .BitAnd) (Qh λi j=>.int (AD i j)):=RX ie λ_ _ _=>rfl
theorem JY:Cb X (Bt .BitOr) (Qh λi j=>.int (AM i j)):=RX zZ λ_ _ _=>rfl
theorem Te:Cb X (Bt .BitXor) (Qh λi j=>.int (Bb i j)):=RX ip λ_ _ _=>rfl
theorem La:Cb X (A7 .Lt) (Qh λi j=>.bl (decide (i<j))):=RX zX λ_ _ _=>rfl
theorem Qp:Cb X (A7 .LtE) (Qh λi j=>.bl (decide (i<=j))):=RX zW λ_ _ _=>rfl
theorem Lb:Cb X (A7 .Gt) (Qh λi j=>.bl (decide (j<i))):=RX zV λ_ _ _=>rfl
theorem XS:Cb X (A7 .GtE) (Qh λi j=>.bl (decide (j<=i))):=RX zU λ_ _ _=>rfl
def sU (g:Int->D):D->Mp->El->Prop:=λx M Q=>EW x λi=>Q (g i) M
theorem u2 (h:Rj X f (rU g))(hg:∀i Z,At Z (g i) (g2 i)):FP X f (sU g2):=Rj.mono h (by
 intro x H Q;ext1⟨Z,dx,M,Q2,hr,ax,h,k⟩;obtain ⟨i,rfl,q⟩:=CU h;exact ⟨i,ax,k Z _ _ H M (Le.refl _) hr (hg i Z) q⟩)
theorem ZP:FP X (MP .USub) (sU λi=>.int (-i)):=u2 jp λ_ _=>rfl
theorem Vx:FP X (MP .Invert) (sU λi=>.int (Ei i)):=u2 jo λ_ _=>rfl
noncomputable def Ea:D->Bool
 |.non=>true
 |.bl _=>true
 |.int _=>true
 |.str _=>true
 |_=>false
noncomputable def Ku:D->D->Bool
 |.non,.non=>true
 |.bl a,.bl b=>a == b
 |.bl a,.int b=>(if a then 1 else 0) == b
 |.int a,.bl b=>a == (if b then 1 else 0)
 |.int a,.int b=>decide (a=b)
 |.str a,.str b=>decide (a=b)
 |_,_=>false
noncomputable def S9 (x y:D):Bool:=match x,y with
 |.non,.non=>true | .non,.int _=>true | .int _,.non=>true | .non,.bl _=>true | .bl _,.non=>true | .non,.str _=>true | .str _,.non=>true
 |.int _,.int _=>true | .bl _,.bl _=>true | .str _,.str _=>true
 |.int _,.str _=>true | .str _,.int _=>true | .bl _,.str _=>true | .str _,.bl _=>true
 |_,_=>false
def Xo (neg:Bool):KJ:=λx y M Q=>S9 x y=true/\Q (.bl (if neg then !Ku x y else Ku x y)) M
theorem uV {Z:Zt}{x y:V}{dx dy:D}(ax:At Z x dx)(ay:At Z y dy)(h:S9 dx dy=true):TX x y=true/\decide (x=y)=Ku dx dy:=by
 cases dx<;>cases dy<;>first
  |exact absurd h Al
  |(subst ax;subst ay;refine⟨rfl,?_⟩;delta Ku;simp[NG])
theorem CO:Cb X (A7 .Eq) (Xo false):=F6.mono zT (by
 intro x y H Q;ext1⟨Z,dx,dy,M,Q2,hr,ax,ay,⟨f,q⟩,k⟩;obtain ⟨h1,h2⟩:=uV ax ay f;exact ⟨h1,by rw [h2];exact k.b hr q⟩)
theorem XR:Cb X (A7 .NotEq) (Xo true):=F6.mono zY (by
 intro x y H Q;ext1⟨Z,dx,dy,M,Q2,hr,ax,ay,⟨f,q⟩,k⟩;obtain ⟨h1,h2⟩:=uV ax ay f;exact ⟨h1,by rw [h2];exact k.b hr q⟩)
def cT:Option MO->Option String
 |some (.lst _)=>some "list"
 |some (.dic _)=>some "dict"
 |some (.dct _)=>some "dict"
 |_=>none
noncomputable def MZ (M:Mp):D->Option String
 |.non=>some "NoneType"
 |.bl _=>some "bool"
 |.int _=>some "int"
 |.str _=>some "str"
 |.tup _=>some "tuple"
 |.lst _=>some "list"
 |.dic _=>some "dict"
 |.dct _=>some "dict"
 |.ref p=>cT (M p)
 |.ty _=>none
theorem Vo {M:Mp}{p:Av}{o:Option MO}(h:M p=o):MZ M (.ref p)=cT o:=congrArg cT h
noncomputable def LP (t c:String):Option Bool:=if t=c then some true else if t = "bool"/\c = "int" then some true else if (t = "int"\/t = "str"\/t = "list"\/t = "tuple"\/t = "dict"\/t = "NoneType")/\(c = "bool"\/c = "int"\/c = "str"\/c = "list"\/c = "tuple"\/c = "dict")then some false else none
theorem j8 (K:Ac)(h:LP t c=some b):Dx K (.type t) (.type c)=some b:=by
 unfold LP at h;split at h
 .next e=>subst e;cases h;exact t7 K t
 .split at h
  .next e=>obtain⟨rfl,rfl⟩:=e;cases h;kernel_rfl
  .split at h
   .next n1 n2 e=>
    cases h;obtain⟨e1,e2⟩:=e
    rcases e1 with rfl|rfl|rfl|rfl|rfl|rfl<;>rcases e2 with rfl|rfl|rfl|rfl|rfl|rfl<;>first
     |exact absurd rfl n1
     |kernel_rfl
   .cases h
def Xm (c:String):List D->Mp->El->Prop:=λxs M Q=>match xs with
 |[x,.ty c']=>c'=c/\Ck (MZ M x) λt=>Ck (LP t c) λb=>Q (.bl b) M
 |_=>False
theorem bz {Ae:List (Av×Obj)}{U:St}{H:Hp}{s:Ar}{A:Cy}{E:Ai->Ar->Prop}{Q:Ai->Ar->Prop}{c:Ai}{b:Bool}{M:Mp}{Z:Zt}{x:V}{d:D}{u:Ai}{t:String}(I:A4 X Ae U H s)(hr:HR X.K H M Z)(a:At Z x d)(rx:RelV x u)(ty:MZ M d=some t)
  (e:Dx X.K (.type t) c=some b) (h:∀tk,Q (.bool b) {s with toks:=tk}):Au (AA X.prog X.w) A (Ir (.builtin "isinstance") [u,c]) Q E s:=by
 have dicC:∀{p:Av} {ks:List (B4×V)},Rd H p (.dK ks)->Dx X.K (.type "dict") c=some b->Au (AA X.prog X.w) A (Ir (.builtin "isinstance") [.ref p,c]) Q E s:=λhp e=>by
  obtain⟨_,_,vs,_,o,es,ep,h1,h2,_⟩:_:=Rh I.hok hp;exact EC Lx I.kIn ⟨o,h1,h2.1⟩ e (λz=>nomatch z) h
 have dctC:∀{p:Av} {ks:List (List B4×V)},Rd H p (.dT ks)->Dx X.K (.type "dict") c=some b->Au (AA X.prog X.w) A (Ir (.builtin "isinstance") [.ref p,c]) Q E s:=λhp e=>by
  obtain⟨_,_,vs,_,o,es,ep,h1,h2,_⟩:_:=Vz I.hok hp;exact EC Lx I.kIn ⟨o,h1,h2.1⟩ e (λz=>nomatch z) h
 have lisC:∀{p:Av} {vs:List V},FH X.K H p vs->Dx X.K (.type "list") c=some b->Au (AA X.prog X.w) A (Ir (.builtin "isinstance") [.ref p,c]) Q E s:=λhs e=>by
  obtain⟨Bk,_,p,_⟩:=I.list hs;obtain⟨o,h1,h2,_⟩:=p.isList;exact EC Pa I.kIn ⟨o,h1,h2⟩ e (λz=>nomatch z) h
 cases d with
 |non=>cases ty;exact aW I rx (by cases(show x=V.non from a);exact Ie.non) e h
 |bl y=>cases ty;exact aW I rx (by cases(show x=V.bl y from a);exact Ie.bl _) e h
 |int y=>cases ty;exact aW I rx (by cases(show x=V.int y from a);exact Ie.int _) e h
 |str y=>cases ty;exact aW I rx (by cases(show x=V.str y from a);exact Ie.str _) e h
 |tup ds=>cases ty;obtain⟨p,vs,rfl,hs,_⟩:=hr.rdT a;cases(show u=AC p from rx);obtain⟨Bk,_,⟨o,h1,h2,_⟩,_⟩:=I.tuple hs;exact EC Tt I.kIn ⟨o,h1,h2⟩ e (λz=>nomatch z) h
 |lst ds=>cases ty;obtain⟨p,vs,rfl,hs,_⟩:=hr.rdF a;cases(show u=AC p from rx);exact lisC hs e
 |dic ds=>
  cases ty;obtain⟨p,rfl,z⟩:=a;cases(show u=AC p from rx);rcases hr.z p _ z with⟨vs,r,_⟩|k
  .exact dicC r e
  .exact k.elim
 |dct ds=>
  cases ty;obtain⟨p,rfl,z⟩:=a;cases(show u=AC p from rx);rcases hr.z p _ z with⟨vs,r,_⟩|k
  .exact dctC r e
  .exact k.elim
 |ref p=>
  cases(show x=.ref p from a);cases(show u=AC p from rx);cases q:M p with
  |none=>rw[Vo q]at ty;cases ty
  |some o=>
   rw[Vo q]at ty;cases o with
   |lst l=>cases ty;obtain⟨vs,r,_⟩:=hr.rdM q;exact lisC (FH.of r) e
   |dic l=>cases ty;obtain⟨vs,r,_⟩:=hr.rdMD q;exact dicC (.inl r) e
   |dct l=>cases ty;obtain⟨vs,r,_⟩:=hr.rdMT q;exact dctC (.inl r) e
   |obj C f=>cases ty
 |ty n=>cases ty
theorem nR (c:String):BS X (.builtin "isinstance") (Xm c):=by
 intro Ae s U H xs us Q I r;ext1⟨Z,ds,M,Q2,hr,a,h,k⟩
 match ds,a,h with
 |[x,.ty c'],a,h=>
  obtain⟨rfl,h⟩:=h;obtain⟨t,ht,h⟩:=Ci h;obtain⟨b,hb,q⟩:=Ci h;cases a with
  |cons a1 a2=>
   cases a2 with
   |cons a2 a3=>cases a3;obtain⟨u,w',rfl,r1,r2⟩:=Mu r;cases(show _=V.ty c' from a2);cases(show w'=DP c' from r2);exact bz I hr a1 r1 ht (j8 _ hb) λtk=>⟨.bl b,H,I.tok tk,rfl,k.b hr q⟩
inductive Cs:List Ca->List D->Prop where
 |nil:Cs [] []
 |int {i j pos es ds} (h:Cs es ds):Cs (.Constant (.int i) j pos::es) (.int i::ds)
 |str {i j pos es ds} (h:Cs es ds):Cs (.Constant (.str i) j pos::es) (.str i::ds)
def mH (ds:List D):Kc:=λ_ M Q=>Q ds M
theorem Yc (h:Cs es ds):Gc X es (mH ds):=by
 induction h with
 |nil=>exact PA.mono (qN) λU H Q ⟨Z,τ,M,Q2,st,hr,h,k⟩=>⟨Z,τ,M,Q2,st,hr,h,k⟩
 |int h ih=>exact PA.mono (qA (Aj) ih rfl) λU H Q ⟨Z,τ,M,Q2,st,hr,h,k⟩=>⟨Z,τ,M,Q2,st,hr,h,k⟩
 |str h ih=>exact PA.mono (qA (BQ) ih rfl) λU H Q ⟨Z,τ,M,Q2,st,hr,h,k⟩=>⟨Z,τ,M,Q2,st,hr,h,k⟩
theorem pM (a:Dq Z vs ds)(h:FG ds i=some d):∃v,FG vs i=some v/\At Z v d:=by
 unfold FG at h ⊢;rw[a.length];cases e:Rb ds.length i with
 |none=>rw[e]at h;cases h
 |some j=>rw[e]at h;exact a.get h
def LK:KJ:=λx y M Q=>match x with
 |.tup xs=>EW y λi=>Ck (FG xs i) λv=>Q v M
 |_=>False
def Xl:KJ:=λx y M Q=>Ck (Bf M x) λxs=>EW y λi=>Ck (FG xs i) λv=>Q v M
theorem BA:FC X LK:=O6.mono b7 (by
 intro x y H Q;ext1⟨Z,dx,dy,M,Q2,hr,ax,ay,h,k⟩;cases dx with
 |tup xs=>obtain⟨i,rfl,h1⟩:=CU h;obtain⟨v,e,q⟩:=Ci h1;obtain⟨p,vs,rfl,hs,a⟩:=hr.rdT ax;obtain⟨v',e',a'⟩:=pM a e;exact⟨p,vs,i,v',rfl,ay,hs,e',k.v hr a' q⟩
 | _=>exact h.elim)
theorem Hr:FC X Xl:=O6.mono j9 (by
 intro x y H Q;ext1⟨Z,dx,dy,M,Q2,hr,ax,ay,h,k⟩;obtain ⟨xs,e0,h0⟩:=Ci h;obtain ⟨i,rfl,h1⟩:=CU h0;obtain ⟨v,e,q⟩:=Ci h1;obtain ⟨p,vs,rfl,hs,a⟩:=hr.rdL e0 ax;obtain ⟨v',e',a'⟩:=pM a e;exact ⟨p,vs,i,v',rfl,ay,hs,e',k.v hr a' q⟩)
def Xk:KJ:=λx y M Q=>Gb x λz=>EW y λi=>z.length<=Am/\Ck (FG z.cps.toList i) λc=>Q (.str ⟨#[c]⟩) M
theorem X8:FC X Xk:=O6.mono b5 (by
 intro x y H Q;ext1⟨Z,dx,dy,M,Q2,hr,ax,ay,h,k⟩;obtain ⟨z,rfl,h1⟩:=D4 h;obtain ⟨i,rfl,hz,h2⟩:=CU h1;obtain ⟨c,e,q⟩:=Ci h2;exact ⟨z,i,c,ax,ay,hz,e,k.s hr q⟩)
def GG (xs:List D)(k:D->Prop):Prop:=match xs with
 |[x]=>k x
 |_=>False
def FF (xs:List D)(k:D->D->Prop):Prop:=match xs with
 |[x,y]=>k x y
 |_=>False
theorem Hk (h:GG xs k):∃x,xs=[x]/\k x:=by
 match xs,h with
 |[x],h=>exact⟨x,rfl,h⟩
theorem MG (h:FF xs k):∃x y,xs=[x,y]/\k x y:=by
 match xs,h with
 |[x,y],h=>exact⟨x,y,rfl,h⟩
theorem IF (a:Dq Z vs [d]):∃v,vs=[v]/\At Z v d:=by
 cases a with
 |cons a1 a2=>cases a2;exact⟨_,rfl,a1⟩
theorem O3 (a:Dq Z vs [d,e]):∃v w,vs=[v,w]/\At Z v d/\At Z w e:=by
 cases a with
 |cons a1 a2=>obtain⟨w,rfl,a3⟩:=IF a2;exact⟨_,w,rfl,a1,a3⟩
theorem LU:BS X (.builtin "len") (λxs M Q=>GG xs λx=>Ck (Hz M x) λys=>Q (.int ys.length) M):=E7.mono zu (by
 intro xs H Q;ext1⟨Z,ds,M,Q2,hr,a,h,k⟩;obtain ⟨x,rfl,h1⟩:=Hk h;obtain ⟨ys,e,q⟩:=Ci h1;obtain ⟨v,rfl,a1⟩:=IF a;obtain ⟨p,vs,rfl,hs,a2⟩:=hr.rdS e a1;exact ⟨p,vs,rfl,hs,by rw [a2.length];exact k.i hr q⟩)
theorem vj:BS X (.builtin "len") (λxs M Q=>GG xs λx=>Gb x λz=>z.length<=Am/\Q (.int z.length) M):=E7.mono zw (by
 intro xs H Q;ext1⟨Z,ds,M,Q2,hr,a,h,k⟩;obtain ⟨x,rfl,h1⟩:=Hk h;obtain ⟨z,rfl,hz,q⟩:=D4 h1;obtain ⟨v,rfl,a1⟩:=IF a;cases (show v=V.str z from a1);exact ⟨z,rfl,hz,k.i hr q⟩)
theorem Yi:BS X (.type "list") (λxs M Q=>GG xs λx=>Ck (Hz M x) λys=>Q (.lst ys) M):=E7.mono zx (by
 intro xs H Q;ext1⟨Z,ds,M,Q2,hr,a,h,k⟩;obtain ⟨x,rfl,h1⟩:=Hk h;obtain ⟨ys,e,q⟩:=Ci h1;obtain ⟨v,rfl,a1⟩:=IF a;obtain ⟨p,vs,rfl,hs,a2⟩:=hr.rdS e a1;exact ⟨p,vs,rfl,hs,λl hl=>k.f hr hl a2 q⟩)
theorem Yj:BS X (.type "tuple") (λxs M Q=>GG xs λx=>Ck (Hz M x) λys=>Q (.tup ys) M):=E7.mono Zg0 (by
 intro xs H Q;ext1⟨Z,ds,M,Q2,hr,a,h,k⟩;obtain⟨x,rfl,h1⟩:=Hk h;obtain⟨ys,e,q⟩:=Ci h1;obtain⟨v,rfl,a1⟩:=IF a
 have go:Bf M x=some ys->∃p zs,[v]=[V.ref p]/\((FH X.K H p zs/\∀l,H l=none->Q (.ref l) (CA H l (.tup zs)))\/(Lo X.K H p zs/\Q (.ref p) H)):=λe=>by
  obtain⟨p,vs,rfl,hs,a2⟩:=hr.rdL e a1;exact⟨p,vs,rfl,.inl ⟨hs,λl hl=>k.t hr hl a2 q⟩⟩
 cases x with
 |tup zs=>cases e;obtain⟨p,vs,rfl,hs,a2⟩:=hr.rdT a1;exact⟨p,vs,rfl,.inr ⟨hs,k.v hr a1 q⟩⟩
 |lst zs=>exact go e
 |ref p=>exact go e
 | _=>cases e)
theorem nI (hc:X.calm=true):BS X (.builtin "max") (λxs M Q=>FF xs λx y=>EW x λi=>EW y λj=>Q (.int (if j > i then j else i)) M):=E7.mono (vm hc) (by
 intro xs H Q;ext1⟨Z,ds,M,Q2,hr,a,h,k⟩;obtain ⟨x,y,rfl,h1⟩:=MG h;obtain ⟨i,rfl,h2⟩:=CU h1;obtain ⟨j,rfl,q⟩:=CU h2;obtain ⟨v,w,rfl,a1,a2⟩:=O3 a;cases (show v=V.int i from a1);cases (show w=V.int j from a2);exact ⟨i,j,rfl,k.i hr q⟩)
theorem yG (hc:X.calm=true):BS X (.builtin "min") (λxs M Q=>FF xs λx y=>EW x λi=>EW y λj=>Q (.int (if j<i then j else i)) M):=E7.mono (vn hc) (by
 intro xs H Q;ext1⟨Z,ds,M,Q2,hr,a,h,k⟩;obtain ⟨x,y,rfl,h1⟩:=MG h;obtain ⟨i,rfl,h2⟩:=CU h1;obtain ⟨j,rfl,q⟩:=CU h2;obtain ⟨v,w,rfl,a1,a2⟩:=O3 a;cases (show v=V.int i from a1);cases (show w=V.int j from a2);exact ⟨i,j,rfl,k.i hr q⟩)
noncomputable def cutD (xs:List D)(lo hi:Option Int):List D:=(xs.drop (HT.sIx xs.length 0 lo)).take (HT.sIx xs.length xs.length hi-HT.sIx xs.length 0 lo)
theorem Dq.cut (a:Dq Z vs ds)(lo hi:Option Int):Dq Z (Lc vs lo hi) (cutD ds lo hi):=by
 unfold Lc cutD;rw[a.length];exact(a.drop _).take _
def Xi:D->Option Int->Option Int->Mp->El->Prop:=λx lo hi M Q=>Ck (Bf M x) λxs=>Q (.lst (cutD xs lo hi)) M
theorem Ym:F5 X Xi:=Sh.mono qj (by
 intro x lo hi H Q;ext1⟨Z,d,M,Q2,hr,a,h,k⟩;obtain ⟨xs,e,q⟩:=Ci h;obtain ⟨p,vs,rfl,hs,a2⟩:=hr.rdL e a;exact ⟨p,vs,rfl,hs,λl hl=>k.f hr hl (a2.cut lo hi) q⟩)
def Xh:D->Option Int->Option Int->Mp->El->Prop:=λx lo hi M Q=>match x with
 |.tup xs=>¬(HT.sIx xs.length 0 lo=0/\HT.sIx xs.length xs.length hi=xs.length)/\Q (.tup (cutD xs lo hi)) M
 |_=>False
theorem oH:F5 X Xh:=Sh.mono ln (by
 intro x lo hi H Q;ext1⟨Z,d,M,Q2,hr,a,h,k⟩;cases d with
 |tup xs=>obtain⟨hn,q⟩:=h;obtain⟨p,vs,rfl,hs,a2⟩:=hr.rdT a;exact⟨p,vs,rfl,hs,by rw[a2.length];exact hn,λl hl=>k.t hr hl (a2.cut lo hi) q⟩
 | _=>exact h.elim)
end
section
variable {X:Cx}{st:DG}{C6:List DG}{t u:Ht}{e:Ca}{te:DV}{pos:Pos}
def SE:Ht:=λD τ M=>D.nx τ M
def WQ (t u:Ht):Ht:=λD τ M=>t {D with nx:=u D} τ M
def cS (t u:Ht):Ht:=λD τ M=>∃N:Gu->Mp->Prop,t {D with nx:=N} τ M/\∀τ' M',N τ' M'->u D τ' M'
def P9:Ht:=λ_ _ _=>False
theorem lS.nx {K:Ac}{Z:Zt}{U:St}{τ:Gu}{H:Hp}{M:Mp}{D2:JQ}{D:Oa}(er:ER K Z D2 D)(st:Gs Z U τ)(hr:HR K H M Z)(h:D2.nx τ M):D.nx U H:=er.nx Z U τ H M (Le.refl _) st hr h
theorem qE:Dd X [] SE:=KL.mono ng λD U H ⟨Z,τ,M,D2,st,hr,h,er⟩=>lS.nx er st hr h
theorem qC (h1:GN X st t)(h2:Dd X C6 u):Dd X (st::C6) (WQ t u):=KL.mono (sP h1 h2) (by
 intro D U H;ext1⟨Z,τ,M,D2,st,hr,h,er⟩;exact ⟨Z,τ,M,{ D2 with nx:=u D2 },st,hr,h,⟨λZ1 U1 τ1 H1 M1 l1 s1 h1 q1=>⟨Z1,τ1,M1,D2,s1,h1,q1,er.le l1⟩,er.rt,er.bk,er.ct⟩⟩)
theorem EO (h1:GN X st t)(h2:Dd X C6 u):Dd X (st::C6) (cS t u):=KL.mono (sP h1 h2) (by
 intro D U H;ext1⟨Z,τ,M,D2,st,hr,⟨N,h,hN⟩,er⟩;exact ⟨Z,τ,M,{ D2 with nx:=N },st,hr,h,⟨λZ1 U1 τ1 H1 M1 l1 s1 h1 q1=>⟨Z1,τ1,M1,D2,s1,h1,hN τ1 M1 q1,er.le l1⟩,er.rt,er.bk,er.ct⟩⟩)
theorem qO (h1:GN X st t):Dd X [st] t:=nh h1
theorem O4:GN X st P9:=λ_ _ _ _ _ _ ⟨_,_,_,_,_,_,h,_⟩=>h.elim
def SI (te:DV):Ht:=λD τ M=>te τ M λ_ M1=>D.nx τ M1
theorem E3 (he:BY X e te)(hs:DW e none pos.line X.env=pure false:=by rfl):GN X (.Expr e pos) (SI te):=PS.mono (nc he hs) (by
 intro D U H;ext1⟨Z,τ,M,D2,st,hr,h,er⟩;exact lE.bind st hr h λZ1 x dx H1 M1 l1 h1 a1 q1=>lS.nx (er.le l1) (st.mono l1) h1 q1)
def WT (te:DV):Ht:=λD τ M=>te τ M D.rt
theorem CC (he:BY X e te):GN X (.Return (some e) pos) (WT te):=PS.mono (fv he) (by
 intro D U H;ext1⟨Z,τ,M,D2,st,hr,h,er⟩;exact ⟨Z,τ,M,D2.rt,st,hr,h,er.rt⟩)
def WX (c:KH)(t u:Ht):Ht:=λD τ M=>c τ M λb M1=>if b=true then t D τ M1 else u D τ M1
theorem Ez (hc:HM X c tc)(ha:Dd X a t)(hb:Dd X b u):GN X (.If c a b pos) (WX tc t u):=PS.mono (aj hc ha hb) (by
 intro D U H;ext1⟨Z,τ,M,D2,st,hr,h,er⟩;refine lT.bind st hr h λZ1 c H1 M1 l1 h1 q1=>?_;cases c with
 |true=>rw[if_pos rfl]at q1 ⊢;exact⟨Z1,τ,M1,D2,st.mono l1,h1,q1,er.le l1⟩
 | false=>rw [if_neg Al] at q1 ⊢;exact ⟨Z1,τ,M1,D2,st.mono l1,h1,q1,er.le l1⟩)
abbrev Tj:=D->Gu->(Gu->Prop)->Prop
def lG (K:Ac)(g:Tj):TG:=λv U H Q=>∃Z τ M d Q2,Gs Z U τ/\HR K H M Z/\At Z v d/\g d τ (λτ'=>Q2 τ' M)/\Rk K Z Q2 Q
@[irreducible] def KN (X:Cx)(tg:Ca)(g:Tj):Prop:=PG X tg (lG X.K g)
unseal KN
theorem PG.mono {tg:Ca}{t t':TG}(h:PG X tg t)(m:∀v U H Q,t' v U H Q->t v U H Q):PG X tg t':=λAe s U H v u Q I r q=>h Ae s U H v u Q I r (m v U H Q q)
def Jf (i:Nat):Tj:=λd τ k=>k (τ.set i (some d))
theorem MM {i:Nat}{x:Str}(hN:X.N.Nodup)(hi:X.N[i]? = some x)(hx:US X.env.scope x)(hf:X.fn x=true\/X.env.scope.names.lookup x=some .local:=by first | exact .inl rfl | exact .inr rfl | assumption):KN X (.Name x pos) (Jf i):=PG.mono (LX hN hi hx hf) (by
 intro v U H Q;ext1⟨Z,τ,M,d,Q2,st,hr,a,h,k⟩;exact k Z _ _ H M (Le.refl _) (st.set a i) hr h)
noncomputable def Gk:Gu->List Nat->List D->Gu
 | τ,i::is,x::xs=>Gk (τ.set i (some x)) is xs
 | τ,_,_=>τ
def Go:List Nat->V7
 |[]=>X4
 |i::is=>S8 (Kt i) (Go is)
theorem tU {K:Ac}(hr:HR K H M Z)(k:Rk K Z Q2 Q):∀is {vs:List V}{ds:List D}{U:St}{τ:Gu},Dq Z vs ds->Gs Z U τ->ds.length=is.length->Q2 (Gk τ is ds) M->Go is vs U H Q
 |[],vs,ds,U,τ,a,st,hl,q=>by
  have e:=AG hl;subst e;cases a;exact⟨rfl,k Z U τ H M (Le.refl _) st hr (by unfold Gk at q;exact q)⟩
 |i::is,vs,[],U,τ,a,st,hl,q=>by cases hl
 |i::is,vs,d::ds,U,τ,a,st,hl,q=>by
  cases a with
  |cons a1 a2=>exact⟨_,_,rfl,tU hr k is a2 (st.set a1 i) (GJ hl) q⟩
def X3 (is:List Nat):Tj:=λd τ k=>match d with
 |.tup xs=>xs.length=is.length/\k (Gk τ is xs)
 |_=>False
theorem VN {es:List Ca}{k:Nat}{is:List Nat}(hc:X.calm=true)(h:Tk X es (Go is))
  (hn:(CT es X.env).length=is.length:=by rfl) (hst:(CT es X.env).findIdx? (·.1)=none:=by rfl):KN X (.Tuple es k pos) (X3 is):=PG.mono (oW hc h hn hst) (by
 intro v U H Q;ext1⟨Z,τ,M,d,Q2,st,hr,a,h,k⟩;cases d with
 |tup xs=>obtain⟨hl,q⟩:=h;obtain⟨p,vs,rfl,hs,a2⟩:=hr.rdT a;exact⟨p,vs,rfl,hs,by rw[a2.length];exact hl,tU hr k is a2 st hl q⟩
 | _=>exact h.elim)
def TU (te:DV)(g:Tj):Ht:=λD τ M=>te τ M λx M1=>g x τ λτ'=>D.nx τ' M1
theorem gI {K:Ac} :∀D U H,lS K (TU te g) D U H->OU (lE K te) (lG K g) D U H:=by
 intro D U H;ext1⟨Z,τ,M,D2,st,hr,h,er⟩;exact lE.bind st hr h λZ1 x dx H1 M1 l1 h1 a1 q1=>⟨Z1,τ,M1,dx,D2.nx,st.mono l1,h1,a1,q1,er.nx.le l1⟩
theorem gi (he:BY X e te)(hg:KN X tg g)(hs:swapsWithSole [tg] e pos.line X.env=pure false:=by rfl)(hw:swappedStores [tg] e X.env=pure none:=by rfl)
  (h1:(CT [tg] X.env).map (·.2)=[LB tg X.env]:=by rfl):GN X (.Assign [tg] e pos) (TU te g):=PS.mono (fo he hg hs hw h1) gI
def Fz (i:Nat)(te:DV):Ht:=λD τ M=>te τ M λx M1=>D.nx (τ.set i (some x)) M1
theorem gH {K:Ac}{i:Nat}:∀D U H,lS K (Fz i te) D U H->OU (lE K te) (Kt i) D U H:=by
 intro D U H;ext1⟨Z,τ,M,D2,st,hr,h,er⟩;exact lE.bind st hr h λZ1 x dx H1 M1 l1 h1 a1 q1=>lS.nx (er.le l1) ((st.mono l1).set a1 i) h1 q1
theorem ZX (hN:X.N.Nodup)(hi:X.N[i]? = some x)(hx:US X.env.scope x)(he:BY X e te)(hs:DW e (some (.Name x pos')) pos.line X.env=pure false:=by rfl)(hf:X.fn x=true\/X.env.scope.names.lookup x=some .local:=by first | exact .inl rfl | exact .inr rfl | assumption) :
  GN X (.Assign [.Name x pos'] e pos) (Fz i te):=PS.mono (fw hN hi hx he hs hf) gH
theorem Cw (i)(hN:X.N.Nodup)(he:BY X e te)(hi:X.N[i]? = some x:=by rfl)(hx:US X.env.scope x:=by exact BX rfl)(hs:DW e (some (.Name x pos')) pos.line X.env=pure false:=by rfl)(hf:X.fn x=true\/X.env.scope.names.lookup x=some .local:=by first | exact .inl rfl | exact .inr rfl | assumption) :
  GN X (.Assign [.Name x pos'] e pos) (Fz i te):=ZX hN hi hx he hs hf
def WY (te:DV):DV:=λτ M Q=>te τ M λd M1=>JO d λp=>match M1 p with
 |some (.lst ds)=>Q (.lst ds) (JA M1 p)
 |some (.dic ds)=>Q (.dic ds) (JA M1 p)
 |some (.dct ds)=>Q (.dct ds) (JA M1 p)
 |_=>False
theorem K9 (h:BY X e te):BY X e (WY te):=PE.mono h (by
 intro U H Q;ext1⟨Z,τ,M,Q2,st,hr,h,k⟩;refine lE.bind st hr h λZ1 x dx H1 M1 l1 h1 a1 q1=>?_;obtain⟨p,rfl,q⟩:=Ib q1;cases(show x=V.ref p from a1);split at q
 .next e=>exact k _ (.ref p) (.lst _) H1 _ (l1.trans Le.ext) (h1.frzL e) Z9 q
 .next e=>exact k _ (.ref p) (.dic _) H1 _ (l1.trans Le.ext) (h1.frzD e) qP q
 .next e=>exact k _ (.ref p) (.dct _) H1 _ (l1.trans Le.ext) (h1.frzDT e) ra q
 .exact q.elim)
def TQ (c:KH)(tb:Ht):Ht:=λD τ M=>∃Pv:Nat->Gu->Mp->Prop,(∃m,Pv m τ M)/\∀m τ M,Pv m τ M ->
 c τ M λb M1=>if b=true then tb {D with nx:=λτ' M'=>∃m',m' < m/\Pv m' τ' M',ct:=λτ' M'=>∃m',m' < m/\Pv m' τ' M',bk:=D.nx} τ M1 else D.nx τ M1
theorem UE {c:Ca}{body:List DG}{tc:KH}{tb:Ht}(hp:Pm (AA X.prog X.w) X.A X.env X.xe)(hc:HM X c tc)(hb:Dd X body tb):GN X (.While c body [] pos) (TQ tc tb):=PS.mono (se hp hc hb) (by
 intro D U H;ext1⟨Z,τ,M,D2,st,hr,⟨Pv,⟨m0,p0⟩,turn⟩,er⟩;refine⟨λm U H=>∃Z1 τ1 M1,Le Z Z1/\Gs Z1 U τ1/\HR X.K H M1 Z1/\Pv m τ1 M1,⟨m0,Z,τ,M,Le.refl _,st,hr,p0⟩,?_⟩;intro m U1 H1;ext1⟨Z1,τ1,M1,l1,s1,h1,p1⟩;refine lT.bind s1 h1 (turn m τ1 M1 p1) λZ2 c H2 M2 l2 h2 q2=>?_;cases c with
 |false=>rw[if_neg Al]at q2 ⊢;exact lS.nx (er.le (l1.trans l2)) (s1.mono l2) h2 q2
 | true=>rw [if_pos rfl] at q2 ⊢;refine ⟨_,λU' H' n=>n,Z2,τ1,M2,_,s1.mono l2,h2,q2,?_⟩;have k:Rk X.K Z2 (λτ' M'=>∃ m',m' < m/\Pv m' τ' M') λU' H'=>∃ m',m' < m/\∃ Z1 τ1 M1,Le Z Z1/\Gs Z1 U' τ1/\HR X.K H' M1 Z1/\Pv m' τ1 M1:=λZ3 U3 τ3 H3 M3 l3 s3 h3 ⟨m',lt,p'⟩=>⟨m',lt,Z3,τ3,M3,l1.trans (l2.trans l3),s3,h3,p'⟩;exact ⟨k,er.rt.le (l1.trans l2),er.nx.le (l1.trans l2),k⟩)
def YL (K:Ac)(J:It)(xs:List D)(S:Mp->Prop)(Z:Zt):Prop:=∀i H M Z',Le Z Z'->HR K H M Z'->S M ->
 (∀d,xs[i]? = some d->J.go i H/\∀x H',J.yld i H x H'->∃Z2,Le Z' Z2/\HR K H' M Z2/\At Z2 x d)/\(xs.length<=i->J.stop i H)
abbrev Ng:=Gu->Mp->(List D->(Mp->Prop)->Mp->Prop)->Prop
def lI (K:Ac)(t:Ng):TI:=λU H R=>∃Z τ M R2,Gs Z U τ/\HR K H M Z/\t τ M R2/\∀Z' J xs S H' M',Le Z Z'->HR K H' M' Z'->YL K J xs S Z'->R2 xs S M'->R J H'
@[irreducible] def Ho (X:Cx)(tg iter:Ca)(t:Ng):Prop:=PI X tg iter (lI X.K t)
unseal Ho
theorem PI.mono {t t':TI}(h:PI X tg iter t)(m:∀U H R,t' U H R->t U H R):PI X tg iter t':=λAe s U H R I q=>h Ae s U H R I (m U H R q)
def Sz (te:DV):Ng:=λτ M R=>te τ M λx M1=>Ck (Bf M1 x) λxs=>R xs (λM=>Bf M x=some xs) M1
def WM (te:DV):Ng:=λτ M R=>te τ M λx M1=>match x with
 |.tup xs=>R xs (λ_=>True) M1
 |_=>False
theorem JP {tg l:Ca}(hl:BY X l tl):Ho X tg l (Sz tl):=PI.mono (p6 hl) (by
 intro U H R;ext1⟨Z,τ,M,R2,st,hr,h,k⟩;refine lE.bind st hr h λZ1 v d H1 M1 l1 h1 a1 q1=>?_;obtain ⟨xs,e,q⟩:=Ci q1;obtain ⟨p,vs,rfl,hs,a2⟩:=h1.rdL e a1;refine ⟨p,rfl,⟨vs,hs⟩,k Z1 _ xs _ H1 M1 l1 h1 (λi H M Z' l hr s=>?_) q⟩;obtain ⟨p',ws,e2,hs2,a3⟩:=hr.rdL s (a1.mono l);cases e2;refine ⟨λd hd=>?_,λhi=>⟨ws,hs2,by rw [a3.length];exact hi⟩⟩;obtain ⟨v,hv,av⟩:=a3.get hd;refine ⟨⟨ws,v,hs2,hv⟩,λx H' y=>?_⟩;obtain ⟨rfl,y⟩:=y;have:=y ws hs2;rw [hv] at this;cases this;exact ⟨Z',Le.refl _,hr,av⟩)
theorem QD {tg l:Ca}(hl:BY X l tl):Ho X tg l (WM tl):=PI.mono (fg hl) (by
 intro U H R;ext1⟨Z,τ,M,R2,st,hr,h,k⟩;refine lE.bind st hr h λZ1 v d H1 M1 l1 h1 a1 q1=>?_;cases d with
 |tup xs=>obtain⟨p,vs,rfl,hs,a2⟩:=h1.rdT a1;refine⟨p,rfl,⟨vs,hs⟩,k Z1 _ xs _ H1 M1 l1 h1 (λi H M Z' l hr s=>?_) q1⟩;obtain⟨p',ws,e2,hs2,a3⟩:=hr.rdT (a1.mono l);cases e2;refine⟨λd hd=>?_,λhi=>⟨ws,hs2,by rw[a3.length];exact hi⟩⟩;obtain⟨v,hv,av⟩:=a3.get hd;refine⟨⟨ws,v,hs2,hv⟩,λx H' y=>?_⟩;obtain⟨rfl,y⟩:=y;have:=y ws hs2;rw[hv]at this;cases this;exact⟨Z',Le.refl _,hr,av⟩
 | _=>exact q1.elim)
noncomputable def NP (lo:Int)(n:Nat):List D:=(Bp n).map λk=>.int (lo+(k:Nat))
theorem Yl {lo:Int}(h:(NP lo n)[i]? = some d):i<n/\d=.int (lo+(i:Nat)):=by
 unfold NP at h;rw[AH]at h;by_cases hi:i<n
 .rw[EJ hi]at h;exact⟨hi,(A9 h).symm⟩
 .rw[EF.mpr (by rw[B9];ext)]at h;cases h
theorem VT (lo:Int)(n:Nat):(NP lo n).length=n:=by unfold NP;rw[Ab,B9]
theorem u5 {K:Ac}(lo:Int)(n:Nat):YL K (cB lo n) (NP lo n) (λ_=>True) Z:=λi H M Z' l hr s=>by
 refine⟨λd hd=>?_,λhi=>by rw[VT]at hi;exact hi⟩;obtain⟨hi,rfl⟩:=Yl hd;refine⟨hi,λx H' y=>?_⟩;obtain⟨rfl,rfl⟩:=y;exact⟨Z',Le.refl _,hr,rfl⟩
def Sy (t:Kc):Ng:=λτ M R=>t τ M λxs M1=>GG xs λx=>EW x λj=>(-(2^62)<=j/\j<2^62)/\R (NP 0 j.toNat) (λ_=>True) M1
theorem bB {tg a:Ca}{ta:Kc}{p pos:Pos}(hm:X.mg "range" = none)(ha:Gc X [a] ta)(hg:Gl X "range":=by rfl)(hs:As [a] X.env=[(false,eval a X.env)]:=by rfl) :
  Ho X tg (.Call (.Name "range" p) [a] [] pos) (Sy ta):=PI.mono (xa hg hm ha hs) (by
 intro U H R;ext1⟨Z,τ,M,R2,st,hr,h,k⟩;refine ⟨Z,τ,M,_,st,hr,h,λZ1 vs ds H1 M1 l1 h1 a1 q1=>?_⟩;obtain ⟨x,rfl,q⟩:=Hk q1;obtain ⟨j,rfl,⟨b1,b2⟩,q⟩:=CU q;obtain ⟨v,rfl,a2⟩:=IF a1;cases (show v=V.int j from a2);exact ⟨j,rfl,b1,b2,k Z1 _ _ _ H1 M1 l1 h1 (u5 _ _) q⟩)
def UR (xs:List D)(S:Mp->Prop)(g:Tj)(tb:Ht)(D:JQ)(τ:Gu)(M:Mp):Prop:=∃Pv:Nat->Gu->Mp->Prop,Pv 0 τ M/\(∀k τ M,Pv k τ M->S M) /\
 (∀k x τ M,xs[k]? = some x->Pv k τ M->g x τ λτ'=>tb {D with nx:=Pv (k+1),ct:=Pv (k+1),bk:=D.nx} τ' M)/\∀τ M,Pv xs.length τ M->D.nx τ M
def WZ (ti:Ng)(g:Tj)(tb:Ht):Ht:=λD τ M=>ti τ M λxs S M1=>UR xs S g tb D τ M1
theorem KG {tg iter:Ca}{body:List DG}{wi:Ng}{g:Tj}{tb:Ht}(hp:Pm (AA X.prog X.w) X.A X.env X.xe)(hc:X.calm=true)(hi:Ho X tg iter wi)(hg:KN X tg g)(hb:Dd X body tb)
  (hs:∀ x,Bw iter X.env x=pure x:=by intro _;rfl):GN X (.For tg iter body [] pos) (WZ wi g tb):=PS.mono (fu hp hc hi hg hb hs) (by
 intro D U H;ext1⟨Z,τ,M,D2,st,hr,h,er⟩;refine⟨Z,τ,M,_,st,hr,h,λZ1 J xs S H1 M1 l1 h1 jk ⟨Pv,p0,stay,turn,done⟩=>?_⟩;refine⟨λi m U H=>m=xs.length-i/\i<=xs.length/\∃Z2 τ2 M2,Le Z1 Z2/\Gs Z2 U τ2/\HR X.K H M2 Z2/\Pv i τ2 M2,⟨xs.length,by simp,Ef _,Z1,τ,M1,Le.refl _,st.mono l1,h1,p0⟩,?_⟩;intro i m U2 H2;ext1⟨e1',hi,Z2,τ2,M2,l2,s2,h2,p2⟩;obtain⟨go,stop⟩:=jk i H2 M2 Z2 l2 h2 (stay i τ2 M2 p2);by_cases hlt:i<xs.length
 .obtain⟨g1,g2⟩:=go _ (Af hlt);refine .inr ⟨g1,λU' H'=>∃Z3 τ3 M3,Le Z1 Z3/\Gs Z3 U' τ3/\HR X.K H' M3 Z3/\Pv (i+1) τ3 M3,λU' H' n=>⟨xs.length-(i+1),by ext,rfl,hlt,n⟩,λx H' y=>?_⟩;obtain⟨Z5,l5,h5,a⟩:=g2 x H' y;have tk:=turn i _ τ2 M2 (Af hlt) p2;have l2:=l2.trans l5;refine⟨Z5,τ2,M2,_,λτ' M'=>tb {D2 with nx:=Pv (i+1),ct:=Pv (i+1),bk:=D2.nx} τ' M',s2.mono l5,h5,a,tk,λZ3 U3 τ3 H3 M3 l3 s3 h3 q3=>?_⟩;have k:Rk X.K Z3 (Pv (i+1)) λU' H'=>∃Z3 τ3 M3,Le Z1 Z3/\Gs Z3 U' τ3/\HR X.K H' M3 Z3/\Pv (i+1) τ3 M3:=λZ4 U4 τ4 H4 M4 l4 s4 h4 q4=>⟨Z4,τ4,M4,l2.trans (l3.trans l4),s4,h4,q4⟩;have er3:=er.le (l1.trans (l2.trans l3));exact⟨Z3,τ3,M3,_,s3,h3,q3,⟨k,er3.rt,er3.nx,k⟩⟩
 .have e:i=xs.length:=by ext
  subst e;exact .inl ⟨stop (AJ _),lS.nx (er.le (l1.trans l2)) s2 h2 (done τ2 M2 p2)⟩)
end
end L3
namespace L3
open PySem PySem.Spec PyProof.Rows L2
unseal BY HM Jl Gc Kd GN Dd Cb FP BS FC F5 KN Ho
section
variable {X:Cx}{e:Ca}{te:DV}
noncomputable def LS (τ:Gu)(caps:List (Str×Nat))(v:Option D):Gu:=v::caps.map λc=>(τ[c.2]?).join
theorem Gs.join (h:Gs Z U τ)(i:Nat):OA Z (U[i]?).join (τ[i]?).join:=by
 cases e:(τ[i]?).join with
 |none=>cases(U[i]?).join<;>exact Ch
 |some d=>obtain⟨v,h1,h2⟩:=h.get (ET.mp e);rw[h1];exact h2
theorem Gs.cap (h:Gs Z U τ)(caps:List (Str×Nat))(a:At Z x d):Gs Z (MK U caps (some x)) (LS τ caps (some d)):=by
 refine .cons a ?_;induction caps with
 |nil=>exact .nil
 |cons c r ih=>exact .cons (h.join c.2) ih
def GC:KH:=λ_ M Q=>Q true M
def EL (xs:List D)(S:Mp->Prop)(caps:List (Str×Nat))(tt:KH)(te:DV)(τ:Gu)(M:Mp)(Q:List D->Mp->Prop):Prop:=xs.length<=Am/\∃W:Nat->List D->Mp->Prop,W 0 [] M/\(∀i ys M,W i ys M->S M/\ys.length<=i) /\
 (∀i x ys M,xs[i]? = some x->W i ys M->tt (LS τ caps (some x)) M λb M2=>if b=true then te (LS τ caps (some x)) M2 λy M3=>W (i+1) (ys++[y]) M3 else W (i+1) ys M2)/\∀ys M,W xs.length ys M->Q ys M
def Hy (wi:Ng)(caps:List (Str×Nat))(tt:KH)(te:DV):DV:=λτ M Q=>wi τ M λxs S M1=>EL xs S caps tt te τ M1 λys M2=>Q (.lst ys) M2
def Oy (wi:Ng)(caps:List (Str×Nat))(tt:KH)(te:DV):DV:=λτ M Q=>wi τ M λxs S M1=>EL xs S caps tt te τ M1 λys M2=>∀p,M2 p=none->Q (.ref p) (put M2 p (.lst ys))
theorem Yy {K:Ac}(st:Gs Z U τ)(hr:HR K H M Z)(h:wi τ M λxs S M1=>EL xs S caps tt te τ M1 QL)
  (ht:∀U H Q,lT K tt U H Q->tt1 U H Q)
  (k:∀Z1 H1 M1 vs ds,Le Z Z1->HR K H1 M1 Z1->Dq Z1 vs ds->QL ds M1->∀p,H1 p=none->Q (.ref p) (CA H1 p (.lst vs))):JN (lI K wi) caps tt1 (lE K te) U H Q:=by
 refine⟨Z,τ,M,_,st,hr,h,λZ1 J xs S H1 M1 l1 h1 jk ⟨hz,W,w0,stay,turn,done⟩=>?_⟩;refine⟨xs.length,λi vs H=>i<=xs.length/\∃Z2 M2 ds,Le Z1 Z2/\HR K H M2 Z2/\Dq Z2 vs ds/\W i ds M2,⟨Ef _,Z1,M1,[],Le.refl _,h1,.nil,w0⟩,?_⟩;intro i vs H2;ext1⟨hi,Z2,M2,ds,l2,h2,a2,w2⟩;obtain⟨s2,hl⟩:=stay i ds M2 w2;obtain⟨go,stop⟩:=jk i H2 M2 Z2 l2 h2 s2;have la:=a2.length;by_cases hlt:i<xs.length
 .obtain⟨g1,g2⟩:=go _ (Af hlt);refine .inr ⟨g1,hlt,by ext,λx H' y=>?_⟩;obtain⟨Z5,l5,h5,a⟩:=g2 x H' y;have tk:=turn i _ ds M2 (Af hlt) w2;have l2:=l2.trans l5;have a2:=a2.mono l5;refine ht _ _ _ (lT.bind ((st.mono (l1.trans l2)).cap caps a) h5 tk λZ3 b H3 M3 l3 h3 q3=>?_);cases b with
  |false=>rw[if_neg Al]at q3 ⊢;exact⟨hlt,Z3,M3,ds,l2.trans l3,h3,a2.mono l3,q3⟩
  |true=>rw[if_pos rfl]at q3 ⊢;refine lE.bind (((st.mono (l1.trans l2)).cap caps a).mono l3) h3 q3 λZ4 z dz H4 M4 l4 h4 a4 q4=>?_;exact⟨hlt,Z4,M4,ds++[dz],l2.trans (l3.trans l4),h4,(a2.mono (l3.trans l4)).append (.cons a4 .nil),q4⟩
 .have e:i=xs.length:=by ext
  subst e;exact .inl ⟨stop (AJ _),by ext,k Z2 H2 M2 vs ds (l1.trans l2) h2 a2 (done ds M2 w2)⟩
theorem Lm {K:Ac}:∀U H Q,lT K GC U H Q->SS U H Q:=λU H Q ⟨Z,τ,M,Q2,st,hr,h,k⟩=>k Z true H M (Le.refl _) hr h
theorem LO {K:Ac}(ht:∀U H Q,lT K tt U H Q->tt1 U H Q):∀U H Q,lE K (Hy wi caps tt te) U H Q->JN (lI K wi) caps tt1 (lE K te) U H Q:=by
 intro U H Q;ext1⟨Z,τ,M,Q2,st,hr,h,k⟩;exact Yy st hr h ht λZ1 H1 M1 vs ds l1 h1 a1 q p hp=>(k.le l1).f h1 hp a1 q
theorem S6 {K:Ac}(ht:∀U H Q,lT K tt U H Q->tt1 U H Q):∀U H Q,lE K (Oy wi caps tt te) U H Q->JN (lI K wi) caps tt1 (lE K te) U H Q:=by
 intro U H Q;ext1⟨Z,τ,M,Q2,st,hr,h,k⟩;exact Yy st hr h ht λZ1 H1 M1 vs ds l1 h1 a1 q p hp=>(k.le l1).l h1 hp a1 q
variable {scope:K2}{x:Str}{px:Pos}{caps:List (Str×Nat)}{elt iter:Ca}  {wi:Ng}
theorem Gm (B:Eb X scope x caps)(hc:X.calm=true)(hi:Ho X (.Name x px) iter wi)(he:∀cl C fp pn s H,BY (GL X scope cl C (x::caps.map (·.1)) fp pn s H) elt te)
  (hs:∀x,Bw iter X.env x=pure x:=by intro _;rfl):BY X (.ListComp elt [⟨.Name x px,iter,[],0⟩] scope pos) (Hy wi caps GC te):=PE.mono (aC (te:=lE X.K te) B hc hi he (λ_ _ _ _ _ _=>HE.nil) hs) (LO Lm)
theorem XH (B:Eb X scope x caps)(hc:X.calm=true)(hi:Ho X (.Name x px) iter wi)(he:∀cl C fp pn s H,BY (GL X scope cl C (x::caps.map (·.1)) fp pn s H) elt te)
  (hs:∀x,Bw iter X.env x=pure x:=by intro _;rfl):BY X (.ListComp elt [⟨.Name x px,iter,[],0⟩] scope pos) (Oy wi caps GC te):=PE.mono (aC (te:=lE X.K te) B hc hi he (λ_ _ _ _ _ _=>HE.nil) hs) (S6 Lm)
theorem Jc (B:Eb X scope x caps)(hc:X.calm=true)(hi:Ho X (.Name x px) iter wi)(he:∀cl C fp pn s H,BY (GL X scope cl C (x::caps.map (·.1)) fp pn s H) elt te)(hif:∀cl C fp pn s H,HM (GL X scope cl C (x::caps.map (·.1)) fp pn s H) c tt)
  (hs:∀x,Bw iter X.env x=pure x:=by intro _;rfl):BY X (.ListComp elt [⟨.Name x px,iter,[c],0⟩] scope pos) (Hy wi caps tt te):=PE.mono (aC (te:=lE X.K te) (tt:=lT X.K tt) B hc hi he (λcl C fp pn s H=>HE.one (hif cl C fp pn s H)) hs) (LO λ_ _ _ h=>h)
section
variable {i:Nat}{y:Str}
theorem Qs {K:Ac}(m:∀U H Q,lE K t2 U H Q->t1 U H Q):∀D U H,lS K (Fz i t2) D U H->OU t1 (Kt i) D U H:=by
 intro D U H;ext1⟨Z,τ,M,D2,st,hr,h,er⟩;exact m _ _ _ (lE.bind st hr h λZ1 x dx H1 M1 l1 h1 a1 q1=>lS.nx (er.le l1) ((st.mono l1).set a1 i) h1 q1)
variable (hN:X.N.Nodup)(hi0:X.N[i]? = some y)(hy:X.env.scope.names.lookup y=some .local)(B:Eb X scope x caps)(hc:X.calm=true)(hi:Ho X (.Name x px) iter wi)(he:∀cl C fp pn s H,BY (GL X scope cl C (x::caps.map (·.1)) fp pn s H) elt te)
theorem sR (hN:X.N.Nodup)(hi0:X.N[i]? = some y)(hy:X.env.scope.names.lookup y=some .local)(B:Eb X scope x caps)(hc:X.calm=true)(hi:Ho X (.Name x px) iter wi)(he:∀cl C fp pn s H,BY (GL X scope cl C (x::caps.map (·.1)) fp pn s H) elt te)
  (hsw:DW (.ListComp elt [⟨.Name x px,iter,[],0⟩] scope pos) (some (.Name y py)) spos.line X.env=pure true:=by rfl) (hs:∀x,Bw iter X.env x=pure x:=by intro _;rfl) :
  GN X (.Assign [.Name y py] (.ListComp elt [⟨.Name x px,iter,[],0⟩] scope pos) spos) (Fz i (Hy wi caps GC te)):=PS.mono (jH (te:=lE X.K te) hN hi0 hy B hc hi he (λ_ _ _ _ _ _=>HE.nil) hsw hs) (Qs (LO Lm))
theorem nr (hN:X.N.Nodup)(hi0:X.N[i]? = some y)(hy:X.env.scope.names.lookup y=some .local)(B:Eb X scope x caps)(hc:X.calm=true)(hi:Ho X (.Name x px) iter wi)(he:∀cl C fp pn s H,BY (GL X scope cl C (x::caps.map (·.1)) fp pn s H) elt te)
  (hsw:DW (.ListComp elt [⟨.Name x px,iter,[],0⟩] scope pos) (some (.Name y py)) spos.line X.env=pure true:=by rfl) (hs:∀x,Bw iter X.env x=pure x:=by intro _;rfl) :
  GN X (.Assign [.Name y py] (.ListComp elt [⟨.Name x px,iter,[],0⟩] scope pos) spos) (Fz i (Oy wi caps GC te)):=PS.mono (jH (te:=lE X.K te) hN hi0 hy B hc hi he (λ_ _ _ _ _ _=>HE.nil) hsw hs) (Qs (S6 Lm))
theorem kA (hN:X.N.Nodup)(hi0:X.N[i]? = some y)(hy:X.env.scope.names.lookup y=some .local)(B:Eb X scope x caps)(hc:X.calm=true)(hi:Ho X (.Name x px) iter wi)(he:∀cl C fp pn s H,BY (GL X scope cl C (x::caps.map (·.1)) fp pn s H) elt te)(hif:∀cl C fp pn s H,HM (GL X scope cl C (x::caps.map (·.1)) fp pn s H) c tt)
  (hsw:DW (.ListComp elt [⟨.Name x px,iter,[c],0⟩] scope pos) (some (.Name y py)) spos.line X.env=pure true:=by rfl) (hs:∀x,Bw iter X.env x=pure x:=by intro _;rfl) :
  GN X (.Assign [.Name y py] (.ListComp elt [⟨.Name x px,iter,[c],0⟩] scope pos) spos) (Fz i (Hy wi caps tt te)):=PS.mono (jH (te:=lE X.K te) (tt:=lT X.K tt) hN hi0 hy B hc hi he (λcl C fp pn s H=>HE.one (hif cl C fp pn s H)) hsw hs) (Qs (LO λ_ _ _ h=>h))
end
def lM (K:Ac)(r:D->List D->Mp->El->Prop):V->List V->Hp->VK->Prop:=λx xs H Q=>∃Z d ds M Q2,HR K H M Z/\At Z x d/\Dq Z xs ds/\r d ds M Q2/\Hs K Z Q2 Q
@[irreducible] def EK (X:Cx)(id:String)(r:D->List D->Mp->El->Prop):Prop:=Nh X id (lM X.K r)
unseal EK
theorem Nh.mono {id:String}{r r':V->List V->Hp->VK->Prop}(h:Nh X id r)(m:∀x xs H Q,r' x xs H Q->r x xs H Q):Nh X id r':=λAe s U H x xs v us Q I rx r q=>h Ae s U H x xs v us Q I rx r (m x xs H Q q)
def mI (T:String)(r:D->List D->Mp->El->Prop)(to:DV)(t:Kc):DV:=λτ M Q=>to τ M λx M1=>MZ M1 x=some T/\t τ M1 λxs M2=>r x xs M2 Q
def W2 (T:String)(r:D->List D->Mp->El->Prop)(to:DV):DV:=λτ M Q=>to τ M λx M1=>MZ M1 x=some T/\r x [] M1 Q
theorem rH {K:Ac}{H:Hp}{M:Mp}{Z:Zt}{T:String}{v:V}{d:D}(hr:HR K H M Z)(a:At Z v d)(h:MZ M d=some T)(hT:T = "list"\/T = "int"\/T = "str"):Zq K T v H:=by
 cases d with
 |int i=>cases h;cases(show v=V.int i from a);rfl
 |str i=>cases h;cases(show v=V.str i from a);rfl
 |lst ds=>cases h;obtain⟨p,vs,rfl,hs,_⟩:=hr.rdF a;exact .inl ⟨rfl,vs,hs⟩
 |dic ds=>cases h;rcases hT with h | h | h<;>exact absurd h (by decide)
 |dct ds=>cases h;rcases hT with h | h | h<;>exact absurd h (by decide)
 |ref p=>
  cases(show v=.ref p from a);cases q:M p with
  |none=>rw[Vo q]at h;cases h
  |some o=>
   rw[Vo q]at h;cases o with
   |lst l=>cases h;obtain⟨vs,r,_⟩:=hr.rdM q;exact .inl ⟨rfl,vs,FH.of r⟩
   |dic l=>cases h;rcases hT with h | h | h<;>exact absurd h (by decide)
   |dct l=>cases h;rcases hT with h | h | h<;>exact absurd h (by decide)
   |obj C f=>cases h
 |non=>cases h;rcases hT with h | h | h<;>exact absurd h (by decide)
 |bl _=>cases h;rcases hT with h | h | h<;>exact absurd h (by decide)
 |tup _=>cases h;rcases hT with h | h | h<;>exact absurd h (by decide)
 |ty _=>cases h
theorem JX {T id:String}(pa:Ny T)(slot:cM T name id)(hty:Tq (.builtin id)=pure (.type "method_descriptor"))(hm:EK X id r)(ho:BY X o to)(ha:Gc X (e::es) t)
  (hT:T = "list"\/T = "int"\/T = "str":=by decide)
  (hbase:CF o name X.env (eval o X.env)=eval o X.env:=by rfl)
  (hfew:((Cc cpos (As (e::es) X.env)).all (λx=>!x.1) && (Fq cpos (DC [] X.env)).all (λx=>x.1.isSome)
   && decide ((e::es).length+([]:List E5).length+(if ([]:List E5).isEmpty then 0 else 1)<30))=true:=by rfl)
  (hline:(apos.endLine == cpos.line)=true:=by rfl) (hs:As (e::es) X.env=(false,eval e X.env)::As es X.env:=by rfl) (hplain:(Cc cpos (As es X.env)).any (·.1)=false:=by rfl) :
  BY X (.Call (.Attribute o name apos) (e::es) [] cpos) (mI T r to t):=PE.mono (nV pa slot hty hm ho ha hbase hfew hline hs hplain) (by
 intro U H Q;ext1⟨Z,τ,M,Q2,st,hr,h,k⟩;refine lE.bind st hr h λZ1 x dx H1 M1 l1 h1 a1 q1=>⟨rH h1 a1 q1.1 hT,Z1,τ,M1,_,st.mono l1,h1,q1.2,λZ2 vs ds H2 M2 l2 h2 a2 q2=>?_⟩;exact ⟨Z2,dx,ds,M2,Q2,h2,a1.mono l2,a2,q2,k.le (l1.trans l2)⟩)
theorem T7 {T id:String}(pa:Ny T)(slot:cM T name id)(hty:Tq (.builtin id)=pure (.type "method_descriptor"))(hm:EK X id r)(ho:BY X o to)
  (hT:T = "list"\/T = "int"\/T = "str":=by decide)
  (hbase:CF o name X.env (eval o X.env)=eval o X.env:=by rfl) (hline:(apos.endLine == cpos.line)=true:=by rfl) :
  BY X (.Call (.Attribute o name apos) [] [] cpos) (W2 T r to):=PE.mono (iu pa slot hty hm ho hbase hline) (by
 intro U H Q;ext1⟨Z,τ,M,Q2,st,hr,h,k⟩;refine lE.bind st hr h λZ1 x dx H1 M1 l1 h1 a1 q1=>⟨rH h1 a1 q1.1 hT,Z1,dx,[],M1,Q2,h1,a1,.nil,q1.2,k.le l1⟩)
def GX:D->List D->Mp->El->Prop:=λx xs M Q=>JO x λp=>GG xs λy=>match M p with
 |some (.lst ys)=>ys.length<Am/\Q .non (put M p (.lst (ys++[y])))
 |_=>False
theorem QJ:EK X "list.append" GX:=Nh.mono wu (by
 intro x xs H Q;ext1⟨Z,d,ds,M,Q2,hr,a,as,h,k⟩;obtain⟨p,rfl,h1⟩:=Ib h;obtain⟨y,rfl,h2⟩:=Hk h1;cases(show x=V.ref p from a);obtain⟨v,rfl,av⟩:=IF as;split at h2
 .next ys e=>
  obtain⟨hl,q⟩:=h2;obtain⟨vs,r,a2⟩:=hr.rdM e;refine⟨p,vs,v,rfl,rfl,r,by rw[a2.length];exact hl,?_⟩;exact k Z .non .non _ _ (Le.refl _) (hr.chgL e (a2.append (.cons av .nil))) rfl q
 .exact h2.elim)
theorem e8:EK X "int.bit_length" (λx xs M Q=>EW x λi=>xs=[]/\Q (.int (Ej i)) M):=Nh.mono mj (by
 intro x xs H Q;ext1⟨Z,d,ds,M,Q2,hr,a,as,h,k⟩;obtain ⟨i,rfl,rfl,q⟩:=CU h;cases as;exact ⟨i,a,rfl,k.i hr q⟩)
def Xg (h:Av)(D:List (Str×Int)):KJ:=λx y M Q=>JO x λa=>a=h/\Gb y λk=>Ck (D.lookup k) λv=>Q (.int v) M
theorem pU {D:List (Str×Int)}(T:TabOk X.K X.w h D):FC X (Xg h D):=O6.mono b6 (by
 intro x y H Q;ext1⟨Z,dx,dy,M,Q2,hr,ax,ay,q,k⟩;obtain ⟨a,rfl,rfl,q1⟩:=Ib q;obtain ⟨k',rfl,q2⟩:=D4 q1;obtain ⟨v,l,q3⟩:=Ci q2;exact ⟨a,D,k',v,ax,ay,T,l,k.i hr q3⟩)
def Dn (Q:El):El:=λd M=>∃M0,Sub M0 M/\Q d M0
theorem Dn.of (h:Q d M):Dn Q d M:=⟨M,Sub.refl _,h⟩
noncomputable def Ju (N:List Str)(ds:List D):Gu:=ds.map some++Ax (N.length-ds.length) none
noncomputable def Ew:List Str->List D->Gu
 |[],_=>[]
 |_::N,[]=>none::Ew N []
 |_::N,d::ds=>some d::Ew N ds
theorem kB:∀{N:List Str}{ds:List D},ds.length<=N.length->Ew N ds=Ju N ds
 |[],[],_=>rfl
 |[],d::ds,h=>by simp at h
 |n::N,[],_=>by
  unfold Ew;rw[kB (Ef _)];simp[Ju,CY]
 |n::N,d::ds,h=>by
  unfold Ew;rw[kB (by simpa using h)];simp[Ju]
theorem wm (a:Dq Z vs ds):Gs Z (L2.start N vs) (Ju N ds):=by
 unfold L2.start Ju;rw[a.length]
 have tail:∀n,Gs Z (Ax n none) (Ax n none):=λn=>by
  induction n with
  |zero=>exact .nil
  |succ n ih=>exact .cons Ch ih
 generalize N.length-ds.length=n;induction a with
 |nil=>exact tail n
 |cons r _ ih=>exact .cons r ih
end
section
variable   {K:Ac}
theorem CI.ok2 {st:DG}(F:CI K x qual st f fd)(S:Fe N ps (IP st))(len:∀ds M Q,sp ds M Q->ds.length=ps.length)
  (hbody:∀ cdv A outer s H E ds M Q,Dy k (A.deeper (FJ qual (IP st) s.heap.objs.size f cdv))->sp ds M Q ->
   ∃ t,Dd (J0 CX0 P w K mg base N qual (IP st) f cdv A outer s H E).nox (NZ st) t/\t { nx:=λ_ M'=>Dn Q .non M',rt:=Dn Q } (Ew N ds) M):FnOk P w K mg base CX0 (k+1) f fd ps (lSp K sp):=by
 refine F.ok S (λvs H Q E h=>?_) λcdv A outer s H vs Q E hr h=>?_
 .obtain⟨Z,ds,M,Q2,_,a,h,_⟩:_:=h;rw[a.length];exact len ds M Q2 h
 .obtain⟨Z,ds,M,Q2,hR,a,h,k'⟩:_:=h;obtain⟨t,ht,q⟩:=hbody cdv A outer s H E ds M Q2 hr h;have hpl:ps.length<=N.length:=by have:=congrArg Es S.pre;rw[AY]at this;ext
  rw[kB (by rw[len ds M Q2 h];exact hpl)]at q;refine⟨_,ht,Z,Ju N ds,M,_,wm a,hR,q,?_⟩;refine⟨λZ1 U τ H1 M1 l1 s1 h1 q1=>?_,k'.dn,λ_ _ _ _ _ _ _ _ q=>q.elim,λ_ _ _ _ _ _ _ _ q=>q.elim⟩;exact(k'.dn.le l1).n h1 q1
def spLaw2:DO:=λds M Q=>∃ns:List Int,ds=[.lst (ns.map D.int)]/\ns.length<=63/\∀M',Q (.bl true) M'
theorem rQ (Z)(ns:List Int):Dq Z (ns.map V.int) (ns.map D.int):=by
 induction ns with
 |nil=>exact .nil
 |cons n r ih=>exact .cons rfl ih
theorem ez {ns:List Int}(hl:ns.length<=63)(hS:FH K H a (ns.map V.int)):lSp K spLaw2 [.ref a] H (λv _=>v=.bl true) E:=by
 refine⟨λb d=>b=a/\d=.lst (ns.map D.int),[.lst (ns.map D.int)],λ_=>none,λd _=>d=.bl true,⟨λp d z=>?_,λp o e=>nomatch e⟩,.cons ⟨a,rfl,rfl,rfl⟩ .nil,⟨ns,rfl,hl,λ_=>rfl⟩,λZ' v d H' M' _ _ at' q=>?_⟩
 .obtain⟨rfl,rfl⟩:=z;rcases hS with r|r
  .exact .inl ⟨_,r,rQ _ ns⟩
  .exact .inr ⟨_,r,rQ _ ns⟩
 .subst q;exact at'
theorem walk2 {l:Pk}{K:Kh->Ac}(hn:l.most=some 63)(hdf:d.params.defaults=[])(hr:Dy k JG)
  (hY:∀w h,YP w h->(K w.params).In h)
  (F:∀ w mg fa h,(K w.params).In h->h.Ns BW mg->mg d.name=some (.ref fa) ->
   ∃ fd,(∀ s u,MY s fd ⟨[u],[]⟩ [("script",u)])/\∀ base,(K w.params).In base->base.Ns BW mg->FnOk l.prog w (K w.params) mg base CX0 k fa fd ["script"] (lSp (K w.params) spLaw2)) :
  QW q loose XP YP l.row.toRowW d [] (λf vs=>OJ f vs):=
 L2.walk_of hn (by decide) hdf hr hY F (λ_ _ a ns hl _ hS=>ez hl hS) λ_ _ _ _ _ z=>z
end
end L3
namespace L3
open PySem PySem.Spec PyProof.Rows L2
unseal BY HM Jl Gc Kd GN Dd Cb FP BS FC F5 KN Ho EK
section
theorem rS (I:A4 X Ae U H s)(h1:FH X.K H p vs)(h2:FH X.K H p' ws)(hz:vs.length+ws.length<=Am)
  (q:∀l,H l=none->Q (.ref l) (CA H l (.lst (vs++ws)))):Au (AA X.prog X.w) X.A (Bt .Add (.ref p) (.ref p')) (EP X Ae U Q) X.xe s:=by
 obtain⟨Bk,r1,l1,_⟩:=I.list h1;obtain⟨its2,r2,l2,_⟩:=I.list h2;have n1:=r1.length;have n2:=r2.length;obtain⟨⟨cls,dd,data,sl⟩,ho,hc,n,hd⟩:=l1.isList;obtain⟨⟨cls2,dd2,data2,sl2⟩,ho2,hc2,n2',hd2⟩:=l2.isList;simp only at hc hd hc2 hd2;subst hc hd hc2 hd2;refine concat_meets ⟨_,ho,rfl⟩ ⟨_,ho2,rfl⟩ noFill_list_add seq_list_add PySem.F.slot_list_add PySem.F.entry_list_add (PySem.F.args_list_add_2 _ _) (list_addW p p' Bk.toArray its2.toArray n n2' dd dd2 sl sl2 (by simp;ext)) ⟨ho,ho2,?_⟩;have e:Bk.toArray++its2.toArray=(Bk++its2).toArray:=by simp
 rw[e];exact⟨.ref _,_,I.lnew (r1.append r2) (by rw[Aq];ext),rfl,q _ I.fresh⟩
def SW:KJ:=λx y M Q=>Ck (Bf M x) λxs=>Ck (Bf M y) λys=>xs.length+ys.length<=Am/\Q (.lst (xs++ys)) M
def Xq:KJ:=λx y M Q=>Ck (Bf M x) λxs=>Ck (Bf M y) λys=>xs.length+ys.length<=Am/\∀p,M p=none->Q (.ref p) (put M p (.lst (xs++ys)))
theorem ZV:Cb X (Bt .Add) SW:=by
 intro Ae s U H x y v u Q I rx ry;ext1⟨Z,dx,dy,M,Q2,hr,ax,ay,h,k⟩;obtain⟨xs,e1,h1⟩:=Ci h;obtain⟨ys,e2,hz,q⟩:=Ci h1;obtain⟨p,vs,rfl,hs,a⟩:=hr.rdL e1 ax;obtain⟨p',ws,rfl,hs',a'⟩:=hr.rdL e2 ay;cases(show v=AC p from rx);cases(show u=AC p' from ry);have l1:=a.length;have l2:=a'.length;exact rS I hs hs' (by ext) λl hl=>k.f hr hl (a.append a') q
theorem zO:Cb X (Bt .Add) Xq:=by
 intro Ae s U H x y v u Q I rx ry;ext1⟨Z,dx,dy,M,Q2,hr,ax,ay,h,k⟩;obtain⟨xs,e1,h1⟩:=Ci h;obtain⟨ys,e2,hz,q⟩:=Ci h1;obtain⟨p,vs,rfl,hs,a⟩:=hr.rdL e1 ax;obtain⟨p',ws,rfl,hs',a'⟩:=hr.rdL e2 ay;cases(show v=AC p from rx);cases(show u=AC p' from ry);have l1:=a.length;have l2:=a'.length;exact rS I hs hs' (by ext) λl hl=>k.l hr hl (a.append a') q
noncomputable def F4 (f:D->D->Option Bool):List D->List D->Option Bool
 |[],[]=>some true
 |[],_::_=>some false
 |_::_,[]=>some false
 |x::xs,y::ys=>match f x y,F4 f xs ys with
  |some a,some b=>some (a && b)
  |_,_=>none
noncomputable def DR (M:Mp):Nat->D->D->Option Bool
 |0,x,y=>if Ea x && Ea y then some (Ku x y)else none
 |n+1,x,y=>if Ea x && Ea y then some (Ku x y)else match x,y with
  |.tup xs,.tup ys=>F4 (DR M n) xs ys
  |x,y=>match Bf M x,Bf M y with
   |some xs,some ys=>F4 (DR M n) xs ys
   |_,_=>none
theorem nO {Z:Zt}{x y:V}{d e:D}(ax:At Z x d)(ay:At Z y e)(f1:Ea d=true)(f2:Ea e=true):Ha x=true/\Ha y=true/\Qu x y=Ku d e:=by
 cases d<;>first
  |exact absurd f1 Al
  | (cases e<;>first
    |exact absurd f2 Al
    | (subst ax;subst ay;refine ⟨rfl,rfl,?_⟩;delta Qu Ku;simp [NG]))
theorem Th :∀{xs ys:List D}{b:Bool},F4 f xs ys=some b->∃e:Nat->Bool,(∀(j:Nat) x y,xs[j]? = some x->ys[j]? = some y->f x y=some (e j)) /\
  ((Bp (min xs.length ys.length)).all e && xs.length == ys.length)=b
 |[],[],b,h=>⟨λ_=>true,λj x y h=>by simp at h,by cases h;rfl⟩
 |[],y::ys,b,h=>⟨λ_=>true,λj x y h=>by simp at h,by cases h;simp⟩
 |x::xs,[],b,h=>⟨λ_=>true,λj x y _ h=>by simp at h,by cases h;simp⟩
 |x::xs,y::ys,b,h=>by
  unfold F4 at h;split at h
  .next a c ha hc=>
   cases h;obtain⟨e,he,hb⟩:=Th hc;refine⟨λj=>match j with | 0=>a | j+1=>e j,λj x' y' h1 h2=>?_,?_⟩
   .cases j with
    |zero=>
     have e1:x=x':=by simpa using h1
     have e2:y=y':=by simpa using h2
     rw[<- e1,<- e2];exact ha
    |succ j=>exact he j x' y' (by simpa using h1) (by simpa using h2)
   .rw[AO,AO,Nat.succ_min_succ,EB,FZ,Vb,<- hb];have:((λj=>match j with | 0=>a | j+1=>e j) ∘ Nat.succ:Nat->Bool)=e:=rfl;rw[this,Bool.and_assoc];congr 2
    simp
  .cases h
theorem Uw (r:BF vs us)(a:Dq Z vs ds)(j:Nat)(h:j<us.toArray.size):∃v d,vs[j]? = some v/\ds[j]? = some d/\At Z v d/\RelV v us.toArray[j]:=by
 have l1:=r.length;have k1:j<vs.length:=by rw[l1];simpa using h
 have e:=Af k1;obtain⟨u,e1,q1⟩:=r.get e;obtain⟨d,e2,q2⟩:=a.got e
 have z1:us.toArray[j]=u:=by
  obtain⟨_,z⟩:=Ah.mp e1;simpa using z
 exact⟨_,d,e,e2,q2,by rw[z1];exact q1⟩
theorem rA (h:k=true):Eo A s (.ref p) (.ref p) k:=by rw[h];exact Nx _
theorem rV {Ae:List (Av×Obj)}{U:St}{H:Hp}{s:Ar}{M:Mp}{Z:Zt}(I:A4 X Ae U H s)(hr:HR X.K H M Z):∀(n:Nat) {v:V}{x y:D}{b:Bool},At Z v x->At Z v y->DR M n x y=some b->b=true:=by
 have flat:∀{v:V} {x y:D},At Z v x->At Z v y->Ea x=true->Ea y=true->Ku x y=true:=λ{v x y} ax ay f1 f2=>by
  cases x<;>first
   |exact absurd f1 Al
   | (cases y<;>first
     |exact absurd f2 Al
     | (rw [show v=_ from ax] at ay;cases ay<;>(delta Ku;simp)))
 intro n;induction n with
 |zero=>
  intro v x y b ax ay h;unfold DR at h;split at h
  .next f=>
   rw[BI]at f;cases h;exact flat ax ay f.1 f.2
  .cases h
 |succ n ih=>
  intro v x y b ax ay h;unfold DR at h;split at h
  .next f=>
   rw[BI]at f;cases h;exact flat ax ay f.1 f.2
  .have lists:∀{vs:List V} {xs ys:List D},Dq Z vs xs->Dq Z vs ys->F4 (DR M n) xs ys=some b->b=true:=λ{vs xs ys} a1 a2 hc=>by
    obtain⟨e,he,hb⟩:=Th hc;have l1:=a1.length;have l2:=a2.length;rw[<- hb,BI];refine⟨CM.mpr λj hj=>?_,by simp;ext⟩;have hj':j<min xs.length ys.length:=Cv.mp hj;have k1:j<xs.length:=by ext
    have k2:j<ys.length:=by ext
    obtain⟨v1,e1,q1⟩:=a1.get (Af k1);obtain⟨v2,e2,q2⟩:=a2.get (Af k2);rw[e1]at e2;cases e2;exact ih q1 q2 (he j _ _ (Af k1) (Af k2))
   split at h
   .obtain⟨p,vs,rfl,hs,a1⟩:=hr.rdT ax;obtain⟨p',ws,e,hs',a2⟩:=hr.rdT ay;cases e;rw[I.tuple_inj hs' hs]at a2;exact lists a1 a2 h
   .split at h
    .next e1 e2=>
     obtain⟨p,vs,rfl,hs,a1⟩:=hr.rdL e1 ax;obtain⟨p',ws,e,hs',a2⟩:=hr.rdL e2 ay;cases e;rw[I.list_inj hs' hs]at a2;exact lists a1 a2 h
    .cases h
theorem ZR (I:A4 X Ae U H s)(hr:HR X.K H M Z):∀n {A:Cy}{v w:V}{x y:D}{u u':Ai}{b:Bool},At Z v x->At Z w y->RelV v u->RelV w u'->A.units+n<C9->DR M n x y=some b->Eo A s u u' b:=by
 have flat:∀{A:Cy} {v w:V} {x y:D} {u u':Ai},At Z v x->At Z w y->RelV v u->RelV w u'->Ea x=true->Ea y=true->Eo A s u u' (Ku x y):=λ{A v w x y u u'} ax ay rx ry f1 f2=>by
  obtain⟨k1,k2,k3⟩:=nO ax ay f1 f2;rw[<- k3];exact pQ rx ry k1 k2
 intro n;induction n with
 |zero=>
  intro A v w x y u u' b ax ay rx ry hu h;unfold DR at h;split at h
  .next f=>
   rw[BI]at f;cases h;exact flat ax ay rx ry f.1 f.2
  .cases h
 |succ n ih=>
  intro A v w x y u u' b ax ay rx ry hu h;have h0:=h;unfold DR at h;split at h
  .next f=>
   rw[BI]at f;cases h;exact flat ax ay rx ry f.1 f.2
  .have hu1:A.in1.units+n<C9:=by show A.units+1+n<C9;ext
   have hu0:A.units<C9:=by ext
   have items:∀{vs ws:List V} {xs ys:List D} {Bk its2:List Ai} {e:Nat->Bool},BF vs Bk->BF ws its2->Dq Z vs xs->Dq Z ws ys->(∀(j:Nat) x y,xs[j]? = some x->ys[j]? = some y->DR M n x y=some (e j)) ->
     ∀j (h1:j<Bk.toArray.size) (h2:j<its2.toArray.size),Eo A.in1 s Bk.toArray[j] its2.toArray[j] (e j):=λ{vs ws xs ys Bk its2 e} r1 r2 a1 a2 he j h1 h2=>by
    obtain⟨v1,d1,_,e1,q1,z1⟩:=Uw r1 a1 j h1;obtain⟨v2,d2,_,e2,q2,z2⟩:=Uw r2 a2 j h2;exact ih q1 q2 z1 z2 hu1 (he j d1 d2 e1 e2)
   split at h
   .obtain⟨p,vs,rfl,hs,a1⟩:=hr.rdT ax;obtain⟨p',ws,rfl,hs',a2⟩:=hr.rdT ay;cases(show u=AC p from rx);cases(show u'=AC p' from ry);obtain⟨Bk,r1,t1,_⟩:=I.tuple hs;obtain⟨its2,r2,t2,_⟩:=I.tuple hs';obtain⟨e,he,hb⟩:=Th h;by_cases hp:p=p'
    .subst hp;exact rA (rV I hr _ ax ay h0)
    .have l1:=a1.length;have l2:=a2.length;have m1:=r1.length;have m2:=r2.length;have z:=HH hp (SeqAt.RcAt.tuples t1 t2 hu0 (items r1 r2 a1 a2 he));rw[show Bk.toArray.size=(_:List D).length by simp;rw[<- m1,l1],show its2.toArray.size=(_:List D).length by simp;rw[<- m2,l2],hb]at z;exact z
   .split at h
    .next xs ys e1 e2=>
     obtain⟨p,vs,rfl,hs,a1⟩:=hr.rdL e1 ax;obtain⟨p',ws,rfl,hs',a2⟩:=hr.rdL e2 ay;cases(show u=AC p from rx);cases(show u'=AC p' from ry);obtain⟨Bk,r1,t1,_⟩:=I.list hs;obtain⟨its2,r2,t2,_⟩:=I.list hs';obtain⟨e,he,hb⟩:=Th h;by_cases hp:p=p'
     .subst hp;exact rA (rV I hr _ ax ay h0)
     .have l1:=a1.length;have l2:=a2.length;have m1:=r1.length;have m2:=r2.length;have s1:Bk.toArray.size=xs.length:=by simp;ext
      have s2:its2.toArray.size=ys.length:=by simp;ext
      by_cases hl:xs.length=ys.length
      .have z:=HH hp (SeqAt.RcAt.lists t1.isList t2.isList (by ext) hu0 (items r1 r2 a1 a2 he));rw[s1]at z;rw[<- hb,hl,KS];rw[hl]at z;simpa using z
      .have z:=HH hp (SeqAt.RcAt.lists_lengths t1.isList t2.isList (by rw[s1,s2];simpa using hl) hu0);rw[<- hb,show(xs.length == ys.length)=false by simpa using hl,DJ];exact z
    .cases h
def NO (neg:Bool):KJ:=λx y M Q=>match x,y with
 |.tup xs,.tup ys=>Ck (F4 (DR M 40) xs ys) λb=>Q (.bl (if neg then !b else b)) M
 |x,y=>Ck (Bf M x) λxs=>Ck (Bf M y) λys=>Ck (F4 (DR M 40) xs ys) λb=>Q (.bl (if neg then !b else b)) M
theorem aV {A:Cy}(I:A4 X Ae U H s)(hr:HR X.K H M Z)(hu:A.units+41<C9){e:Nat->Bool}(r1:BF vs Bk)(r2:BF ws its2)(a1:Dq Z vs xs)(a2:Dq Z ws ys)
  (he:∀(j:Nat) x y,xs[j]? = some x->ys[j]? = some y->DR M 40 x y=some (e j)):∀j (h1:j<Bk.toArray.size) (h2:j<its2.toArray.size),Eo A.in1 s Bk.toArray[j] its2.toArray[j] (e j):=λj h1 h2=>by
 obtain⟨v1,d1,_,e1,q1,z1⟩:=Uw r1 a1 j h1;obtain⟨v2,d2,_,e2,q2,z2⟩:=Uw r2 a2 j h2;exact ZR I hr 40 q1 q2 z1 z2 (by show A.units+1+40<C9;ext) (he j d1 d2 e1 e2)
theorem tS (h:NO neg x y M Q):∃xs ys b,F4 (DR M 40) xs ys=some b/\Q (.bl (if neg then !b else b)) M/\((x=.tup xs/\y=.tup ys)\/(Bf M x=some xs/\Bf M y=some ys)):=by
 unfold NO at h;split at h
 .obtain⟨b,e,q⟩:=Ci h;exact⟨_,_,b,e,q,.inl ⟨rfl,rfl⟩⟩
 .obtain⟨xs,e1,h1⟩:=Ci h;obtain⟨ys,e2,h2⟩:=Ci h1;obtain⟨b,e,q⟩:=Ci h2;exact⟨_,_,b,e,q,.inr ⟨e1,e2⟩⟩
theorem hU (hu:X.A.units+41<C9):Cb X (A7 .Eq) (NO false):=by
 intro Ae s U H x y v u Q I rx ry;ext1⟨Z,dx,dy,M,Q2,hr,ax,ay,h,k⟩;obtain⟨xs,ys,b,hc,q,h|h⟩:=tS h
 .obtain⟨rfl,rfl⟩:=h;obtain⟨p,vs,rfl,hs,a1⟩:=hr.rdT ax;obtain⟨p',ws,rfl,hs',a2⟩:=hr.rdT ay;cases(show v=AC p from rx);cases(show u=AC p' from ry);obtain⟨Bk,r1,t1,_⟩:=I.tuple hs;obtain⟨its2,r2,t2,_⟩:=I.tuple hs';obtain⟨e,he,hb⟩:=Th hc;have l1:=a1.length;have l2:=a2.length;have m1:=r1.length;have m2:=r2.length;refine SeqAt.eq_tupleAt t1 t2 (by ext) (aV I hr hu r1 r2 a1 a2 he) ⟨.bl b,H,I,?_,k.b hr q⟩;rw[show Bk.toArray.size=xs.length by simp;ext,show its2.toArray.size=ys.length by simp;ext,hb];rfl
 .obtain⟨e1,e2⟩:=h;obtain⟨p,vs,rfl,hs,a1⟩:=hr.rdL e1 ax;obtain⟨p',ws,rfl,hs',a2⟩:=hr.rdL e2 ay;cases(show v=AC p from rx);cases(show u=AC p' from ry);obtain⟨Bk,r1,t1,_⟩:=I.list hs;obtain⟨its2,r2,t2,_⟩:=I.list hs';obtain⟨e,he,hb⟩:=Th hc;have l1:=a1.length;have l2:=a2.length;have m1:=r1.length;have m2:=r2.length;have s1:Bk.toArray.size=xs.length:=by simp;ext
  have s2:its2.toArray.size=ys.length:=by simp;ext
  by_cases hl:xs.length=ys.length
  .refine SeqAt.eq_listAt t1.isList t2.isList (by ext) (by ext) (aV I hr hu r1 r2 a1 a2 he) ⟨.bl b,H,I,?_,k.b hr q⟩;rw[s1,<- hb,hl,KS];simp[L2.RelV]
  .refine SeqAt.eq_list_lengthsAt t1.isList t2.isList (by rw[s1,s2];simpa using hl) (by ext) ⟨.bl b,H,I,?_,k.b hr q⟩;rw[<- hb,show(xs.length == ys.length)=false by simpa using hl,DJ];rfl
theorem VC (hu:X.A.units+41<C9):Cb X (A7 .NotEq) (NO true):=by
 intro Ae s U H x y v u Q I rx ry;ext1⟨Z,dx,dy,M,Q2,hr,ax,ay,h,k⟩;obtain⟨xs,ys,b,hc,q,h|h⟩:=tS h
 .obtain⟨rfl,rfl⟩:=h;obtain⟨p,vs,rfl,hs,a1⟩:=hr.rdT ax;obtain⟨p',ws,rfl,hs',a2⟩:=hr.rdT ay;cases(show v=AC p from rx);cases(show u=AC p' from ry);obtain⟨Bk,r1,t1,_⟩:=I.tuple hs;obtain⟨its2,r2,t2,_⟩:=I.tuple hs';obtain⟨e,he,hb⟩:=Th hc;have l1:=a1.length;have l2:=a2.length;have m1:=r1.length;have m2:=r2.length;refine YV t1 t2 (by ext) (aV I hr hu r1 r2 a1 a2 he) _ _ _ _ ⟨.bl (!b),H,I,?_,k.b hr q⟩;rw[show Bk.toArray.size=xs.length by simp;ext,show its2.toArray.size=ys.length by simp;ext,hb];rfl
 .obtain⟨e1,e2⟩:=h;obtain⟨p,vs,rfl,hs,a1⟩:=hr.rdL e1 ax;obtain⟨p',ws,rfl,hs',a2⟩:=hr.rdL e2 ay;cases(show v=AC p from rx);cases(show u=AC p' from ry);obtain⟨Bk,r1,t1,_⟩:=I.list hs;obtain⟨its2,r2,t2,_⟩:=I.list hs';obtain⟨e,he,hb⟩:=Th hc;have l1:=a1.length;have l2:=a2.length;have m1:=r1.length;have m2:=r2.length;have s1:Bk.toArray.size=xs.length:=by simp;ext
  have s2:its2.toArray.size=ys.length:=by simp;ext
  by_cases hl:xs.length=ys.length
  .refine YX t1.isList t2.isList (by ext) (by ext) (aV I hr hu r1 r2 a1 a2 he) _ _ _ _ ⟨.bl (!b),H,I,?_,k.b hr q⟩;rw[s1,<- hb,hl,KS];simp[L2.RelV]
  .refine YW t1.isList t2.isList (by rw[s1,s2];simpa using hl) (by ext) _ _ _ _ ⟨.bl (!b),H,I,?_,k.b hr q⟩;rw[<- hb,show(xs.length == ys.length)=false by simpa using hl,DJ];rfl
def mK (neg:Bool):KJ:=λx y M Q=>Ck (Hz M y) λys=>ys.all Ea=true/\Ea x=true/\Q (.bl (if neg then !(ys.any λz=>Ku z x)else ys.any λz=>Ku z x)) M
theorem j3 (a:At Z v d)(f:Ea d=true):Ha v=true:=by
 cases d<;>first
  |exact absurd f Al
  |(subst a;rfl)
theorem sB (ax:At Z x dx)(fx:Ea dx=true):∀{vs:List V}{ds:List D},Dq Z vs ds->ds.all Ea=true->vs.all Ha=true/\ZC x vs=ds.any λz=>Ku z dx
 |_,_,.nil,_=>⟨rfl,rfl⟩
 |v::vs,d::ds,.cons a t,f=>by
  rw[FZ,BI]at f;obtain⟨h1,h2⟩:=sB ax fx t f.2;obtain⟨k1,k2,k3⟩:=nO a ax f.1 fx;refine⟨by rw[FZ,k1,h1];rfl,?_⟩;show(Qu v x || ZC x vs)=(Ku d dx || _);rw[k3,h2]
theorem OX:Cb X (A7 .In) (mK false):=F6.mono wz (by
 intro x y H Q;ext1⟨Z,dx,dy,M,Q2,hr,ax,ay,h,k⟩;obtain ⟨ys,e,f,fx,q⟩:=Ci h;obtain ⟨p,vs,rfl,hs,a⟩:=hr.rdS e ay;obtain ⟨h1,h2⟩:=sB ax fx a f;exact ⟨p,vs,rfl,hs,j3 ax fx,h1,by rw [h2];exact k.b hr q⟩)
end
def Q8 (x:D)(k:B4->Prop):Prop:=match x with
 |.int i=>k (.inl i)
 |.str z=>k (.inr z)
 |_=>False
noncomputable def kD:B4->D
 |.inl i=>.int i
 |.inr z=>.str z
theorem Qo (h:Q8 x k):∃i,x=kD i/\k i:=by
 cases x with
 |int i=>exact⟨.inl i,rfl,h⟩
 |str i=>exact⟨.inr i,rfl,h⟩
 |_=>exact h.elim
theorem VB (a:At Z v (kD k)):v=kV k:=by cases k<;>exact a
noncomputable def D5 (M:Mp):D->Option (List (B4×D))
 |.dic AQ=>some AQ
 |.ref p=>match M p with
  |some (.dic AQ)=>some AQ
  |_=>none
 |_=>none
noncomputable def Do (AQ:List (B4×D))(k:B4):Option D:=(AQ.find? λkv=>decide (kv.1=k)).map (·.2)
noncomputable def Hj (AQ:List (B4×D))(k:B4)(v:D):List (B4×D):=if AQ.any (λkv=>decide (kv.1=k))then AQ.map λkv=>if kv.1=k then(kv.1,v)else kv else AQ++[(k,v)]
section
variable {K:Ac}
theorem HR.rdD (h:HR K H M Z)(e:D5 M d=some ds)(a:At Z v d):∃p vs,v=.ref p/\Rd H p (.dK vs)/\Cq Z vs ds:=by
 cases d with
 |dic xs=>
  cases e;obtain⟨p,rfl,z⟩:=a;rcases h.z p _ z with⟨vs,r,a⟩|k
  .exact⟨p,vs,rfl,r,a⟩
  .exact k.elim
 |ref p=>
  cases(show v=.ref p from a);unfold D5 at e;simp only at e;split at e
  .next q=>
   cases e;obtain⟨vs,r,a⟩:=h.rdMD q;exact⟨p,vs,rfl,.inl r,a⟩
  .cases e
 |_=>cases e
theorem Cq.length (h:Cq Z vs ds):vs.length=ds.length:=DZ h
theorem Cq.val :∀{vs:List (B4×V)}{ds:List (B4×D)},Cq Z vs ds->(Do ds k=none/\FN vs k=none)\/∃d v,Do ds k=some d/\FN vs k=some v/\At Z v d
 |_,_,.nil=>.inl ⟨rfl,rfl⟩
 |(k1,v)::vs,(k2,d)::ds,.cons r t=>by
  obtain⟨e,a⟩:=r;have e':=e;subst e';by_cases hk:k1=k
  .exact .inr ⟨d,v,by simp[Do,Cn,hk],by simp[FN,Cn,hk],a⟩
  .have h1:Do ((k1,d)::ds) k=Do ds k:=by simp[Do,Cn,hk]
   have h2:FN ((k1,v)::vs) k=FN vs k:=by simp[FN,Cn,hk]
   rw[h1,h2];exact Cq.val t
theorem Cq.isSome (h:Cq Z vs ds):(FN vs k).isSome=(Do ds k).isSome:=by
 rcases h.val with⟨e1,e2⟩|⟨d,v,e1,e2,_⟩<;>rw[e1,e2]<;>rfl
theorem Cq.any :∀{vs:List (B4×V)}{ds:List (B4×D)},Cq Z vs ds->(vs.any λkv=>decide (kv.1=k))=ds.any λkv=>decide (kv.1=k)
 |_,_,.nil=>rfl
 |(k1,v)::vs,(k2,d)::ds,.cons r t=>by
  have e':=r.1;rw[Fs,Fs,Cq.any t,e']
theorem Cq.append:∀{xs ys:List (B4×V)}{us ws:List (B4×D)},Cq Z xs us->Cq Z ys ws->Cq Z (xs++ys) (us++ws)
 |_,_,_,_,.nil,s=>s
 |_,_,_,_,.cons r t,s=>.cons r (Cq.append t s)
theorem Cq.repl (a:At Z v d):∀{vs:List (B4×V)}{ds:List (B4×D)},Cq Z vs ds->Cq Z (vs.map λkv=>if kv.1=k then(kv.1,v)else kv) (ds.map λkv=>if kv.1=k then(kv.1,d)else kv)
 |_,_,.nil=>.nil
 |(k1,v1)::vs,(k2,d1)::ds,.cons r t=>by
  have e':=r.1;subst e';rw[AR,AR];refine .cons ?_ (Cq.repl a t);by_cases h:k1=k
  .rw[if_pos h,if_pos h];exact⟨rfl,a⟩
  .rw[if_neg h,if_neg h];exact r
theorem Cq.put (a:At Z v d)(h:Cq Z vs ds):Cq Z (putK vs k v) (Hj ds k d):=by
 unfold putK Hj;rw[h.any];split
 .exact h.repl a
 .exact h.append (.cons ⟨rfl,a⟩ .nil)
end
section
def SK:DV:=λ_ M Q=>∀p,M p=none->Q (.ref p) (put M p (.dic []))
theorem Jb:BY X (.Dict [] [] pos) SK:=PE.mono rj λU H Q ⟨Z,τ,M,Q2,st,hr,h,k⟩ p hp=>k.d hr hp .nil h
def Ko (o:Option MO)(k:List (B4×D)->Prop):Prop:=match o with
 |some (.dic AQ)=>k AQ
 |_=>False
theorem hX (h:Ko o k):∃AQ,o=some (.dic AQ)/\k AQ:=by
 unfold Ko at h;split at h
 .exact⟨_,rfl,h⟩
 .exact h.elim
def SJ (td ty tv:DV):Ht:=λE τ M=>tv τ M λv M1=>td τ M1 λx M2=>ty τ M2 λy M3=>JO x λp=>Q8 y λk=>Ko (M3 p) λAQ=>AQ.length<Am/\E.nx τ (put M3 p (.dic (Hj AQ k v)))
theorem VQ (hu:X.A.units+1<C9)(ho:BY X o td)(hi:BY X i ty)(hv:BY X value tv)(hs:DW value (some (.Subscript o i pos')) pos.line X.env=pure false) :
  GN X (.Assign [.Subscript o i pos'] value pos) (SJ td ty tv):=PS.mono (m9 hu ho hi hv hs) (by
 intro D U H;ext1⟨Z,τ,M,D2,st,hr,h,er⟩;refine lE.bind st hr h λZ1 v dv H1 M1 l1 h1 a1 q1=>lE.bind (st.mono l1) h1 q1 λZ2 x dx H2 M2 l2 h2 a2 q2=>lE.bind (st.mono (l1.trans l2)) h2 q2 λZ3 y dy H3 M3 l3 h3 a3 q3=>?_;obtain ⟨p,rfl,q4⟩:=Ib q3;obtain ⟨k,rfl,q5⟩:=Qo q4;cases (show x=V.ref p from a2);cases VB a3;obtain ⟨AQ,e,hl,q⟩:=hX q5;obtain ⟨ks,r,a4⟩:=h3.rdMD e;refine ⟨p,_,rfl,QP.k r (by rw [a4.length];exact hl),?_⟩;exact lS.nx (er.le (l1.trans (l2.trans l3))) (st.mono (l1.trans (l2.trans l3))) (h3.chgD e (a4.put (a1.mono (l2.trans l3)))) q)
def SM (td ty:DV):DV:=λτ M Q=>td τ M λx M1=>ty τ M1 λy M2=>Ck (D5 M2 x) λAQ=>Q8 y λk=>Ck (Do AQ k) λv=>Q v M2
theorem Fg (hu:X.A.units+1<C9)(ho:BY X o td)(hi:BY X i ty)(hs:UP i):BY X (.Subscript o i pos) (SM td ty):=PE.mono (pk hu ho hi hs) (by
 intro U H Q;ext1⟨Z,τ,M,Q2,st,hr,h,k⟩;refine lE.bind st hr h λZ1 x dx H1 M1 l1 h1 a1 q1=>lE.bind (st.mono l1) h1 q1 λZ2 y dy H2 M2 l2 h2 a2 q2=>?_;obtain⟨AQ,e,q3⟩:=Ci q2;obtain⟨k',rfl,q4⟩:=Qo q3;obtain⟨d,e2,q⟩:=Ci q4;obtain⟨p,ks,rfl,r,a3⟩:=h2.rdD e (a1.mono l2);cases VB a2;rcases a3.val with⟨z,_⟩|⟨d',v,z,zv,av⟩
 .rw[e2]at z;cases z
 .rw [e2] at z;cases z;exact ⟨p,v,rfl,.inl ⟨ks,k',r,rfl,zv.symm⟩,(k.le (l1.trans l2)).v h2 av q⟩)
def TY (neg:Bool):KJ:=λx y M Q=>Ck (D5 M y) λAQ=>Q8 x λk=>Q (.bl (if neg then !(Do AQ k).isSome else(Do AQ k).isSome)) M
theorem zQ (hu:X.A.units+1<C9):Cb X (A7 .In) (TY false):=by
 intro Ae s U H x y v u Q I rx ry;ext1⟨Z,dx,dy,M,Q2,hr,ax,ay,h,k⟩;obtain⟨AQ,e,h1⟩:=Ci h;obtain⟨k',rfl,q⟩:=Qo h1;obtain⟨p,ks,rfl,r,a3⟩:=hr.rdD e ay;cases VB ax;cases(show u=AC p from ry);refine gN hu I (.inl ⟨ks,k',r,rfl,rfl⟩) rx λs' I'=>⟨.bl _,H,I',rfl,?_⟩;rw[a3.isSome];exact k.b hr q
theorem ue (hu:X.A.units+1<C9):Cb X (A7 .NotIn) (TY true):=by
 intro Ae s U H x y v u Q I rx ry;ext1⟨Z,dx,dy,M,Q2,hr,ax,ay,h,k⟩;obtain⟨AQ,e,h1⟩:=Ci h;obtain⟨k',rfl,q⟩:=Qo h1;obtain⟨p,ks,rfl,r,a3⟩:=hr.rdD e ay;cases VB ax;cases(show u=AC p from ry);refine jz hu I (.inl ⟨ks,k',r,rfl,rfl⟩) rx λs' I'=>⟨.bl _,H,I',rfl,?_⟩;rw[a3.isSome];exact k.b hr q
theorem bw (h:(BP P w).is k v=true):L2.RelV (kV k) v:=by
 rw[yu]at h;rcases Ri h with⟨i,t,rfl,rfl⟩|⟨x,t,rfl,rfl⟩
 .exact⟨t,rfl⟩
 .exact⟨t,rfl⟩
theorem uK:Cb X (Bt .Add) (λx y M Q=>Gb x λi=>Gb y λj=>i.length+j.length<=Am/\Q (.str (i++j)) M):=F6.mono y0 (by
 intro x y H Q;ext1⟨Z,dx,dy,M,Q2,hr,ax,ay,h,k⟩;obtain ⟨i,rfl,h1⟩:=D4 h;obtain ⟨j,rfl,hz,q⟩:=D4 h1;exact ⟨i,j,ax,ay,hz,k.s hr q⟩)
theorem gR (a:Dq Z vs [d,e,f]):∃v w u,vs=[v,w,u]/\At Z v d/\At Z w e/\At Z u f:=by
 cases a with
 |cons a1 a2=>obtain⟨w,u,rfl,a3,a4⟩:=O3 a2;exact⟨_,w,u,rfl,a1,a3,a4⟩
end
section
variable (P:Bq)(w:BM)
end
section
open MeetsSeq MeetsSeq2 MeetsSeq3 SeqRoads2
end
theorem V6 :∀{AQ:List (B4×D)},(AQ.map (·.1)).Nodup->(k,d)∈AQ->Do AQ k=some d
 |(k1,d1)::r,hn,hm=>by
  obtain⟨n1,n2⟩:=FE.mp hn;rcases A3.mp hm with h|h
  .cases h;simp[Do,Cn]
  .have ne:¬k1=k:=λe=>n1 (by rw[e];exact An.mpr ⟨(k,d),h,rfl⟩);have h3:Do ((k1,d1)::r) k=Do r k:=by simp[Do,Cn,ne]
   rw[h3];exact V6 n2 h
theorem Cq.keysEq :∀{vs:List (B4×V)}{ds:List (B4×D)},Cq Z vs ds->vs.map (·.1)=ds.map (·.1)
 |_,_,.nil=>rfl
 |(k1,v1)::vs,(k2,d1)::ds,.cons r t=>by
  have e':=r.1;rw[AR,AR,Cq.keysEq t,e']
section
end
section
variable {X:Cx}
end
end L3
namespace L2
open PySem PySem.Spec PyProof.Rows L3
theorem vT {Q:St->Hp->Prop}{H:Hp}{C6:St}:∀us (done:List (Option V)) (vs:List (Option V)),vs.length=us.length->Q (done++us.map some++C6) H->Go (Ol done.length us.length) us (done++vs++C6) H Q
 |[],done,vs,hl,q=>by
  have e:=AG hl;subst e;exact⟨rfl,q⟩
 |u::us,done,[],hl,q=>by cases hl
 |u::us,done,v::vs,hl,q=>by
  rw[AO,List.range'_succ];refine⟨u,us,rfl,?_⟩
  have e1:(done++v::vs++C6).set done.length (some u)=(done++[some u])++vs++C6:=by
   rw[Bo,List.set_append_right _ _ (AJ _),Jm];simp
  show Go (Ol (done.length+1) us.length) us ((done++v::vs++C6).set done.length (some u)) H Q;rw[e1];have z:=vT us (done++[some u]) vs (GJ hl) (by simpa using q);rw[Aq,ES]at z;exact z
theorem zb {n:Nat}{Q:St->Hp->Prop}(hv:vs.length=n)(hu:us.length=n)(q:Q (Fi U caps (us.map some)) H) :
  Go (Bp n) us (Fi U caps vs) H Q:=by
 have z:=vT us [] vs (hv.trans hu.symm) (by simpa[Fi]using q);rw[List.range_eq_range',<- hu];exact z
def NN (wi:TI)(k:Nat)(caps:List (Str×Nat))(tt:TT)(te:TE)(K:Ac):TE:=λU H Q=>wi U H λJ H1=>∃(n:Nat) (W:Nat->List V->Hp->Prop),W 0 [] H1/\∀i ys H,W i ys H ->
 (J.stop i H/\ys.length<=Am/\∀p,H p=none->Q (.ref p) (CA H p (.lst ys))) \/
 (J.go i H/\i<n/\ys.length<Am/\∀v H',J.yld i H v H'->∃a us,v=.ref a/\Lo K H' a us/\us.length=k/\tt (Fi U caps (us.map some)) H' λb H2=>if b=true then te (Fi U caps (us.map some)) H2 λy H3=>W (i+1) (ys++[y]) H3 else W (i+1) ys H2)
section
theorem xo {Q:VK}{RR:Ai->Av->TB->Ar->Prop}(B:Kw X scope x ns caps)(hc:X.calm=true)
  (he:∀cl C fp pn s H,PE (GL X scope cl C (x::(ns++caps.map (·.1))) fp pn s H) elt te) (hif:∀cl C fp pn s H,HE (GL X scope cl C (x::(ns++caps.map (·.1))) fp pn s H) ifs tt)
  (hg:∀cl C fp pn s H,Tk (GL X scope cl C (x::(ns++caps.map (·.1))) fp pn s H) tes (Go (Bp (ns.length+1)))) (hgn:∀cl C fp pn s H,(CT tes (GL X scope cl C (x::(ns++caps.map (·.1))) fp pn s H).env).length=ns.length+1) (hgf:∀cl C fp pn s H,Me (λy=>y.1) (CT tes (GL X scope cl C (x::(ns++caps.map (·.1))) fp pn s H).env)=none)
  (hRR:∀D C s' H' ys m,A4 X Ae U (CA H' D (.lst ys)) s'->Ji X Ae (CA H' D (.lst ys)) C->s'.heap.Ns C m->Q (.ref D) (CA H' D (.lst ys))->RR (.ref D) C (.ok .next) s')
  (h:YI X Ae U (.Tuple tes tk px) (λJ H1=>∃ (n:Nat) (W:Nat->List V->Hp->Prop),W 0 [] H1/\∀ i ys H,W i ys H ->
   (J.stop i H/\ys.length<=Am/\∀p,H p=none->Q (.ref p) (CA H p (.lst ys))) \/
   (J.go i H/\i<n/\ys.length<Am/\∀ v H',J.yld i H v H'->∃ a us,v=.ref a/\Lo X.K H' a us/\us.length=ns.length+1/\tt (Fi U caps (us.map some)) H' λb H2=>if b=true then te (Fi U caps (us.map some)) H2 λy H3=>W (i+1) (ys++[y]) H3 else W (i+1) ys H2)) it s₂) :
  Au (AA X.prog X.w) X.A (PX []) (λacc s₃=>Au (AA X.prog X.w) X.A (No scope X.env.globals (Ey X.env scope.names []) [] X.env.qual none .none (some X.env)) (λcenv s₄ =>
   DU (AA X.prog X.w) X.A (.compStart (.ListComp elt [⟨.Tuple tes tk px,iter,ifs,0⟩] scope pos) 0 it acc { cenv with scope:=relabel scope X.env }) (RR acc cenv.locals) s₄) E s₃) E s₂:=by
 refine uS (g:=Qt X.K (ns.length+1) (Go (Bp (ns.length+1)))) B hc he hif (λcl C fp pn s H=>oW (show(GL X scope cl C (x::(ns++caps.map (·.1))) fp pn s H).calm=true from hc) (hg cl C fp pn s H) (hgn cl C fp pn s H) (hgf cl C fp pn s H)) hRR ?_;obtain⟨itA,fp,tn,J,H2,e,I2,T,st2,f2,n,W,w0,turn⟩:_:=h;refine⟨itA,fp,tn,J,H2,e,I2,T,st2,f2,n,W,w0,λi ys H w=>(turn i ys H w).imp id λ⟨z1,z2,z3,st⟩=>⟨z1,z2,z3,λv H' y=>?_⟩⟩;obtain⟨a,us,ev,hs,hus,q⟩:=st v H' y;exact⟨us,hus,λo R ho r=>⟨a,us,ev,hs,hus,zb ho hus r⟩,q⟩
theorem ri (B:Kw X scope x ns caps)(hc:X.calm=true)(hi:PI X (.Tuple tes tk px) iter wi)
  (he:∀cl C fp pn s H,PE (GL X scope cl C (x::(ns++caps.map (·.1))) fp pn s H) elt te) (hif:∀cl C fp pn s H,HE (GL X scope cl C (x::(ns++caps.map (·.1))) fp pn s H) ifs tt)
  (hg:∀cl C fp pn s H,Tk (GL X scope cl C (x::(ns++caps.map (·.1))) fp pn s H) tes (Go (Bp (ns.length+1)))) (hgn:∀cl C fp pn s H,(CT tes (GL X scope cl C (x::(ns++caps.map (·.1))) fp pn s H).env).length=ns.length+1) (hgf:∀cl C fp pn s H,Me (λy=>y.1) (CT tes (GL X scope cl C (x::(ns++caps.map (·.1))) fp pn s H).env)=none)
  (hs:∀x,Bw iter X.env x=pure x:=by intro _;rfl):PE X (.ListComp elt [⟨.Tuple tes tk px,iter,ifs,0⟩] scope pos) (NN wi (ns.length+1) caps tt te X.K):=by
 intro Ae s U H Q I h;rw[eval_ListComp];have hcl:∀y∈scope.names,y.2=.free->∃c,X.env.cells.lookup y.1=some c:=λy hy hf=>I.ok.has y.1 (B.b.hfree y hy hf);refine Hu rfl hs (kW hcl) B.b.kind B.b.hloc (Dp (hi Ae s U H _ I h) λv s1 h1=>Dp h1 λitv s2 h2=>?_);refine xo B hc he hif hg hgn hgf (λD C s' H' ys m I' f' hn q=>?_) h2;refine⟨m,hn,λh' sb=>⟨.ref D,CA H' D (.lst ys),?_,rfl,q⟩⟩;obtain⟨g0,g1,g2,g3,g4,g5⟩:=f';exact I'.turned (λb o hb e=>(sb.2 b hb).trans e) g0 g1 g3 g4 g5
end
theorem A4.turnedN {X:Cx}{Ae:List (Av×Obj)}{U:St}{H:Hp}{s:Ar}{h':CV}{t':Nat}{fp:List Av}(I:A4 X Ae U H s)(hf:∀b∈fp,Ji X Ae H b)(k:∀b o,b∉fp->s.heap.get? b=some o->h'.get? b=some o):A4 X Ae U H {s with heap:=h',toks:=t' }:=by
 have nit:∀b u,H b=some u->b∉fp:=λb u e z=>by rw[(hf b z).1]at e;cases e
 refine I.step (λb hb=>?_) (λb o _ _ hc e _=>k b o hc e) (λb o _ _ hc e _=>⟨o.slots,k b o hc e⟩) (λ_ _ _ _ n=>n)
  (λb o hc e=>⟨o,k b o hc e⟩) (λ_ _ e=>e) (λ_ _ _ e=>e) (λb ps e=>⟨#[],by rw[e];simp⟩) (λm hm=>?_) (λb u e=>?_) I.bare
 .obtain⟨f0,f1,f2,f3,f4,f5⟩:=hf b hb;exact⟨f3,f1,f4,f5⟩
 .obtain⟨o,es,ep,ho,r⟩:=hm;exact⟨o,es,ep,k _ o (λz=>(hf _ z).2.1 rfl) ho,r⟩
 .refine(I.hok b u e).stay (λc v hc q=>k c v ?_ q) (λ_ q=>q) λ_ _ q=>q;rcases hc with z|z
  .rw[z];exact nit b u e
  .exact nit c _ z
noncomputable def xG (K:Ac)(a b:Av):It:=
  ⟨λi H=>∃ xs ys x y,FH K H a xs/\FH K H b ys/\xs[i]? = some x/\ys[i]? = some y,
   λi H v H'=>∃p x y,v=.ref p/\H p=none/\H'=CA H p (.tup [x,y])/\(∀xs,FH K H a xs->xs[i]? = some x)/\∀ys,FH K H b ys->ys[i]? = some y,
   λi H=>∃ xs ys,FH K H a xs/\FH K H b ys/\(xs.length<=i\/ys.length<=i)⟩
structure Qz (z TI TO i1 i2 a b:Av)(i:Nat)(h:CV):Prop where
 n1:TI≠z
 n2:TO≠z
 n3:i1≠z
 n4:i2≠z
 n5:TI≠TO
 n6:TI≠i1
 n7:TI≠i2
 n8:TO≠i1
 n9:TO≠i2
 n10:i1≠i2
 hz:IsZip h z TI TO .none
 ht:IsPair h TI (.ref i1) (.ref i2)
 ho:∃u v,IsPair h TO u v
 h1:h.IsListIter i1 a i
 h2:h.IsListIter i2 b i
theorem Qz.apart {z TI TO i1 i2 a b:Av}(t:Qz z TI TO i1 i2 a b i h)(ha:h.IsList a us)(hb:h.IsList b vs):ZipApart z TI TO i1 i2 a b:=by
 obtain⟨u,v,ho⟩:=t.ho;obtain⟨o1,e1,c1,_⟩:=t.h1;obtain⟨o2,e2,c2,_⟩:=t.h2
 have key:∀{l:Av} {ws:Array Ai},h.IsList l ws->l≠z/\l≠TO/\l≠i1/\l≠i2:=λ{l ws} ⟨o,e,c,_⟩=>by
  refine⟨λq=>?_,λq=>?_,λq=>?_,λq=>?_⟩
  .rw[q,t.hz]at e;cases e;exact absurd c (by simp)
  .rw[q,ho]at e;cases e;exact absurd c (by simp)
  .rw[q,e1]at e;cases e;rw[c1]at c;exact absurd c (by simp)
  .rw[q,e2]at e;cases e;rw[c2]at c;exact absurd c (by simp)
 obtain⟨a1,a2,a3,a4⟩:=key ha;obtain⟨b1,b2,b3,b4⟩:=key hb;exact⟨t.n1,t.n2,t.n3,t.n4,t.n5,t.n6,t.n7,t.n8,t.n9,t.n10,a1,a2,a3,a4,b1,b2,b3,b4⟩
theorem uq {K:Ac}(z TI TO i1 i2 a b:Av):LY P w K F (.Tuple es k pos) (xG K a b) [z,TI,TO,i1,i2] z (Qz z TI TO i1 i2 a b) where
 mem:=by simp
 obj:=λi h st c hc=>by
  obtain⟨u,v,ho⟩:=st.ho;obtain⟨o1,e1,_,d1⟩:=st.h1;obtain⟨o2,e2,_,d2⟩:=st.h2;simp only[By,AS,or_false]at hc;rcases hc with rfl|rfl|rfl|rfl|rfl
  .exact⟨_,st.hz,λv q=>by cases q⟩
  .exact⟨_,st.ht,λv q=>by cases q⟩
  .exact⟨_,ho,λv q=>by cases q⟩
  .exact⟨_,e1,λv q=>by rw[d1]at q;cases q⟩
  .exact⟨_,e2,λv q=>by rw[d2]at q;cases q⟩
 keep:=λi h h' st k=>by
  obtain⟨u,v,ho⟩:=st.ho;exact{st with hz:=k z (by simp) _ st.hz,ht:=k TI (by simp) _ st.ht,ho:=⟨u,v,k TO (by simp) _ ho⟩,h1:=st.h1.at λo e=>k i1 (by simp) o e,h2:=st.h2.at λo e=>k i2 (by simp) o e}
 item:=by
  intro X hP hw hK hF hc i Ae s U H E I hf st hg;subst hP hw hK;obtain⟨xs,ys,x,y,hx,hy,ex,ey⟩:_:=hg;obtain⟨Bk,rv,p,hzz⟩:=I.list hx;obtain⟨jts,rw',p',_⟩:=I.list hy;obtain⟨u,hu,ru⟩:=rv.get ex;obtain⟨v,hv,rv'⟩:=rw'.get ey;obtain⟨c,d,ho⟩:=st.ho;have ap:=st.apart p.isList p'.isList;refine wpAny_pyNext_zip_item ap st.hz st.ht ho st.h1 st.h2 p.isList p'.isList (by simpa using hu) (by simpa using hv) λh' z1 t1 l1 l2 tp hs old=>?_;refine⟨_,rfl,wpAny_letOwnedTupleGo_zip z1 λh2 z2 sb=>?_⟩
  have ne:∀q∈[z,TI,TO,i1,i2],q≠s.heap.objs.size:=λq hq e=>by
   have hob:∃o,s.heap.get? q=some o:=by
    obtain⟨o1,e1,_,d1⟩:=st.h1;obtain⟨o2,e2,_,d2⟩:=st.h2;simp only[By,AS,or_false]at hq;rcases hq with rfl|rfl|rfl|rfl|rfl
    .exact⟨_,st.hz⟩
    .exact⟨_,st.ht⟩
    .exact⟨_,ho⟩
    .exact⟨_,e1⟩
    .exact⟨_,e2⟩
   obtain⟨o,e'⟩:=hob;rw[e]at e';exact absurd (Ap e') (EQ _)
  have I1:A4 X Ae U H {s with heap:=h2}:=I.turnedN hf λq o hq e=>by
   simp only[By,AS,or_false,not_or]at hq;exact(sb.2 q hq.1).trans (old q o hq.1 hq.2.2.1 hq.2.2.2.1 hq.2.2.2.2 e)
  have freshT:=I.fresh;have tp2:=(sb.2 _ (λe=>ne z (by simp) e.symm)).trans tp;have I2:A4 X Ae U (CA H s.heap.objs.size (.tup [x,y])) {s with heap:=h2}:=I1.track (I.fpOk (AJ _) freshT) ⟨Fn (BU (by simp)),[u,v],.cons ru (.cons rv' .nil),_,tp2,rfl,_,rfl,rfl⟩;have kp:∀q o,q≠z->h'.get? q=some o->h2.get? q=some o:=λq o hq e=>(sb.2 q hq).trans e;refine⟨.ref s.heap.objs.size,_,I2,rfl,⟨_,x,y,rfl,freshT,rfl,λzs hz=>by rw[I.list_inj hz hx];exact ex,λzs hz=>by rw[I.list_inj hz hy];exact ey⟩,?_,λq hq=>?_⟩
  .have hTI:=old TI _ st.n1 st.n5 st.n6 st.n7 st.ht;exact{st with hz:=z2,ht:=kp TI _ st.n1 hTI,ho:=⟨u,v,kp TO _ st.n2 t1⟩,h1:=l1.at λo e=>kp i1 o st.n3 e,h2:=l2.at λo e=>kp i2 o st.n4 e}
  .rw[HL (ne q hq)];exact(hf q hq).1
 done:=by
  intro X hP hw hK hF hc i Ae s U H E I hf st hg;subst hP hw hK;obtain⟨xs,ys,hx,hy,hl⟩:=hg;obtain⟨Bk,rv,p,_⟩:=I.list hx;obtain⟨jts,rw',p',_⟩:=I.list hy;obtain⟨c,d,ho⟩:=st.ho;have e1:=rv.length;have e2:=rw'.length;refine wpAny_pyNext_zip_end (I.ok.hd hc) (st.apart p.isList p'.isList) st.hz st.ht ho st.h1 st.h2 p.isList p'.isList ?_ λh' old=>⟨rfl,I.turnedN hf λq o hq e=>?_⟩
  .rcases hl with hl|hl
   .exact .inl (by simp;ext)
   .exact .inr (by simp;ext)
  .simp only[By,AS,or_false,not_or]at hq;exact old q o hq.1 hq.2.2.1 hq.2.2.2.1 hq.2.2.2.2 e
 self:=λ_ _ _ _ _ st h=>Wb st.hz h
def gK (K:Ac)(ta:TA):TI:=λU H R=>ta U H λvs H1=>∃a b xs ys,vs=[.ref a,.ref b]/\FH K H1 a xs/\FH K H1 b ys/\R (xG K a b) H1
theorem fh {X:Cx}{es:List Ca}{k:Nat}{tp:Pos}{a b:Ca}{ta:TA}{p pos:Pos}(hg:Gl X "zip")(hm:X.mg "zip" = none)(ha:PA X [a,b] ta)(hs:As [a,b] X.env=[(false,eval a X.env),(false,eval b X.env)]:=by rfl)(hs2:As [b] X.env=[(false,eval b X.env)]:=by rfl) :
  PI X (.Tuple es k tp) (.Call (.Name "zip" p) [a,b] [] pos) (gK X.K ta):=by
 intro Ae s U H R I h;refine Call_ (PK I hg hm boot_zip (BB (Dp (ha pos Ae s U H _ I h) λus s1 e=>e.el λvs H1 I1 r1 q1=>?_) (by rw[hs,hs2]) (by rw[hs2];rfl)));refine Ao λG' kk'=>?_;obtain⟨a,b,xs,ys,e,hx,hy,q⟩:=q1;refine kk' ?_;clear kk';subst e;cases r1 with
 |cons r rr=>
  cases rr with
  |cons r' rr=>
   cases rr;cases(show _=AC a from r);cases(show _=AC b from r');obtain⟨Bk,rv,pl,_⟩:=I1.list hx;obtain⟨jts,rv',pl',_⟩:=I1.list hy;refine call_zip_2 pl.isList pl'.isList λh' z t o l1 l2 hz old=>?_;have I2:A4 X Ae U H1 {s1 with heap:=h' }:=I1.kept λb o e=>old b o e;have hN:∀i j,i≠j->(s1.heap.objs.size+i:Nat)≠s1.heap.objs.size+j:=λi j h=>by ext
   refine Wb z ?_;refine⟨_,[s1.heap.objs.size+4,s1.heap.objs.size+2,s1.heap.objs.size+3,s1.heap.objs.size,s1.heap.objs.size+1],_,_,H1,rfl,I2,uq _ _ _ _ _ a b,⟨hN 2 4 (by decide),hN 3 4 (by decide),hN 0 4 (by decide),hN 1 4 (by decide),hN 2 3 (by decide),hN 2 0 (by decide),hN 2 1 (by decide),hN 3 0 (by decide),hN 3 1 (by decide),hN 0 1 (by decide),z,t,⟨_,_,o⟩,l1,l2⟩,λc hc=>?_,q⟩
   have hge:s1.heap.objs.size<=c:=by
    simp only[By,AS,or_false]at hc;rcases hc with rfl|rfl|rfl|rfl|rfl
    .exact Gx _ _
    .exact Gx _ _
    .exact Gx _ _
    .exact AJ _
    .exact Gx _ _
   exact I1.fpOk hge (I1.hok.fresh hge)
noncomputable abbrev Cx.fr (X:Cx)(f:Av×Obj×HO):Cx:={X with fz:=f::X.fz}
theorem A4.unfr (I:A4 (X.fr f) Ae U H s):A4 X Ae U H s:=
 ⟨{I.ok with},I.os,I.bare,I.base,I.loc,I.cell,I.free,I.freeC,I.pin,I.hok,I.len,λg hg=>I.fzd g (AE _ hg)⟩
theorem A4.freeze (I:A4 X Ae U H s)(rd:Rd H a (.dK ks)) :
  ∃ob,A4 (X.fr (a,ob,.dK ks)) Ae U (CA H a (.frz ob (.dK ks))) s:=by
 have fin:∀{H':Hp} {ob:Obj},A4 X Ae U H' s->H' a=some (.frz ob (.dK ks))->A4 (X.fr (a,ob,.dK ks)) Ae U H' s:=λ{H' ob} J e=>
  ⟨{ J.ok with },J.os,J.bare,J.base,J.loc,J.cell,J.free,J.freeC,J.pin,J.hok,J.len,λg hg=>by
   rcases A3.mp hg with rfl|hg
   .exact e
   .exact J.fzd g hg⟩
 rcases rd with e|⟨ob,e⟩
 .obtain⟨z,hd,vs,rel,dd⟩:=Rh I.hok (.inl e);obtain⟨ep,ob,es,eo,_⟩:=dd.dictAt;refine⟨ob,fin ?_ Mn⟩;have ne:∀b u,H b=some u->u≠.dK ks->b≠a:=λb u q n z=>by rw[z,e]at q;exact n (A9 q).symm
  have hu:∀b u,H b=some u->u≠.dK ks->CA H a (.frz ob (.dK ks)) b=some u:=λb u q n=>by rw[HL (ne b u q n)];exact q
  refine I.step (ch:=[]) (λ_ z=>nomatch z) (λb o _ _ _ q _=>q) (λb o _ _ _ q _=>⟨o.slots,q⟩)
   (λb o _ q n=>by rw[HL (λz=>by rw[z,e]at n;cases n)];exact n) (λb o _ q=>⟨o,q⟩) (λb xs q=>hu b _ q (by simp)) (λb o u q=>hu b _ q (by simp)) (λb ps q=>⟨#[],by rw[hu b _ q (by simp)];simp⟩) (λm hm=>hm) (λb u q=>?_) I.bare
  by_cases hb:b=a
  .subst hb;rw[Mn]at q;cases q;exact⟨eo,(I.hok b _ e).stay (λ_ _ _ q=>q) (λc q=>hu c _ q (by simp)) λc xs q=>hu c _ q (by simp)⟩
  .rw[HL hb]at q;exact(I.hok b u q).stay (λ_ _ _ q=>q) (λc q=>hu c _ q (by simp)) λc xs q=>hu c _ q (by simp)
 .refine⟨ob,fin ?_ Mn⟩
  have z:CA H a (.frz ob (.dK ks))=H:=funext λb=>by
   by_cases hb:b=a
   .subst hb;rw[Mn,e]
   .rw[HL hb]
  rw[z];exact I
noncomputable def YM (ks:List (B4×V)):It:=⟨λi _=>i<ks.length,λi H x H'=>H'=H/\∃p,ks[i]? = some p/\x=kV p.1,λi _=>ks.length<=i⟩
theorem ck {ks:List (B4×V)}{vs:List (B4×Ai)}(rel:KV ks vs){i:Nat}(h:i<ks.length):∃k v v',ks[i]? = some (k,v)/\vs[i]? = some (k,v'):=by
 have hk:=rel.keys;have hl:=rel.length;have h1:(ks.map (·.1))[i]? = (vs.map (·.1))[i]?:=by rw[hk]
 rw[AH,AH,Af h,Af (by omega:i<vs.length)]at h1;have h2:ks[i].1=vs[i].1:=by simpa using h1
 exact⟨ks[i].1,ks[i].2,vs[i].2,Af h,by rw[h2];exact Af (by ext)⟩
theorem wn {K:Ac}(a it)(hF:(a,ob,HO.dK ks)∈F)(rel:KV ks vs)(da:Heap.DictAt (BP P w) h0 a vs ep)(h0a:h0.get? a=some ob) :
  LY P w K F tg (YM ks) [it] it (λi h=>h.IsKeyIter it a i vs.length ep) where
 mem:=by simp
 obj:=λi h st b hb=>by
  have e:b=it:=by simpa using hb
  subst e;obtain⟨o,e,c,d⟩:=st;exact⟨o,e,λv z=>by rw[d]at z;cases z⟩
 keep:=λi h h' st k=>st.at λo e=>k it (by simp) o e
 item:=by
  intro X hP hw hK hF' hc i Ae s U H E I hf st hg;subst hP hw hK hF';obtain⟨k,v,v',e1,e2⟩:=ck rel (show i<ks.length from hg);have ea:=I.fzd _ hF;have go:=(show CW X.prog X.w H s.heap a (.frz ob (.dK ks))from I.hok a _ ea).1;have da':=da.at' λo e=>by rw[h0a]at e;cases e;exact go
  obtain⟨f0,f1,f2,f3,f4,f5⟩:=hf it (by simp);refine wpAny_pyNext_dict_item st da' e2 λkey h' isk st' sb=>?_;have I1:A4 X Ae U H {s with heap:=h' }:=I.turned (λb o hb e=>(sb.2 b hb).trans e) f0 f1 f3 f4 f5;obtain⟨o,e,c,d⟩:=id st';exact⟨key,rfl,VA e c d (by decide) ⟨kV k,H,I1,bw isk,⟨rfl,_,e1,rfl⟩,st',λb hb=>(hf b hb).1⟩⟩
 done:=by
  intro X hP hw hK hF' hc i Ae s U H E I hf st hg;subst hP hw hK hF';have ea:=I.fzd _ hF;have go:=(show CW X.prog X.w H s.heap a (.frz ob (.dK ks))from I.hok a _ ea).1;have da':=da.at' λo e=>by rw[h0a]at e;cases e;exact go
  obtain⟨f0,f1,f2,f3,f4,f5⟩:=hf it (by simp);have hl:=rel.length;have hg':ks.length<=i:=hg;exact wpAny_pyNext_dict_end (I.ok.hd hc) st da' (EF.mpr (by ext)) λh' eb=>⟨rfl,I.turned (λb o hb e=>eb b o hb e) f0 f1 f3 f4 f5⟩
 self:=λ_ _ _ _ _ st h=>wpAny_pyIter_keyiter st h
theorem ja {X:Cx}(hl:PE X l tl)(hF:(a,ob,HO.dK ks)∈X.fz):PI X tg l (λU H R=>tl U H λv H1=>v=.ref a/\R (YM ks) H1):=by
 intro Ae s U H R I h;refine Dp (hl Ae s U H _ I h) λu s1 e=>e.el λv H1 I1 r ⟨e,q⟩=>?_;subst e;cases(show u=AC a from r);have ea:=I1.fzd _ hF;obtain⟨z,hd,vs,rel,dd⟩:=Rh I1.hok (.inr ⟨ob,ea⟩);obtain⟨ep,da⟩:=dd.dictAt;have go:=(show CW X.prog X.w H1 s1.heap a (.frz ob (.dK ks))from I1.hok a _ ea).1;refine wpAny_pyIter_dict hd da ?_;have I2:A4 X Ae U H1 {s1 with heap:=s1.heap.push {cls:=.type "dict_keyiterator",data:=.fields #[.ref a,.int 0 0,.int (vs.length:Int) 0,.int (ep:Int) 0]} }:=I1.kept λb o e=>Ag _ e;refine⟨s1.heap.objs.size,[s1.heap.objs.size],_,_,H1,rfl,I2,wn a _ hF rel da go,⟨_,AB _ rfl,rfl,rfl⟩,λb hb=>?_,q⟩;have e:b=s1.heap.objs.size:=by simpa using hb
 subst e;exact I1.fpOk (AJ _) (I1.hok.fresh (AJ _))
end L2
namespace L3
open PySem PySem.Spec PyProof.Rows L2
unseal BY HM Jl Gc Kd GN Dd Cb FP BS FC F5 KN Ho EK
section
noncomputable def K8 (xs ys:List D):List D:=(xs.zip ys).map λp=>.tup [p.1,p.2]
theorem vf {xs ys:List D}{i:Nat}{d:D}(h:(K8 xs ys)[i]? = some d):∃x y,xs[i]? = some x/\ys[i]? = some y/\d=.tup [x,y]:=by
 unfold K8 at h;rw[AH]at h;cases e:(xs.zip ys)[i]? with
 |none=>rw[e]at h;cases h
 |some p=>rw[e]at h;rw[List.getElem?_zip_eq_some]at e;exact⟨p.1,p.2,e.1,e.2,(A9 h).symm⟩
theorem vg (xs ys:List D):(K8 xs ys).length=min xs.length ys.length:=by unfold K8;rw[Ab,Ry]
def WL (t:Kc):Ng:=λτ M R=>t τ M λds M1=>FF ds λx y=>Ck (Bf M1 x) λxs=>Ck (Bf M1 y) λys=>R (K8 xs ys) (λM=>Bf M x=some xs/\Bf M y=some ys) M1
theorem gh {es:List Ca}{n:Nat}{tp:Pos}{a b:Ca}{ta:Kc}{p pos:Pos}(hm:X.mg "zip" = none)(ha:Gc X [a,b] ta)(hg:Gl X "zip":=by rfl)(hs:As [a,b] X.env=[(false,eval a X.env),(false,eval b X.env)]:=by rfl)(hs2:As [b] X.env=[(false,eval b X.env)]:=by rfl) :
  Ho X (.Tuple es n tp) (.Call (.Name "zip" p) [a,b] [] pos) (WL ta):=PI.mono (fh hg hm ha hs hs2) (by
 intro U H R;ext1⟨Z,τ,M,R2,st,hr,h,k⟩;refine ⟨Z,τ,M,_,st,hr,h,λZ1 vs ds H1 M1 l1 h1 a1 q1=>?_⟩;obtain ⟨x,y,rfl,q0⟩:=MG q1;obtain ⟨xs,e,q0⟩:=Ci q0;obtain ⟨ys,e',q⟩:=Ci q0;obtain ⟨v,w,rfl,a2,a3⟩:=O3 a1;obtain ⟨p,ws,rfl,hs,b2⟩:=h1.rdL e a2;obtain ⟨p',ws',rfl,hs',b3⟩:=h1.rdL e' a3;refine ⟨p,p',ws,ws',rfl,hs,hs',k Z1 _ (K8 xs ys) _ H1 M1 l1 h1 (λi H M Z' l hr s=>?_) q⟩;obtain ⟨q,us,e2,hu,c2⟩:=hr.rdL s.1 (a2.mono l);cases e2;obtain ⟨q',us',e3,hu',c3⟩:=hr.rdL s.2 (a3.mono l);cases e3;have lu:=c2.length;have lu':=c3.length;refine ⟨λd hd=>?_,λhi=>⟨us,us',hu,hu',by rw [vg] at hi;ext⟩⟩;obtain ⟨d1,d2,g1,g2,rfl⟩:=vf hd;obtain ⟨v1,hv1,av1⟩:=c2.get g1;obtain ⟨v2,hv2,av2⟩:=c3.get g2;refine ⟨⟨us,us',v1,v2,hu,hu',hv1,hv2⟩,λz H' yl=>?_⟩;refine Ao λG' kk'=>?_;obtain ⟨r,x',y',e1',hn,e2',f1,f2⟩:=yl;refine kk' ?_;clear kk';subst e1' e2';have z1:=f1 us hu;rw [hv1] at z1;cases z1;have z2:=f2 us' hu';rw [hv2] at z2;cases z2;exact ⟨_,Le.ext,hr.newT hn (.cons av1 (.cons av2 .nil)),⟨r,rfl,.inr ⟨rfl,rfl⟩⟩⟩)
noncomputable def capT (τ:Gu)(caps:List (Str×Nat))(ds:List D):Gu:=ds.map some++caps.map λc=>(τ[c.2]?).join
theorem Gs.capT (h:Gs Z U τ)(caps:List (Str×Nat)):∀{us:List V}{ds:List D},Dq Z us ds->Gs Z (Fi U caps (us.map some)) (capT τ caps ds)
 |[],[],.nil=>by
  unfold Fi L3.capT;rw[Dr,Dr,FI,FI];induction caps with
  |nil=>exact .nil
  |cons c r ih=>exact .cons (h.join c.2) ih
 |_::_,_::_,.cons a r=>.cons a (Gs.capT h caps r)
def Lp (n:Nat)(xs:List D)(S:Mp->Prop)(caps:List (Str×Nat))(tt:KH)(te:DV)(τ:Gu)(M:Mp)(Q:List D->Mp->Prop):Prop:=xs.length<=Am/\∃W:Nat->List D->Mp->Prop,W 0 [] M/\(∀i ys M,W i ys M->S M/\ys.length<=i) /\
 (∀i x ys M,xs[i]? = some x->W i ys M->∃us,x=.tup us/\us.length=n/\tt (capT τ caps us) M λb M2=>if b=true then te (capT τ caps us) M2 λy M3=>W (i+1) (ys++[y]) M3 else W (i+1) ys M2)/\∀ys M,W xs.length ys M->Q ys M
theorem xp {K:Ac}(st:Gs Z U τ)(hr:HR K H M Z)(h:wi τ M λxs S M1=>Lp n xs S caps tt te τ M1 QL)
  (ht:∀U H Q,lT K tt U H Q->tt1 U H Q)
  (k:∀Z1 H1 M1 vs ds,Le Z Z1->HR K H1 M1 Z1->Dq Z1 vs ds->QL ds M1->∀p,H1 p=none->Q (.ref p) (CA H1 p (.lst vs))):NN (lI K wi) n caps tt1 (lE K te) K U H Q:=by
 refine⟨Z,τ,M,_,st,hr,h,λZ1 J xs S H1 M1 l1 h1 jk ⟨hz,W,w0,stay,turn,done⟩=>?_⟩;refine⟨xs.length,λi vs H=>i<=xs.length/\∃Z2 M2 ds,Le Z1 Z2/\HR K H M2 Z2/\Dq Z2 vs ds/\W i ds M2,⟨Ef _,Z1,M1,[],Le.refl _,h1,.nil,w0⟩,?_⟩;intro i vs H2;ext1⟨hi,Z2,M2,ds,l2,h2,a2,w2⟩;obtain⟨s2,hl⟩:=stay i ds M2 w2;obtain⟨go,stop⟩:=jk i H2 M2 Z2 l2 h2 s2;have la:=a2.length;by_cases hlt:i<xs.length
 .obtain⟨g1,g2⟩:=go _ (Af hlt);refine .inr ⟨g1,hlt,by ext,λx H' y=>?_⟩;obtain⟨Z5,l5,h5,a⟩:=g2 x H' y;obtain⟨ds5,ex,hl5,tk⟩:=turn i _ ds M2 (Af hlt) w2;rw[ex]at a;obtain⟨p5,us,rfl,hs5,a5⟩:=h5.rdT a;have l2:=l2.trans l5;have a2:=a2.mono l5;refine⟨p5,us,rfl,hs5,a5.length.trans hl5,?_⟩;refine ht _ _ _ (lT.bind ((st.mono (l1.trans l2)).capT caps a5) h5 tk λZ3 b H3 M3 l3 h3 q3=>?_);cases b with
  |false=>rw[if_neg Al]at q3 ⊢;exact⟨hlt,Z3,M3,ds,l2.trans l3,h3,a2.mono l3,q3⟩
  |true=>rw[if_pos rfl]at q3 ⊢;refine lE.bind (((st.mono (l1.trans l2)).capT caps a5).mono l3) h3 q3 λZ4 z dz H4 M4 l4 h4 a4 q4=>?_;exact⟨hlt,Z4,M4,ds++[dz],l2.trans (l3.trans l4),h4,(a2.mono (l3.trans l4)).append (.cons a4 .nil),q4⟩
 .have e:i=xs.length:=by ext
  subst e;exact .inl ⟨stop (AJ _),by ext,k Z2 H2 M2 vs ds (l1.trans l2) h2 a2 (done ds M2 w2)⟩
noncomputable def X5:D->Option (List (B4×D))
 |.dic AQ=>some AQ
 |_=>none
theorem HR.frzH {K:Ac}(h:HR K H M Z)(z:Z p (.dic AQ))(rd:Rd H p (.dK ks)):HR K (CA H p (.frz ob (.dK ks))) M Z:=by
 have hM:M p=none:=by
  cases e:M p with
  |none=>rfl
  |some o=>exact((h.m p o e).1 _ z).elim
 have key:∀{d:D},HB H Z p d->HB (CA H p (.frz ob (.dK ks))) Z p d:=λ{d} hb=>by
  cases d with
  |dic ds=>
   obtain⟨vs,r,a⟩:=hb
   have e:HO.dK vs=HO.dK ks:=by
    rcases r with r|⟨o,r⟩<;>rcases rd with r' | ⟨o',r'⟩<;>rw[r]at r'<;>cases r'<;>rfl
   cases e;exact⟨_,.inr ⟨ob,Mn⟩,a⟩
  |tup ds=>obtain⟨vs,r,a⟩:=hb;rcases rd with r' | ⟨o',r'⟩<;>rw[r]at r'<;>cases r'
  |dct ds=>obtain⟨vs,r,a⟩:=hb;rcases r with r|⟨o,r⟩<;>rcases rd with r' | ⟨o',r'⟩<;>rw[r]at r'<;>cases r'
  |lst ds=>obtain⟨vs,r,a⟩:=hb;rcases r with r|⟨o,r⟩<;>rcases rd with r' | ⟨o',r'⟩<;>rw[r]at r'<;>cases r'
  |_=>exact hb.elim
 refine⟨λb d q=>?_,λb w q=>?_⟩
 .by_cases hb:b=p
  .subst hb;rcases h.z b d q with k|k
   .exact .inl (key k)
   .exact .inr k
  .rcases h.z b d q with k|k
   .exact .inl (k.at (HL hb))
   .exact .inr k
 .have hb:b≠p:=λe=>by rw[e,hM]at q;cases q
  obtain⟨k1,k2⟩:=h.m b w q;exact⟨k1,k2.at (HL hb)⟩
def TN (t:DV):Ng:=λτ M R=>t τ M λx M1=>Ck (X5 x) λAQ=>R (AQ.map λp=>kD p.1) (λ_=>True) M1
theorem lr {Z:Zt}{ks:List (B4×V)}{AQ:List (B4×D)}(a:Cq Z ks AQ){i:Nat}{p:B4×V}(h:ks[i]? = some p):∃d,AQ[i]? = some (p.1,d):=by
 induction a generalizing i with
 |nil=>simp at h
 | @cons u d _ _ h1 _ ih=>
  cases i with
  |zero=>
   have e:u=p:=by simpa using h
   subst e;obtain⟨e1,_⟩:=h1;exact⟨d.2,by rw[e1];rfl⟩
  |succ i=>exact ih (by simpa using h)
theorem yJ (k):At Z (kV k) (kD k):=by cases k<;>rfl
theorem t8 {K:Ac}{Z:Zt}{ks:List (B4×V)}{AQ:List (B4×D)}(a:Cq Z ks AQ):YL K (YM ks) (AQ.map λp=>kD p.1) (λ_=>True) Z:=λi H M Z' l hr s=>by
 have hl:=a.length;refine⟨λd hd=>?_,λhi=>by rw[Ab]at hi;show ks.length<=i;ext⟩;rw[AH]at hd
 have hi:i<AQ.length:=by
  cases e:AQ[i]? with
  |none=>rw[e]at hd;cases hd
  |some p=>exact(Ah.mp e).1
 refine⟨show i<ks.length by ext,λx H' y=>?_⟩;obtain⟨rfl,p,e1,rfl⟩:=y;obtain⟨d',e2⟩:=lr a e1;rw[e2]at hd;cases hd;exact⟨Z',Le.refl _,hr,yJ _⟩
noncomputable def NY (k:Str):List Str->Option Nat
 |[]=>none
 |a::r=>if a=k then some 0 else(NY k r).map (·+1)
theorem sC :∀{xs:List Str}{j:Nat},NY k xs=some j->xs[j]? = some k/\∀m a,m<j->xs[m]? = some a->a≠k
 |[],j,h=>by cases h
 |a::r,j,h=>by
  unfold NY at h;by_cases e:a=k
  .rw[if_pos e]at h;cases h;exact⟨by rw[e];rfl,λm a hm=>by ext⟩
  .rw[if_neg e]at h;cases q:NY k r with
   |none=>rw[q]at h;cases h
   |some i=>
    rw[q]at h;cases h;obtain⟨h1,h2⟩:=sC q;refine⟨by simpa using h1,λm b hm hb=>?_⟩;cases m with
    |zero=>
     have:a=b:=by simpa using hb
     rw[<- this];exact e
    |succ m=>exact h2 m b (by have hm':m+1<i+1:=hm;ext) (by simpa using hb)
noncomputable def Ev:List D->Option (List Str)
 |[]=>some []
 |.str a::r=>(Ev r).map (a::·)
 |_::_=>none
theorem VX:∀{ds:List D}{ss:List Str},Ev ds=some ss->ds=ss.map D.str
 |[],ss,h=>by cases h;rfl
 |.str a::r,ss,h=>by
  change(Ev r).map (a::·)=_ at h;cases e:Ev r with
  |none=>rw[e]at h;cases h
  |some t=>rw[e]at h;cases h;rw[AR,<- VX e]
 |.non::r,_,h | .int _::r,_,h | .bl _::r,_,h | .tup _::r,_,h | .lst _::r,_,h | .dic _::r,_,h | .dct _::r,_,h | .ref _::r,_,h | .ty _::r,_,h=>by cases h
theorem aJ (hu:X.A.units+45<C9):EK X "list.index" (λx xs M Q=>GG xs λy=>Gb y λk=>Ck (Bf M x) λds=>Ck (Ev ds) λss=>Ck (NY k ss) λi=>Q (.int (i:Int)) M):=by
 intro Ae s U H x xs v us Q I rx r;ext1⟨Z,d,ds,M,Q2,hr,a,as,h,kk⟩;obtain⟨y,rfl,h1⟩:=Hk h;obtain⟨k,rfl,h2⟩:=D4 h1;obtain⟨zs,e,h3⟩:=Ci h2;obtain⟨ss,e2,h4⟩:=Ci h3;obtain⟨i,e3,q⟩:=Ci h4;obtain⟨p,ws,rfl,hs,a2⟩:=hr.rdL e a;cases(show v=AC p from rx);obtain⟨w,rfl,aw⟩:=IF as;cases(show w=V.str k from aw);obtain⟨u,rfl,ru⟩:=G8 r;obtain⟨t,rfl⟩:=ru;obtain⟨Bk,rv,⟨o,n,ho0,hc1,hc2,hc3⟩,hz⟩:=I.list hs
 have ho:s.heap.get? p=some {cls:=.type "list",dict:=o.dict,data:=.seq Bk.toArray n,slots:=o.slots}:=by
  rw[ho0];cases o
  simp_all
 have hzs:=VX e2;obtain⟨g1,g2⟩:=sC e3;have l1:=rv.length;have l2:=a2.length;have hi:=(Ah.mp g1).1;have hzl:zs.length=ss.length:=by rw[hzs,Ab]
 have at_:∀m (hm:m<Bk.toArray.size),∃a t,Bk.toArray[m]=De a t/\ss[m]? = some a:=λm hm=>by
  obtain⟨v',d',_,e1,q1,z1⟩:=Uw rv a2 m hm;rw[hzs,AH]at e1;cases e4:ss[m]? with
  |none=>rw[e4]at e1;cases e1
  |some b=>rw[e4]at e1;cases e1;cases(show v'=V.str b from q1);obtain⟨t',ht⟩:=z1;exact⟨b,t',ht,rfl⟩
 let ef:Ai->Bool:=λv=>match v with | .str a _=>decide (a=k) | _=>false
 have hsz:Bk.toArray.size=ss.length:=by simp;ext
 refine Iq F.slot_list_index ⟨_,ho,rfl⟩ F.entry_list_index (F.args_list_index_2 _ _) (SeqAt.list_indexAt p Bk.toArray n _ _ (.str k t) ef i (by ext) ?_ ?_ ?_) ⟨ho,?_,?_⟩
 .have:Am<2^62:=by decide
  ext
 .obtain⟨b,t',h5,h6⟩:=at_ i (by ext);rw[h5];rw[g1]at h6;cases h6;simp[ef]
 .intro m hm hlt;obtain⟨b,t',h5,h6⟩:=at_ m hm;rw[h5];simp[ef,g2 m b hlt h6]
 .intro y hy;obtain⟨m,hm,rfl⟩:=Array.mem_iff_getElem.mp hy;obtain⟨b,t',h5,h6⟩:=at_ m hm;rw[h5];exact ZR I hr 1 (x:=.str b) (y:=.str k) rfl rfl ⟨t',rfl⟩ ⟨t,rfl⟩ (by show X.A.units+1+1<C9;ext) rfl
 .exact⟨.int i,H,I.tok _,⟨_,rfl⟩,kk.i hr q⟩
theorem wt (as bs:List Int):K8 (as.map D.int) (bs.map D.int)=(as.zip bs).map λp=>.tup [.int p.1,.int p.2]:=by
 unfold K8;rw[List.zip_map,Bv];rfl
theorem tG (f):∀as bs:List Int,((as.zip bs).map λp=>D.int (f p.1 p.2))=(as.zipWith f bs).map D.int
 |[],_=>rfl
 |_::_,[]=>rfl
 |a::as,b::bs=>by
  show D.int (f a b)::(as.zip bs).map _=D.int (f a b)::(as.zipWith f bs).map D.int;rw[tG f as bs]
theorem Lp.ints {as bs:List Int}(f:Int->Int->Int)(hz:as.length<=Am)(hS:S M)(h:∀a b,(a,b)∈as.zip bs->∀R:El,R (.int (f a b)) M->te (capT τ caps [.int a,.int b]) M R)(q:Q ((as.zipWith f bs).map D.int) M):Lp 2 (K8 (as.map D.int) (bs.map D.int)) S caps GC te τ M Q:=by
 rw[wt];refine⟨by rw[Ab,Ry];ext,λi ys M'=>M'=M/\ys=((as.zip bs).take i).map λp=>D.int (f p.1 p.2),⟨rfl,rfl⟩,?_,?_,?_⟩
 .rintro i ys M' ⟨rfl,rfl⟩;exact⟨hS,by rw[Ab,AY];ext⟩
 .rintro i x ys M' hx ⟨rfl,rfl⟩;rw[AH]at hx;cases e:(as.zip bs)[i]? with
  |none=>rw[e]at hx;cases hx
  |some p=>rw[e]at hx;refine⟨_,(A9 hx).symm,rfl,?_⟩;unfold GC;dsimp only;rw[if_pos rfl];exact h p.1 p.2 (Aw e) _ ⟨rfl,by rw[A8,e,AI];rfl⟩
 .rintro ys M' ⟨rfl,rfl⟩;rw[Ab,Bc];rw[tG f as bs];exact q
end
end L3
namespace L2
open PySem PySem.Spec PyProof.Rows L3
noncomputable def xI (x:Str):It:=⟨λi _=>i<x.cps.size,λi H v H'=>H'=H/\∃c,x.cps[i]? = some c/\v=.str ⟨#[c]⟩,λi _=>x.cps.size<=i⟩
theorem up {K:Ac}(it)(x)(t:Tok):LY P w K F tg (xI x) [it] it (λi h=>h.IsStrIter it "str_ascii_iterator" x t i) where
 mem:=by simp
 obj:=λi h st b hb=>by
  have e:b=it:=by simpa using hb
  subst e;obtain⟨o,e,c,d⟩:=st;exact⟨o,e,λv z=>by rw[d]at z;cases z⟩
 keep:=λi h h' st k=>by
  obtain⟨o,e,c,d⟩:=st;exact⟨o,k it (by simp) o e,c,d⟩
 item:=by
  intro X hP hw hK hF hc i Ae s U H E I hf st hg;subst hP hw hK;have hi:=hg;obtain⟨f0,f1,f2,f3,f4,f5⟩:=hf it (by simp);refine wpAny_pyNext_ascii_item st (AW hi) λh' st' sb=>?_;have I1:A4 X Ae U H {s with heap:=h',toks:=s.toks+1}:=I.turned (λb o hb e=>(sb.2 b hb).trans e) f0 f1 f3 f4 f5;obtain⟨o,e,c,d⟩:=id st';exact⟨_,rfl,VA e c d (by decide) ⟨.str ⟨#[x.cps[i]]⟩,H,I1,⟨_,rfl⟩,⟨rfl,_,AW hi,rfl⟩,st',λb hb=>(hf b hb).1⟩⟩
 done:=by
  intro X hP hw hK hF hc i Ae s U H E I hf st hg;subst hP hw hK;have hg':=hg;obtain⟨f0,f1,f2,f3,f4,f5⟩:=hf it (by simp);exact wpAny_pyNext_ascii_end (I.ok.hd hc) st (DQ hg') λh' eb=>⟨rfl,I.turned (λb o hb e=>eb b o hb e) f0 f1 f3 f4 f5⟩
 self:=λ_ _ _ _ _ st h=>wpAny_pyIter_striter_ascii st h
theorem jb {X:Cx}{tg l:Ca}{tl:TE}(hl:PE X l tl):PI X tg l (λU H R=>tl U H λv H1=>∃x,v=.str x/\(x.cps.all λc=>decide (c<128))=true/\R (xI x) H1):=by
 intro Ae s U H R I h;refine Dp (hl Ae s U H _ I h) λu s1 e=>e.el λv H1 I1 r ⟨x,e,ha,q⟩=>?_;subst e;obtain⟨t,rfl⟩:=r;refine wpAny_pyIter_ascii ha ?_;have I2:A4 X Ae U H1 {s1 with heap:=s1.heap.push {cls:=.type "str_ascii_iterator",data:=.fields #[.str x t,.int 0 0]} }:=I1.kept λb o e=>Ag _ e;refine⟨s1.heap.objs.size,[s1.heap.objs.size],_,_,H1,rfl,I2,up _ x t,⟨_,AB _ rfl,rfl,rfl⟩,λb hb=>?_,q⟩;have e:b=s1.heap.objs.size:=by simpa using hb
 subst e;exact I1.fpOk (AJ _) (I1.hok.fresh (AJ _))
theorem w4 :F6 X (A7 .LtE) (λx y H Q=>∃i j,x=.str i/\y=.str j/\Q (.bl (!decide (j.cps.toList<i.cps.toList))) H):=by
 intro Ae s U H x y v u Q I rx ry h;obtain⟨i,j,rfl,rfl,q⟩:=h;obtain⟨t,rfl⟩:=rx;obtain⟨t',rfl⟩:=ry;exact richCompare_gives (op:=.LtE) (Nk _ _ _) (Nk _ _ _) PySem.F.slot_str_le PySem.F.entry_str_le (PySem.F.args_str_le_2 _ _) (PySem.gives_str_le i j t t') (by simp[Made.takes]) (Ij I q rfl)
end L2
namespace L3
open PySem PySem.Spec PyProof.Rows L2
unseal BY HM Jl Gc Kd GN Dd Cb FP BS FC F5 KN Ho EK
section
noncomputable def Kl (z:Str):List D:=z.cps.toList.map λc=>.str ⟨#[c]⟩
def WN (t:DV):Ng:=λτ M R=>t τ M λx M1=>Gb x λz=>(z.cps.all λc=>decide (c<128))=true/\R (Kl z) (λ_=>True) M1
theorem gg (hl:BY X l tl):Ho X tg l (WN tl):=PI.mono (jb hl) (by
 intro U H R;ext1⟨Z,τ,M,R2,st,hr,h,k⟩;refine lE.bind st hr h λZ1 v d H1 M1 l1 h1 a1 q1=>?_;obtain⟨z,rfl,ha,q⟩:=D4 q1;refine⟨z,a1,ha,k Z1 _ (Kl z) _ H1 M1 l1 h1 (λi H M Z' l hr s=>?_) q⟩;unfold Kl;refine⟨λd hd=>?_,λhi=>by rw[Ab,BE]at hi;exact hi⟩;rw[AH,C2]at hd;cases e:z.cps[i]? with
 |none=>rw[e]at hd;cases hd
 | some c=>rw [e] at hd;cases hd;refine ⟨(F3.mp e).1,λx H' y=>?_⟩;obtain ⟨rfl,c',e',rfl⟩:=y;rw [e] at e';cases e';exact ⟨Z',Le.refl _,hr,rfl⟩)
theorem sM:Cb X (A7 .LtE) (λx y M Q=>Gb x λi=>Gb y λj=>Q (.bl (!decide (j.cps.toList<i.cps.toList))) M):=F6.mono w4 (by
 intro x y H Q;ext1⟨Z,dx,dy,M,Q2,hr,ax,ay,h,k⟩;obtain ⟨i,rfl,h1⟩:=D4 h;obtain ⟨j,rfl,q⟩:=D4 h1;exact ⟨i,j,ax,ay,k.b hr q⟩)
noncomputable def IE:List D->Option (List Bool)
 |[]=>some []
 |.bl b::r=>(IE r).map (b::·)
 |_::_=>none
theorem tO:∀{ds:List D}{bs:List Bool},IE ds=some bs->ds=bs.map D.bl
 |[],bs,h=>by cases h;rfl
 |.bl a::r,bs,h=>by
  change(IE r).map (a::·)=_ at h;cases e:IE r with
  |none=>rw[e]at h;cases h
  |some t=>rw[e]at h;cases h;rw[AR,<- tO e]
 |.non::r,_,h | .int _::r,_,h | .str _::r,_,h | .tup _::r,_,h | .lst _::r,_,h | .dic _::r,_,h | .dct _::r,_,h | .ref _::r,_,h | .ty _::r,_,h=>by cases h
theorem uQ:∀bs,IE (bs.map D.bl)=some bs
 |[]=>rfl
 |b::r=>by
  show(IE (r.map D.bl)).map (b::·)=_;rw[uQ r];rfl
theorem xg (bs:List Bool):(Bp bs.length).all (λi=>bs.getD i true)=bs.all id:=by
 induction bs with
 |nil=>rfl
 |cons b r ih=>rw[AO,EB,FZ,Vb,FZ];congr 1
theorem yE (hc:X.calm=true):BS X (.builtin "all") (λxs M Q=>GG xs λx=>Ck (Bf M x) λds=>Ck (IE ds) λbs=>Q (.bl (bs.all id)) M):=by
 intro Ae s U H xs us Q I r;ext1⟨Z,ds,M,Q2,hr,a,h,k⟩;obtain⟨x,rfl,h1⟩:=Hk h;obtain⟨zs,e,h2⟩:=Ci h1;obtain⟨bs,e2,q⟩:=Ci h2;obtain⟨v,rfl,av⟩:=IF a;obtain⟨p,ws,rfl,hs,a2⟩:=hr.rdL e av;obtain⟨u,rfl,ru⟩:=G8 r;cases(show u=AC p from ru);obtain⟨Bk,rv,pl,hz⟩:=I.list hs;have hzs:=tO e2;have l1:=rv.length;have l2:=a2.length;have hzl:zs.length=bs.length:=by rw[hzs,Ab]
 have hsz:Bk.toArray.size=bs.length:=by simp;ext
 refine call_all_walkS (Hq pl.isList ?_)
 have hlt:p<s.heap.objs.size:=by
  obtain⟨o,eo,_⟩:=pl.isList;exact Ap eo
 have hne:=A6 hlt;refine⟨s.heap.objs.size,[s.heap.objs.size,p],[s.heap.objs.size],_,Bk.toArray.size,_,_,λi=>bs.getD i true,rfl,(Wj (show X.A.in1.handled=none from I.ok.hd hc) s.heap.objs.size p hne Bk.toArray).toS,⟨⟨_,AB _ rfl,rfl,rfl⟩,?_⟩,?_,?_⟩
 .obtain⟨o,eo,c1,n,c2⟩:=pl.isList;exact⟨o,Ag _ eo,c1,n,c2⟩
 .intro i v s' Q' E' hv hq;have hi:=(F3.mp hv).1;obtain⟨v',d',_,e1,q1,z1⟩:=Uw rv a2 i hi;rw[hzs,AH]at e1;cases e4:bs[i]? with
  |none=>rw[e4]at e1;cases e1
  |some b=>
   rw[e4]at e1;cases e1;cases(show v'=V.bl b from q1)
   have hb:v=IS b:=by
    have h3:=z1;rw[AW hi,h3]at hv;exact(A9 hv).symm
   subst hb
   have hq':Q' b s':=by
    have:bs.getD i true=b:=by rw[Cg,e4];rfl
    have hq2:Q' (bs.getD i true) s':=hq;rw[this]at hq2;exact hq2
   exact EA hq'
 .intro s' mv;rw[hsz,xg];obtain⟨m1,m2,m3,m4,m5⟩:=mv;obtain⟨h',g',d',t',o'⟩:=s';have e1:=m2;have e2:=m3;have e3:=m4;subst e1 e2 e3;refine⟨.bl _,H,I.kept λb o eb=>m1 b o (λhb=>?_) (Ag _ eb),rfl,k.b hr q⟩;have:b=s.heap.objs.size:=by simpa using hb
  rw[this]at eb;exact absurd (Ap eb) (EQ _)
theorem EL.of {α:Type}{ks:List α}{g f:α->D}{S:Mp->Prop}{caps:List (Str×Nat)}{te:DV}{τ:Gu}{M:Mp}{Q:List D->Mp->Prop}(hz:ks.length<=Am)(hS:S M)(h:∀k∈ks,∀R:El,R (f k) M->te (LS τ caps (some (g k))) M R)(q:Q (ks.map f) M):EL (ks.map g) S caps GC te τ M Q:=by
 refine⟨by rw[Ab];exact hz,λi ys M'=>M'=M/\ys=(ks.take i).map f,⟨rfl,rfl⟩,?_,?_,?_⟩
 .rintro i ys M' ⟨rfl,rfl⟩;exact⟨hS,by rw[Ab,AY];ext⟩
 .rintro i x ys M' hx ⟨rfl,rfl⟩;rw[AH]at hx;cases e:ks[i]? with
  |none=>rw[e]at hx;cases hx
  |some k=>rw[e]at hx;cases hx;unfold GC;dsimp only;rw[if_pos rfl];exact h k (Aw e) _ ⟨rfl,by rw[A8,e,AI];rfl⟩
 .rintro ys M' ⟨rfl,rfl⟩;rw[Ab,Bc];exact q
end
end L3
namespace L2
open PySem PySem.Spec PyProof.Rows L3
end L2
namespace L3
open PySem PySem.Spec PyProof.Rows L2
unseal BY HM Jl Gc Kd GN Dd Cb FP BS FC F5 KN Ho EK
end L3
namespace L2
open PySem PySem.Spec PyProof.Rows L3
theorem ZfA (t:Dl)(n:Nat):(t.orStandIn n).led=t.led:=by
 unfold SetTable.orStandIn;split<;>rfl
theorem yn (t:Dl)(es:Array (Int×Ai))(h:Int)(x:Ai):(layNew t es h x).2.1.led=t.led:=by
 unfold layNew;split
 .next slot wd e=>
  show((t.put slot).1.orStandIn _).led=_;rw[ZfA];rfl
 .rfl
theorem Α (t)(es)(n):(HS t es n).2.1.led=t.led:=by
 unfold HS;split
 .next t' order e=>
  have e2:t'.led=t.led:=by
   unfold OI Kx at e;cases q:Nw (EH n-1) (es.map (·.1))with
   |none=>rw[q]at e;cases e
   |some o=>rw[q]at e;cases e;rfl
  dsimp only;split
  .exact e2
  .rfl
 .rfl
theorem Zeh (t)(es)(n)(h:t.plain=false):(HS t es n).2.1.plain=false:=by
 unfold HS;split
 .next t' order e=>
  have e2:t'.plain=t.plain:=by
   unfold OI Kx at e;cases q:Nw (EH n-1) (es.map (·.1))with
   |none=>rw[q]at e;cases e
   |some o=>rw[q]at e;cases e;rfl
  dsimp only;split
  .rw[<- h];exact e2
  .rfl
 .rfl
def IH (w:BM)(es:List (Int×Ai)):Prop:=∀e∈es,∃x t,e=(Fo w x,De x t)
noncomputable def GH (es:List (Int×Ai)):List Str:=es.map λe=>strOf e.2
def CS (w:BM)(h:CV)(a:Av)(ks:List Str)(led:Bool):Prop:=
 ∃o es ep t,h.get? a=some o/\o.ExactSet/\o.data=Ih es ep t/\IH w es.toList/\(GH es.toList).Perm ks/\es.size<Bg/\t.fits es.size=true/\t.led=led/\(es.size≠0->t.plain=false)
theorem IH.elems (h:IH w es):ElemsOf (Bx prog w) es:=λe he=>by
 obtain⟨x,t,rfl⟩:=h e he;exact⟨⟨x,by simp[Bx,D7],rfl⟩,rfl⟩
theorem kF (h:IH w es)(hx:x∉GH es):es.findIdx? (λe=>(Bx prog w).is x e.2)=none:=by
 rw[Gp];intro e he;obtain⟨y,t,rfl⟩:=h e he;cases q:(Bx prog w).is x (De y t)with
 |false=>rfl
 |true=>
  have:y=x:=by simpa[Bx,D7]using q
  subst this;exact absurd (An.mpr ⟨_,he,rfl⟩) hx
theorem kG (h:IH w es)(hx:x∈GH es):∃j,es.findIdx? (λe=>(Bx prog w).is x e.2)=some j:=by
 cases q:es.findIdx? (λe=>(Bx prog w).is x e.2)with
 |some j=>exact⟨j,rfl⟩
 |none=>rw[Gp]at q;obtain⟨e,he,rfl⟩:=An.mp hx;obtain⟨y,t,rfl⟩:=h e he;have:=q _ he;simp[Bx,D7,strOf]at this
theorem stored {s:CV}(ho:s.get? a=some o)(hex:o.ExactSet)(hd:o.data=Ih es ep t) :
  ∃o',(s.update a (Obj.putSet es1 t2)).get? a=some o'/\o'.ExactSet/\o'.data=Ih es1 (ep+1) t2:=by
 have e:=putSet_of es1 t2 hd;refine⟨_,Ee _ ho ?_,?_,?_⟩
 .rw[e];obtain⟨h1,h2,h3⟩:=hex;simp[Obj.isFreed,h1]
 .rw[e];exact hex
 .rw[e]
theorem SR {g:Bool->Sem Unit}(hg:∀b s₁ Q',Q' () s₁->Au (AA prog w) A (g b) Q' E s₁)
  (ho:s.heap.get? a=some o) (hex:o.ExactSet) (hd:o.data=Ih es ep t)
  (h1:IH w es1.toList) (hp:(GH es1.toList).Perm ks) (hsz:es1.size<Bg) (hfit:t2.fits es1.size=true) (hled:t2.led=led) (hpl:t2.plain=false)
  (hR:∀h',BH a s.heap h'->CS w h' a ks led->R (some true) {s with heap:=h' }) :
  Au (AA prog w) A (do
   storeSet a es1 t2
   if (!wd && t2.tooFull)=true then do
    g (HS t2 es1 (Dv es1.size)).2.2
    storeSet a (HS t2 es1 (Dv es1.size)).1 (HS t2 es1 (Dv es1.size)).2.1
    pure (some true)
   else pure (some true)) R E s:=by
 have hline:Bg<=Am:=by decide
 obtain⟨o1,ho1,hex1,hd1⟩:=stored ho hex hd;refine Aa (DA ho hd ?_ (by ext));split
 .refine Aa (hg _ _ _ ?_);have hperm:=relayAll_perm t2 es1 (Dv es1.size);have hfit3:=relayAll_fits t2 es1 (Dv es1.size);have hled3:=Α t2 es1 (Dv es1.size);have hpl3:=Zeh t2 es1 (Dv es1.size) hpl
  have hlen:(HS t2 es1 (Dv es1.size)).1.size=es1.size:=by
   have:=hperm.length_eq;simpa using this
  obtain⟨o2,ho2,hex2,hd2⟩:=stored ho1 hex1 hd1;refine Aa (DA ho1 hd1 (Ad (hR _ ((Bd _ _ _).trans (Bd _ _ _)) ⟨o2,_,_,_,ho2,hex2,hd2,λe he=>h1 e (hperm.mem_iff.mp he),?_,by ext,by rw[hlen]at hfit3 ⊢;exact hfit3,by rw[hled3];exact hled,λ_=>hpl3⟩)) (by ext));exact(hperm.map _).trans hp
 .exact Ad (hR _ (Bd _ _ _) ⟨o1,_,_,_,ho1,hex1,hd1,h1,hp,hsz,hfit,hled,λ_=>hpl⟩)
theorem kK (hS:CS w s.heap a ks led)(hn:ks.length+1<Bg)
  (hQ:∀b h',BH a s.heap h'->CS w h' a (if x∈ks then ks else ks++[x]) led->Q b {s with heap:=h' }):Au (AA prog w) A (Io a (.str x t) (Fo w x)) Q E s:=by
 obtain⟨o,es,ep,tb,ho,hex,hd,hes,hp,hsz,hfit,hled,hpl⟩:_:=hS;unfold Io;refine BV ?_;generalize hN:(99999:Nat)=N;rw[show(100000:Nat)=99999+1 from rfl,hN];rw[setAddHashedIn];refine Aa (A5 ho hd hfit ?_);dsimp only;rw[if_pos (byScan_of (knd:=Bx prog w) (x:=.str x t) rfl hsz hes.elems)];refine Aa ?_;unfold setAddByScan;refine Aa (GP (Aa (Wa (knd:=Bx prog w) (k:=x) (by simp[Bx,D7]) ho hd hfit hes.elems ?_)));by_cases hx:x∈ks
 .obtain⟨j,hj⟩:=kG (prog:=prog) hes (hp.mem_iff.mpr hx);rw[hj];refine Ad (Ad ?_);have z:=hQ false s.heap (CJ _ _) (by rw[if_pos hx];exact⟨o,es,ep,tb,ho,hex,hd,hes,hp,hsz,hfit,hled,hpl⟩);exact z
 .rw[kF (prog:=prog) hes (λh=>hx (hp.mem_iff.mp h))];dsimp only;have lp:=layNew_perm tb es (Fo w x) (.str x t);have lf:=layNew_fits tb es (Fo w x) (.str x t);have ll:=yn tb es (Fo w x) (.str x t);generalize layNew tb es (Fo w x) (.str x t)=L at lp lf ll ⊢;obtain⟨es1,t1,wd,gv⟩:=L;dsimp only at lp lf ll ⊢
  have hok1:IH w es1.toList:=λe he=>by
   rcases Array.mem_push.mp (Ia.mp (lp.mem_iff.mp he))with h|h
   .exact hes e (Ia.mpr h)
   .exact⟨x,t,h⟩
  have hlen:es1.size=es.size+1:=by
   have:=lp.length_eq;simpa using this
  have hkl:(GH es.toList).length=es.size:=by unfold GH;rw[Ab,BE]
  have hkl2:=hp.length_eq
  have hp1:(GH es1.toList).Perm (ks++[x]):=by
   have h2:(GH es1.toList).Perm (GH (es.push (Fo w x,De x t)).toList):=lp.map _;refine h2.trans ?_;unfold GH;rw[Pw,AI];exact hp.append (Ec _)
  have gw:∀gv s₁ Q',Q' () s₁->Au (AA prog w) A (match gv with | true=>Ro "set.scan.the-table-gave-way" |false=>pure ()) Q' E s₁:=λgv s₁ Q' h=>by
   cases gv with
   |true=>exact GP h
   |false=>exact Ad h
  refine Aa (gw gv s _ ?_);split
  .rw[hashByValue_scannable 8 (x:=.str x t) rfl];refine Aa (Ad ?_);refine SR (led:=led) gw ho hex hd hok1 hp1 (by ext) ?_ ?_ ?_ λh' sb hS=>?_
   .split
    .exact lf
    .exact SetTable.fits_plain_off lf
   .split
    .rw[ll];exact hled
    .show t1.led=led;rw[ll];exact hled
   .rfl
   .exact Ad (hQ true h' sb (by rw[if_neg hx];exact hS))
  .refine Aa (Ad ?_);refine SR (led:=led) gw ho hex hd hok1 hp1 (by ext) ?_ ?_ ?_ λh' sb hS=>?_
   .rw[if_pos rfl];exact lf
   .rw[if_pos rfl,ll];exact hled
   .rw[if_pos rfl];exact JM.mpr (by assumption)
   .exact Ad (hQ true h' sb (by rw[if_neg hx];exact hS))
theorem z9 (a)
  (h:Q₁ (.ref s.heap.objs.size) {s with heap:=s.heap.push {cls:=.type "set",dict:=none,data:=.set #[] 0 (.fresh 0 0 (!(w.params.followText "set-order")))} }) :
  DU (AA prog w) A (.call (.builtin "set.__new__") ⟨[.type "set",a],[]⟩) (wants Q₁ E) s:=by
 refine YS ?_;show Au _ A.in1 (do checkBuiltinCall "set.__new__" ⟨[.type "set",a],[]⟩;Nu (.builtin "set.__new__" ⟨[.type "set",a],[]⟩)) _ _ s;refine Aa (Cd (PySem.F.newCall_set_1 a) (Ad ⟨FR F.plain_set_new _,Dz F.entry_set_new ?_⟩));rw[CQ F.plain_set_new _];unfold Ek.«set.__new__» RD;have hsub:=KP;obtain⟨hp,g,d,tk,os⟩:=s;dsimp only;wp_walk;refine Dc (Ad ?_);dsimp only;simp only[newObj];refine Aa (wpAny_alloc (Ad ?_));exact Ad h
noncomputable def fm (xs:List Str):List Str:=xs.foldl (λks x=>if x∈ks then ks else ks++[x]) []
theorem qG (xs)(x:Str):fm (xs++[x])=if x∈fm xs then fm xs else fm xs++[x]:=by
 unfold fm;rw[JJ];rfl
theorem za (xs:List Str):∀ks,(xs.foldl (λks x=>if x∈ks then ks else ks++[x]) ks).length<=ks.length+xs.length:=by
 induction xs with
 |nil=>intro ks;exact AJ _
 |cons x xs ih=>
  intro ks;rw[DL,AO];refine AZ (ih _) ?_;split
  .ext
  .rw[Aq];simp only[ES];ext
theorem Uv (xs:List Str):(fm xs).length<=xs.length:=by
 have:=za xs [];simpa[fm]using this
theorem CS.moved (hS:CS w s.heap S ks led)(hm:Moved wr G s s')(hn:S∉wr):CS w s'.heap S ks led:=by
 obtain⟨o,es,ep,t,ho,C6⟩:=hS;exact⟨o,es,ep,t,hm.heap S _ hn ho,C6⟩
section
variable          {St:Nat->Ar->Prop}
theorem we (W:WalksS prog w A.in1 I fp wr G n P St)(S:Av)(hSf:S∉fp)(xs:List Str)(hx:xs.length=n)
  (hval:∀i v (h:i<xs.length),P i v->∃t,v=.str xs[i] t) (hb:n+1<Bg) (led:Bool) :
  ∀k i s,n-i=k->i<=n->St i s ->
   CS w s.heap S (fm (xs.take i)) led ->
   (∀s',Moved (S::wr) G s s'->CS w s'.heap S (fm xs) led->R (.ok (.ret .none)) s') ->
   DU (AA prog w) A (.builtin "set.update.loop" ⟨[.ref S,.ref I],[]⟩) R s:=by
 have hSw:S∉wr:=λh=>hSf (W.sub _ h);have hsub:∀b∈wr,b∈S::wr:=λb hb=>AE _ hb;intro k;induction k with
 |zero=>
  intro i s hk hi hst hS hR;have hin:i=n:=by ext
  subst hin;refine Dz F.entry_set_update_loop ?_;rw[CQ F.plain_set_update_loop _];show Au _ A.in1 (Ip (.ref I) >>= _) _ _ s;refine Aa (W.done s _ _ hst λs' hm=>?_);show Au _ A.in1 (ret F0) _ _ s';rw[BO (by ext)]at hS;exact Ad (hR s' (hm.mono hsub) (hS.moved hm hSw))
 |succ k ih=>
  intro i s hk hi hst hS hR;have hlt:i<n:=by ext
  refine Dz F.entry_set_update_loop ?_;rw[CQ F.plain_set_update_loop _];show Au _ A.in1 (Ip (.ref I) >>= _) _ _ s;refine Aa (W.item i s _ _ hlt hst λv s' hP hst' hm=>?_);obtain⟨t,rfl⟩:=hval i v (by ext) hP;have hS':=hS.moved hm hSw;show Au _ A.in1 (Gy [De xs[i] t] (setAdd S (.str xs[i] t)) >>= _) _ _ s';refine Aa (BV ?_);unfold setAdd;refine BV ?_;refine Aa ((Bx prog w).pyHash (strKind_is _ _ _ _) ?_)
  have hroom:(fm (xs.take i)).length+1<Bg:=by
   have:=Uv (xs.take i);rw[AY]at this;ext
  refine kK hS' hroom λb h' hsb hS2=>?_;have e:xs.take (i+1)=xs.take i++[xs[i]]:=by rw[JI (by ext)]
  rw[<- qG,<- e]at hS2;refine Ad ⟨FR F.plain_set_update_loop _,ih (i+1) _ (by ext) hlt (W.frame _ s' _ _ hst' (JD _) λb hb o e=>?_) hS2 λs'' hm'' hS''=>?_⟩
  .rw[hsb.2 b (λh:b=S=>hSf (by rw[<- h];exact hb))];exact e
  .refine hR s'' (Moved.trans W.gtrans ((hm.mono hsub).then_heap (JD _) λb o hb e=>?_) hm'') hS'';rw[hsb.2 b (λh:b=S=>hb (by rw[h];exact AF))];exact e
end
theorem kJ (hg:h.get? a=some {cls:=.type "set",dict:=none,data:=.set #[] 0 (.fresh 0 0 led)})(e:led=led'):CS w h a (fm ([]:List Str)) led':=by
 subst e;exact⟨_,#[],0,_,hg,⟨rfl,rfl,rfl⟩,rfl,λe he=>absurd he (by simp),Ec _,by decide,rfl,rfl,λh=>absurd rfl h⟩
theorem O2 (ft:TypeCalled T newId initId)(hct:checkTypeCall T ⟨args,[]⟩=pure ())
  (hnew:DU (AA prog w) A.in1 (.call (.builtin newId) ⟨.type T::args,[]⟩) (wants Q₁ E) s)
  (hini:∀obj s₁,Q₁ obj s₁->s₁.TypeIs obj T/\DU (AA prog w) A.in1 (.call (.builtin initId) ⟨obj::args,[]⟩) (wants (λr s₂=>r=.none/\Q obj s₂) E) s₁) :
  Au (AA prog w) A (Ir (.type T) args) Q E s:=by
 have f1:=ft.notType;have f2:=ft.canCreate;have f3:=ft.made;have f4:=ft.sub;have f5:=ft.init.lookup;obtain⟨c,tl,f6⟩:=ft.mro;refine To (YS ?_);show Au _ _ (callAny (.type T) _) _ _ _;refine Ad ⟨Code.quiet_builtin _ (by nofun),Dz F.entry_type_call ?_⟩;rw[Around.under_plain (weight_type_call_type T args []) rfl]
 repeat (any_goals (first | assumption | wp_step))
 refine Gz hnew λr s₁ hr=>?_
 match r,hr with
 |.error e,hr=>exact hr
 |.ok (.ret obj),hr=>
  obtain⟨hT,hi⟩:=hini _ _ hr;have f7:=ft.init.bind obj
  repeat (any_goals (first | assumption | wp_step))
  refine Gz hi λr₂ s₂ hr₂=>?_
  match r₂,hr₂ with
  |.error e,hr₂=>exact hr₂
  |.ok (.ret _),⟨rfl,hq⟩=>repeat (any_goals (first | assumption | wp_step))
set_option maxHeartbeats 3200000 in
theorem wc {Q:Ar->Prop}(hh:A.handled=none)
  (hS:s.heap.get? S=some {cls:=.type "set",dict:=none,data:=.set #[] 0 (.fresh 0 0 led)}) (hl:s.heap.IsList l items) (hx:xs.length=items.size)
  (hi:∀i v (h:i<xs.length),items[i]? = some v->∃t,v=.str xs[i] t) (hb:items.size+1<Bg)
  (h:∀h' tk,CS w h' S (fm xs) led->(∀b o,b≠S->s.heap.get? b=some o->h'.get? b=some o)->Q {s with heap:=h',toks:=tk}) :
  DU (AA prog w) A (.call (.builtin "set.__init__") ⟨[.ref S,.ref l],[]⟩) (wants (λr s₂=>r=.none/\Q s₂) E) s:=by
 have hT:s.TypeIs (.ref S) "set":=⟨_,hS,rfl⟩;have hSlt:=Ap hS
 have ne:l≠S:=λe=>by
  subst e;obtain⟨o,ho,hc,-⟩:=hl;rw[hS]at ho;cases ho;exact absurd (show DP "set" = DP "list" from hc) (by decide)
 refine codeAny_call_builtin F.called_set.init.plain F.entry_set_init (check_set_init_1 hT ?_);have hl0:=hl;obtain⟨⟨lc,ld,ldata,lsl⟩,hol,hcl,nl,hdl⟩:_:=hl;dsimp only at hcl hdl;subst hcl;subst hdl;have f1:=PySem.F.sub_list_set;have f2:=PySem.F.sub_list_frozenset;have f3:(DP "list" == DP "dict")=false:=by decide
 unfold Ek.«set.__init__» noKeywords Hx;generalize hPI:Ts=PI;wp_walk;subst hPI;refine Hq hl0 (Aa (cC ?_));have hllt:=Ap hol
 refine we ((Wj (by simp[hh]) _ l (A6 hllt) items).toS) S (by simp[A6 hSlt,Bj ne]) xs hx (λi v hlt hv=>hi i v hlt hv) hb led (items.size-0) 0 _ (by ext) (Ef _)
  ⟨⟨_,AB _ rfl,rfl,rfl⟩,hl0.push _⟩ (kJ (Ag _ hS) rfl) ?_
 intro s' hm hS';obtain⟨h',g',d',tk',os'⟩:=s';have eg:=hm.gens;have ed:=hm.drawn;have eo:=hm.os;subst eg;subst ed;subst eo;refine Ad (Ad ⟨rfl,h h' tk' hS' λb o hbS e=>hm.heap b o ?_ (Ag _ e)⟩);have:=Ap e;simp only[By,AS,or_false,not_or];exact⟨hbS,A6 this⟩
theorem jW {prog:Bq}{w:BM}{A:Cy}{E:Ai->Ar->Prop}{s:Ar}{l:Av}{items:Array Ai}{xs:List Str}{Q:Ai->Ar->Prop}
  (hh:A.handled=none) (hl:s.heap.IsList l items) (hx:xs.length=items.size) (hi:∀i v (h:i<xs.length),items[i]? = some v->∃t,v=.str xs[i] t) (hb:items.size+1<Bg)
  (h:∀h' tk,CS w h' s.heap.objs.size (fm xs) (!(w.params.followText "set-order"))->(∀b o,s.heap.get? b=some o->h'.get? b=some o)->Q (.ref s.heap.objs.size) {s with heap:=h',toks:=tk}) :
  Au (AA prog w) A (Ir (.type "set") [.ref l]) Q E s:=by
 refine O2 F.called_set (PySem.F.typeCall_set_1 _) (z9 (.ref l) (Q₁:=λobj s₁=>obj=.ref s.heap.objs.size/\s₁={s with heap:=s.heap.push {cls:=.type "set",dict:=none,data:=.set #[] 0 (.fresh 0 0 (!(w.params.followText "set-order")))} }) ⟨rfl,rfl⟩) ?_;rintro _ _ ⟨rfl,rfl⟩;refine⟨⟨_,AB _ rfl,rfl⟩,wc (by simp[hh]) (AB _ rfl) (hl.push _) hx hi hb λh' tk hS' hk=>h h' tk hS' λb o e=>hk b o (A6 (Ap e)) (Ag _ e)⟩
theorem UJ:cM "set_iterator" "__next__" "set_iterator.__next__":=
 .of (owner:="set_iterator") (n:="__next__") (by rw[IJ,FD];kernel_rfl) (by nofun) (by nofun) (by nofun)
  (by first | exact .inl (by nofun) | exact .inr (by nofun)) (by rw[cJ];kernel_rfl)
theorem wY:KZ UZ "set_iterator.__next__" = some Ek.«set_iterator.__next__»:=Wh (by kernel_rfl)
theorem wD (a):cL "set_iterator.__next__" ⟨[a],[]⟩:=by
 unfold cL;rw[signature?_of (id:="set_iterator.__next__") (n:=['_','_','t','x','e','n','_','_']) (o:=['r','o','t','a','r','e','t','i','_','t','e','s']) (by kernel_rfl) (show ON.lookup (Rs ['r','o','t','a','r','e','t','i','_','t','e','s'].reverse)=some Ki by kernel_rfl)]
 kernel_rfl
theorem zz:KZ UZ "set.__iter__" = some Ek.«frozenset.__iter__»:=Jr (id':="frozenset.__iter__") (by kernel_rfl) rfl (by nofun) (by kernel_rfl)
theorem Kn :∀(l:List α) (i:Nat) (h:i<l.length),(l[i]::l.eraseIdx i).Perm l
 |x::xs,0,_=>Ec _
 |x::xs,i+1,h=>by
  have h':i<xs.length:=by simpa using h
  exact(OT x xs[i] _).trans ((Kn xs i h').cons x)
theorem Zg6 (hn:n≠0)(h:∀i,i<n->∀d,Q i {s with drawn:=d}):Au M A (choose src n) Q E s:=
 λΓ p _=>⟨hn,h _ (PY _ (Nat.pos_of_ne_zero hn)) _⟩
theorem Zdb {M:Model}{A:Cy}{E:Ai->Ar->Prop}{α:Type}:∀(n:Nat) (xs:List α) (s:Ar) (Q:List α->Ar->Prop),xs.length<=n->(∀ys d,ys.Perm xs->Q ys {s with drawn:=d})->Au M A (drawOrder n xs) Q E s:=by
 intro n;induction n with
 |zero=>
  intro xs s Q hl h;cases xs with
  |nil=>exact Ad (h [] s.drawn (Ec _))
  |cons x xs=>exact absurd hl (Nat.not_succ_le_zero _)
 |succ n ih=>
  intro xs s Q hl h;cases xs with
  |nil=>exact Ad (h [] s.drawn (Ec _))
  |cons x xs=>
   refine Aa (Zg6 (by simp) λi hi d=>?_);rw[Af hi];dsimp only;refine Aa (ih _ _ _ ?_ λys d' hp=>Ad (h _ d' ?_))
   .rw[F7 hi];simp only[AO]at hl ⊢;ext
   .exact(hp.cons _).trans (Kn _ _ hi)
theorem qH (f):∀(fuel k:Nat) (left:List α) (out:Array α),left.length<=fuel->(KR f fuel k left out).toList.Perm (out.toList++left)
 |0,k,[],out,_=>by unfold KR;simp
 |fuel+1,k,left,out,h=>by
  unfold KR;cases left with
  |nil=>simp
  |cons x xs=>
   have hi:f k%(x::xs).length<(x::xs).length:=PY _ (by simp);rw[Af hi];dsimp only;refine(qH f fuel _ _ _ ?_).trans ?_
   .rw[F7 hi];simp only[AO]at h ⊢;ext
   .rw[Pw,Bo];exact(Ec _).append (Kn _ _ hi)
theorem xA (f)(xs:Array α):(HU f xs).toList.Perm xs.toList:=by
 have:=qH f xs.size 0 xs.toList #[] (by simp);simpa[HU]using this
def Rm (w:BM)(h:CV)(I S p i:Nat)(ord:List Ai):Prop:=
  ∃(o so:Obj) (first:Ai) (es:Array (Int×Ai)) (ep:Nat) (t:Dl),h.get? I=some o/\o.cls=DP "set_iterator"/\o.data=Op #[first,.int i 0,.ref S,.int es.size 0,.int ep 0]/\h.get? S=some so/\so.data=Ih es ep t/\t.fits es.size=true/\ord.length=es.size /\
    ((∃ (po:Obj) (js:List Nat) (c:Nat),first=AC p/\h.get? p=some po/\po.data=Data.seq (js.map λj:Nat=>DE j 0).toArray c/\ord.map some=js.map λj=>es[j]?.map (·.2))
   \/(∃sl tk,first=DE sl tk/\w.params.followText "set-order" = true/\ord=(HU (w.params.setOrder S ep) es).toList.map (·.2))
   \/(∃ sl:Nat,first=DE sl 0/\w.params.followText "set-order" = false/\t.led=true/\es.size<=1/\ord=es.toList.map (·.2)/\(i=0->sl=0)/\(i≠0->∀ j,t.place[0]? = some j->sl=j+1)))
theorem Rm.typeIs {s:Ar}(h:Rm w s.heap I S p i ord):s.TypeIs (.ref I) "set_iterator":=by
 obtain⟨o,so,first,es,ep,t,ho,hc,-⟩:_:=h;exact⟨o,ho,hc⟩
theorem Rm.kept (x:Rm w h I S p i ord)(e:∀b∈[I,S,p],∀o,h.get? b=some o->h'.get? b=some o):Rm w h' I S p i ord:=by
 obtain⟨o,so,first,es,ep,t,ho,hc,hd,hso,hsd,hf,hl,m⟩:_:=x;refine⟨o,so,first,es,ep,t,e I (by simp) _ ho,hc,hd,e S (by simp) _ hso,hsd,hf,hl,?_⟩;rcases m with⟨po,js,c,m1,m2,m3⟩|m|m
 .exact .inl ⟨po,js,c,m1,e p (by simp) _ m2,m3⟩
 .exact .inr (.inl m)
 .exact .inr (.inr m)
theorem lJ (ho:s.heap.get? a=some o)(hd:o.data=.set es ep t)(hf:t.fits es.size=true)(h:Q es.size s) :
  Au (AA prog w) A (Iu a) Q E s:=by
 unfold Iu Tr;exact Aa (Aa (A5 ho hd hf (Ad (Ad h))))
theorem wM (ho:s.heap.get? a=some o)(hd:o.data=.set es ep t)(hf:t.fits es.size=true)(h:Q es s) :
  Au (AA prog w) A (Tr a) Q E s:=by
 unfold Tr;exact Aa (A5 ho hd hf (Ad h))
theorem V4 (ho:s.heap.get? a=some o)(hd:o.data=.set es ep t)(hf:t.fits es.size=true)(h:Q ep s) :
  Au (AA prog w) A (cG a) Q E s:=by
 unfold cG;exact Aa (A5 ho hd hf (Ad h))
theorem Zda (ho:s.heap.get? a=some o)(hd:o.data=.set es ep t)(hf:t.fits es.size=true)(h:Q (!(w.params.followText "set-order") && (!t.plain && decide (es.size > 1))) s) :
  Au (AA prog w) A (setDrawn a) Q E s:=by
 unfold setDrawn Im;exact Aa (A5 ho hd hf (Aa (Aa (Dc (Ad (Ad h))))))
theorem bL :∀{es:List (Int×Ai)},IH w es->K0 (es.map (·.2)) (GH es)
 |[],_=>.nil
 |e::es,h=>by
  obtain⟨x,t,rfl⟩:=h e (by simp);exact .cons x t (bL λe he=>h e (by simp[he]))
theorem oI {es:List (Int×Ai)}:∀(js:List Nat),(∀j∈js,j<es.length)->∃fs:List (Int×Ai),js.map (λj=>es[j]?)=fs.map some/\fs=js.filterMap λj=>es[j]?
 |[],_=>⟨[],rfl,rfl⟩
 |j::js,h=>by
  obtain⟨fs,h1,h2⟩:=oI js λk hk=>h k (by simp[hk]);have hj:=h j (by simp);refine⟨es[j]::fs,?_,?_⟩
  .rw[AR,AR,h1,Af hj]
  .rw[C0,Af hj,h2]
theorem uD (es:List (Int×Ai)):(Bp es.length).filterMap (λj=>es[j]?)=es:=by
 induction es with
 |nil=>rfl
 |cons e es ih=>rw[AO,EB,C0];simp only[G6,Jj];rw[show(λj=>(e::es)[j]?) ∘ Nat.succ=λj=>es[j]? from by funext j;simp,ih]
set_option maxHeartbeats 1000000 in
theorem z8 (hS:CS w s.heap S ks (!(w.params.followText "set-order")))
  (hQ:∀(h':CV) d (I p:Nat) (ord:List Ai),Rm w h' I S p 0 ord->I∉[S,p]->(∀b o,s.heap.get? b=some o->h'.get? b=some o)->(∀b∈[I,p],s.heap.get? b=none\/b=S)->(∃ys,ys.Perm ks/\K0 ord ys)->Q (.ref I) {s with heap:=h',drawn:=d}) :
  Au (AA prog w) A (Ts (.ref S)) Q E s:=by
 obtain⟨o,es,ep,t,ho,hex,hd,hes,hp,hsz,hfit,hled,hpl⟩:_:=hS;have hT:s.TypeIs (.ref S) "set":=⟨o,ho,hex.1⟩;refine UW hT F.slot_set_iter (B8 F.slot_set_iter hT zz ?_ (F.args_set_iter_1 _));unfold Ek.«frozenset.__iter__»;refine Aa (Cd rfl ?_);refine Aa (lJ ho hd hfit ?_);refine Aa (Zda ho hd hfit ?_);have hle:es.size<4096:=hsz
 have none_at:∀b,s.heap.objs.size<=b->s.heap.get? b=none:=λb hb=>by
  cases hq:s.heap.get? b with
  |none=>rfl
  |some o'=>exact absurd (Ap hq) (cN.mpr hb)
 have hSlt:S<s.heap.objs.size:=Ap ho;by_cases c:(!(w.params.followText "set-order") && (!t.plain && decide (es.size > 1)))=true
 .rw[if_pos c];refine Aa (Zdb es.size (Bp es.size) _ _ (by simp) λjs d hjs=>?_);have hjl:js.length=es.size:=by simpa using hjs.length_eq
  refine Aa (BZ ?_ (by simp only[sizeOk,AV,Ab];have:(4096:Nat)<=Am:=(by decide);ext));have hS1:(s.heap.push {cls:=DP "tuple",dict:=none,data:=Data.seq (js.map λi:Nat=>Lv i).toArray}).get? S=some o:=Ag _ ho;refine Aa (V4 hS1 hd hfit ?_);refine Aa (BZ (Ad ⟨_,rfl, "set_iterator",_,⟨_,AB _ rfl,rfl⟩,UJ.lookup,?_⟩));obtain⟨fs,f1,f2⟩:=oI (es:=es.toList) js λj hj=>by simpa using hjs.mem_iff.mp hj
  have fp:fs.Perm es.toList:=by
   rw[f2];have:=hjs.filterMap (λj=>es.toList[j]?);rw[show es.size=es.toList.length by simp,uD]at this;exact this
  have hfl:fs.length=es.size:=by simpa using fp.length_eq
  have fok:IH w fs:=λe he=>hes e (fp.mem_iff.mp he);refine hQ _ d _ s.heap.objs.size (fs.map (·.2)) ⟨_,o,_,es,ep,t,AB _ rfl,rfl,rfl,Ag _ hS1,hd,hfit,by simpa using hfl,.inl ⟨_,js,_,rfl,Ag _ (AB _ rfl),rfl,?_⟩⟩ ?_ ?_ ?_ ⟨GH fs,?_,bL fok⟩
  .have:=congrArg (E4 (G5 λe:Int×Ai=>e.2)) f1;rw[Bv,Bv]at this;rw[Bv];refine Eq.trans ?_ (this.symm.trans ?_)
   .rfl
   .apply Dj;intro j hj;simp
  .rw[F8];simp only[By,AS,or_false,not_or];exact⟨EZ (Ep hSlt),Ru _⟩
  .intro b o' e;exact Ag _ (Ag _ e)
  .intro b hb;left
   rw[F8]at hb;simp only[By,AS,or_false]at hb;exact none_at b (by ext)
  .exact(fp.map _).trans hp
 .rw[if_neg c];refine Aa (Ad ?_);refine Aa (V4 ho hd hfit ?_);refine Aa (BZ (Ad ⟨_,rfl, "set_iterator",_,⟨_,AB _ rfl,rfl⟩,UJ.lookup,?_⟩))
  have side:s.heap.objs.size∉[S,S]/\(∀b∈[s.heap.objs.size,S],s.heap.get? b=none\/b=S):=by
   refine⟨by simp only[By,AS,or_false,not_or];exact⟨EZ hSlt,EZ hSlt⟩,λb hb=>?_⟩;simp only[By,AS,or_false]at hb;rcases hb with rfl|rfl
   .exact .inl (none_at _ (AJ _))
   .exact .inr rfl
  cases ft:w.params.followText "set-order" with
  |true=>
   have pp:=xA (w.params.setOrder S ep) es;have pl:(HU (w.params.setOrder S ep) es).toList.length=es.size:=by simpa using pp.length_eq
   exact hQ _ s.drawn _ S ((HU (w.params.setOrder S ep) es).toList.map (·.2)) ⟨_,o,_,es,ep,t,AB _ rfl,rfl,rfl,Ag _ ho,hd,hfit,by rw[Ab];exact pl,.inr (.inl ⟨_,_,rfl,ft,rfl⟩)⟩ side.1 (λb o' e=>Ag _ e) side.2 ⟨_,(pp.map _).trans hp,bL λe he=>hes e (pp.mem_iff.mp he)⟩
  |false=>
   have h1:es.size<=1:=by
    rcases GU 1 es.size with h|h
    .have hq:=hpl (by ext);rw[ft,hq]at c;simp at c;ext
    .exact h
   rw[ft]at hled;exact hQ _ s.drawn _ S (es.toList.map (·.2)) ⟨_,o,_,es,ep,t,AB _ rfl,rfl,rfl,Ag _ ho,hd,hfit,by simp,.inr (.inr ⟨0,rfl,ft,hled,h1,rfl,λ_=>rfl,λh=>absurd rfl h⟩)⟩ side.1 (λb o' e=>Ag _ e) side.2 ⟨_,hp,bL hes⟩
theorem wX {prog:Bq}{w:BM}{A:Cy}{E:Ai->Ar->Prop}{s:Ar}{a:Av}{o:Obj}{es:Array (Int×Ai)}{ep sl i:Nat}{t:Dl}{Q:Option (Ai×Nat)->Ar->Prop}(ho:s.heap.get? a=some o)(hd:o.data=.set es ep t)(hf:t.fits es.size=true)
  (ft:w.params.followText "set-order" = true) (h:Q (((HU (w.params.setOrder a ep) es)[i]?).map λe=>(e.2,sl)) s):Au (AA prog w) A (U8 a sl i ep) Q E s:=by
 unfold U8 Im;refine Aa (A5 ho hd hf ?_);refine Aa (Aa (Dc (Ad ?_)));have e1:(AA prog w).w.params.followText "set-order" = true:=ft;dsimp only;rw[if_pos e1];rw[if_neg (by simp)];unfold setWalk Im;refine Aa (Aa (A5 ho hd hf ?_));refine Aa (Aa (Dc (Ad ?_)));dsimp only;rw[if_pos e1];exact Aa (Dc (Ad (Ad h)))
theorem wW {prog:Bq}{w:BM}{A:Cy}{E:Ai->Ar->Prop}{s:Ar}{a:Av}{o:Obj}{es:Array (Int×Ai)}{ep sl i:Nat}{t:Dl}{Q:Option (Ai×Nat)->Ar->Prop}(ho:s.heap.get? a=some o)(hd:o.data=.set es ep t)(hf:t.fits es.size=true)
  (ft:w.params.followText "set-order" = false) (hl:t.led=true) (h1:es.size<=1) (h:Q (match es[C1 t.place sl]?,t.place[C1 t.place sl]? with | some (_,x),some j=>some (x,j+1) | _,_=>none) s):Au (AA prog w) A (U8 a sl i ep) Q E s:=by
 unfold U8 Im;refine Aa (A5 ho hd hf ?_);refine Aa (Aa (Dc (Ad ?_)));have e1:(AA prog w).w.params.followText "set-order" = false:=ft;dsimp only;rw[if_neg (by rw[e1];simp)];split
 .next hc=>
  have h':(!t.plain && decide (es.size > 1))=true:=hc;simp at h';ext
 .refine Aa ?_;show Au _ A (if (!t.led && !es.isEmpty)=true then unsupported "set:maker-not-led" else pure ()) _ E s;rw[if_neg (by rw[hl];simp)];exact Ad (Ad h)
theorem xj (xs)(j)(h:xs.size=0):C1 xs j=0:=by
 have:=JW h;subst this;rfl
theorem xk (k):C1 #[k] 0=0:=by
 simp[C1,K1]
theorem vh (k):C1 #[k] (k+1)=1:=by
 simp[C1,K1]
theorem VM {s:CV}{I:Av}{o:Obj}{vs:Array Ai}(ho:s.get? I=some o)(hc:o.cls=DP "set_iterator")(hd:o.data=Op vs)(k)(x) :
  ∃o',(s.update I (Obj.mapFields (·.setIfInBounds k x))).get? I=some o'/\o'.cls=DP "set_iterator"/\o'.data=Op (vs.setIfInBounds k x):=
 ⟨_,Ee _ ho (Obj.isFreed_of_fields (P4 hd _)),(Obj.cls_mapFields ..).trans hc,P4 hd _⟩
set_option maxHeartbeats 2000000 in
theorem su {prog:Bq}{w:BM}{A:Cy}{E:Ai->Ar->Prop}{s:Ar}{I S p i:Nat}{ord:List Ai}{Q:Option Ai->Ar->Prop}(hit:Rm w s.heap I S p i ord)(hI:I∉[S,p])(hi:i<ord.length)
  (hQ:∀h',Rm w h' I S p (i+1) ord->BH I s.heap h'->Q (some ord[i]) {s with heap:=h' }):Au (AA prog w) A (Ip (.ref I)) Q E s:=by
 obtain⟨o,so,first,es,ep,t,ho,hc,hd,hso,hsd,hf,hl,m⟩:_:=id hit;have hIS:S≠I:=λe=>hI (by simp[e]);have hIp:p≠I:=λe=>hI (by simp[e]);unfold Ip;refine Aa (wpAny_attempt (HP (name:=Ak "__next__") hit.typeIs UJ (B8 UJ hit.typeIs wY ?_ (wD _))));unfold Ek.«set_iterator.__next__»;refine Aa (Cd (a:=(AC I,[])) rfl ?_);refine Aa (cD ho hd ?_);dsimp only;refine Aa (wM hso hsd hf ?_);rw[if_neg (by simp)];rcases m with⟨po,js,c,rfl,hpo,hpd,hmap⟩|⟨sl,tk,rfl,ft,rfl⟩|⟨sl,rfl,ft,hled,h1,rfl,z0,z1⟩
 .have hjl:js.length=ord.length:=by
   have:=congrArg Es hmap;simpa using this.symm
  have hat:∃e,es[js[i]'(by ext)]? = some e/\e.2=ord[i]:=by
   have h2:=congrArg (λl:List (Option Ai)=>l[i]?) hmap;try dsimp only at h2
   rw[AH,AH,Af hi,Af (show i<js.length by ext)]at h2;simp only[GS,HX]at h2;cases q:es[js[i]'(by ext)]? with
   |none=>rw[q]at h2;cases h2
   |some e=>rw[q]at h2;exact⟨e,rfl,(A9 h2).symm⟩
  obtain⟨e,he,hev⟩:=hat
  dsimp only;refine Aa (Ni hpo hpd ?_);dsimp only
  have g1:((js.map λj:Nat=>DE j 0).toArray)[(i:Int).toNat]? = some (.int (js[i]'(by ext):Nat) 0):=by
   rw[BD,DY,AH,Af (show i<js.length by ext)];rfl
  rw[g1];dsimp only;refine Aa ?_;unfold setNextDrawn;refine Aa (A5 hso hsd hf ?_);dsimp only;rw[if_neg (by simp),BD,he];refine Ad ?_;refine Aa (Dg ho hd (by simp) (Ad ⟨_,rfl,Ad ?_⟩));rw[hev];obtain⟨o',ho',hc',hd'⟩:=VM ho hc hd 1 (Lv ((i:Int)+1));exact hQ _ ⟨o',so,_,es,ep,t,ho',hc',hd',(Ba _ _ (Bj hIS)).trans hso,hsd,hf,hl,.inl ⟨po,js,c,rfl,(Ba _ _ (Bj hIp)).trans hpo,hpd,hmap⟩⟩ (Bd ..)
 .dsimp only;refine Aa (wX hso hsd hf ft ?_);have hi':i<(HU (w.params.setOrder S ep) es).size:=by simpa using hi
  rw[BD i,BD ep,AW hi'];dsimp only[G5];refine Aa (Dg ho hd (by simp) ?_);obtain⟨o',ho',hc',hd'⟩:=VM ho hc hd 0 (Lv (sl.toNat:Int));refine Aa (Dg (s:={s with heap:=_}) ho' hd' (by simp) (Ad ⟨_,rfl,Ad ?_⟩));obtain⟨o2,ho2,hc2,hd2⟩:=VM ho' hc' hd' 1 (Lv ((i:Int)+1));have z:=hQ _ ⟨o2,so,_,es,ep,t,ho2,hc2,hd2,(Ba _ _ (Bj hIS)).trans ((Ba _ _ (Bj hIS)).trans hso),hsd,hf,hl,.inr (.inl ⟨_,_,rfl,ft,rfl⟩)⟩ ((Bd ..).trans (Bd ..));rw[Jp,NI]at z;exact z
 .dsimp only;refine Aa (wW hso hsd hf ft hled h1 ?_);have hi':i<es.size:=by simpa using hi
  have i0:i=0:=by ext
  subst i0;have e0:=z0 rfl;subst e0
  have hps:t.place.size=es.size:=by
   unfold ED at hf;simp at hf;exact hf.1
  have hs1:es.size=1:=by ext
  obtain⟨k,hk⟩:∃k,t.place=#[k]:=by
   have:t.place.toList.length=1:=by simp[hps,hs1]
   obtain⟨k,hk⟩:=MT.mp this;exact⟨k,by rw[<- H9 (xs:=t.place),hk]⟩
  rw[hk,show((0:Nat):Int).toNat=0 from rfl,xk,AW hi'];try dsimp only
  try rw[show(#[k]:Array Nat)[0]? = some k from rfl]
  try dsimp only
  refine Aa (Dg ho hd (by simp) ?_);obtain⟨o',ho',hc',hd'⟩:=VM ho hc hd 0 (Lv ((k+1:Nat):Int));refine Aa (Dg (s:={s with heap:=_}) ho' hd' (by simp) (Ad ⟨_,rfl,Ad ?_⟩));obtain⟨o2,ho2,hc2,hd2⟩:=VM ho' hc' hd' 1 (Lv (((0:Nat):Int)+1));have z:=hQ _ ⟨o2,so,_,es,ep,t,ho2,hc2,hd2,(Ba _ _ (Bj hIS)).trans ((Ba _ _ (Bj hIS)).trans hso),hsd,hf,hl,.inr (.inr ⟨k+1,rfl,ft,hled,h1,rfl,λh=>absurd h (by ext),λ_ j hj=>by rw[hk]at hj;cases hj;rfl⟩)⟩ ((Bd ..).trans (Bd ..));rw[Jp,NI]at z;exact z
theorem kC {prog:Bq}{w:BM}{A:Cy}{E:Ai->Ar->Prop}{s:Ar}{Q:Option Ai->Ar->Prop}{R:Fin->Ar->Prop}(hh:A.handled=none)
  (hQ:∀h',(∀b o,s.heap.get? b=some o->h'.get? b=some o)->Q none {s with heap:=h' }) :
  Au (AA prog w) A.in1 (do raiseNew (<- newExc (.type "StopIteration") [])) R
   (λe s'=>Au (AA prog w) A (do if <- isInstance e (.type "StopIteration")then pure none else throw e) Q E s') s:=by
 refine Aa ?_;simp only[newExc,newTuple];refine Aa (BZ ?_ (by size_fits));refine Aa (Cd (by first | rfl | (simp only[firstArgMember];rfl)) ?_);refine BZ ?_ (by size_fits);simp only[raiseNew];refine Aa (wpAny_handled ?_);rw[show A.in1.handled=none from hh];refine Aa (Ad (wpAny_throw ?_));refine Aa (HN ⟨_,AB _ rfl,rfl⟩ isSubtype_stop ?_);exact Ad (hQ _ λb o e=>Ag _ (Ag _ e))
set_option maxHeartbeats 2000000 in
theorem sr {prog:Bq}{w:BM}{A:Cy}{E:Ai->Ar->Prop}{s:Ar}{I S p:Nat}{ord:List Ai}{Q:Option Ai->Ar->Prop}(hh:A.handled=none)(hit:Rm w s.heap I S p ord.length ord)
  (hQ:∀h',(∀b o,b≠I->s.heap.get? b=some o->h'.get? b=some o)->Q none {s with heap:=h' }):Au (AA prog w) A (Ip (.ref I)) Q E s:=by
 obtain⟨o,so,first,es,ep,t,ho,hc,hd,hso,hsd,hf,hl,m⟩:_:=id hit;unfold Ip;refine Aa (wpAny_attempt (HP (name:=Ak "__next__") hit.typeIs UJ (B8 UJ hit.typeIs wY ?_ (wD _))));unfold Ek.«set_iterator.__next__»;refine Aa (Cd (a:=(AC I,[])) rfl ?_);refine Aa (cD ho hd ?_);dsimp only;refine Aa (wM hso hsd hf ?_);rw[if_neg (by simp)];rcases m with⟨po,js,c,rfl,hpo,hpd,hmap⟩|⟨sl,tk,rfl,ft,rfl⟩|⟨sl,rfl,ft,hled,h1,rfl,z0,z1⟩
 .have hjl:js.length=ord.length:=by
   have:=congrArg Es hmap;simpa using this.symm
  dsimp only;refine Aa (Ni hpo hpd ?_);dsimp only
  have g1:((js.map λj:Nat=>DE j 0).toArray)[(ord.length:Int).toNat]? = none:=by
   rw[BD,DY,AH,Bu (by ext)];rfl
  rw[g1];dsimp only;refine Aa (Dg ho hd (by simp) ?_);obtain⟨o',ho',hc',hd'⟩:=VM ho hc hd 0 (Lv 0);refine Aa (Dg (s:={s with heap:=_}) ho' hd' (by simp) ?_);exact kC hh λh' k=>hQ h' λb o hb e=>k b o ((Ba _ _ (Bj hb)).trans ((Ba _ _ (Bj hb)).trans e))
 .dsimp only;refine Aa (wX hso hsd hf ft ?_);rw[BD (Es _),BD ep,DQ (by simp)];dsimp only[G5];refine Aa (Dg ho hd (by simp) ?_);exact kC hh λh' k=>hQ h' λb o hb e=>k b o ((Ba _ _ (Bj hb)).trans e)
 .dsimp only;refine Aa (wW hso hsd hf ft hled h1 ?_)
  have hps:t.place.size=es.size:=by
   unfold ED at hf;simp at hf;exact hf.1
  have none_there:es[C1 t.place ((sl:Int)).toNat]? = none:=by
   rcases GU 0 es.size with h|h
   .have hs1:es.size=1:=by ext
    obtain⟨k,hk⟩:∃k,t.place=#[k]:=by
     have:t.place.toList.length=1:=by simp[hps,hs1]
     obtain⟨k,hk⟩:=MT.mp this;exact⟨k,by rw[<- H9 (xs:=t.place),hk]⟩
    have:=z1 (by rw[Ab,BE];ext) k (by rw[hk];rfl);subst this;rw[hk,BD,vh];exact DQ (by ext)
   .rw[xj _ _ (by ext)];exact DQ (by ext)
  rw[none_there];dsimp only;refine Aa (Dg ho hd (by simp) ?_);exact kC hh λh' k=>hQ h' λb o hb e=>k b o ((Ba _ _ (Bj hb)).trans e)
theorem wK:cM "set_iterator" "__iter__" "set_iterator.__iter__":=
 .of (owner:="set_iterator") (n:="__iter__") (by rw[IJ,FD];kernel_rfl) (by nofun) (by nofun) (by nofun)
  (by first | exact .inl (by nofun) | exact .inr (by nofun)) (by rw[cJ];kernel_rfl)
theorem Zer:KZ UZ "set_iterator.__iter__" = some Ek.«dict_keyiterator.__iter__»:=Jr (id':="dict_keyiterator.__iter__") (by kernel_rfl) rfl (by nofun) (by kernel_rfl)
theorem Zg3 (a):cL "set_iterator.__iter__" ⟨[a],[]⟩:=by
 unfold cL;rw[signature?_of (id:="set_iterator.__iter__") (n:=['_','_','r','e','t','i','_','_']) (o:=['r','o','t','a','r','e','t','i','_','t','e','s']) (by kernel_rfl) (show ON.lookup (Rs ['r','o','t','a','r','e','t','i','_','t','e','s'].reverse)=some Ki by kernel_rfl)]
 kernel_rfl
theorem WK (hh:A.handled=none)(hI:I∉[S,p]) :
  WalksS prog w A I [I,S,p] [I] (λa b=>b=a) ord.length (λi v=>ord[i]? = some v) (λi s=>Rm w s.heap I S p i ord) where
 sub:=λb hb=>by simp at hb;simp[hb]
 grefl:=λ_=>rfl
 gtrans:=λa b c h1 h2=>h2.trans h1
 frame:=λi s h' tk hst _ hk=>hst.kept hk
 item:=λi s Q E hi hst hQ=>su hst hI hi λh' hst' sb=>hQ _ _ (Af hi) hst' ⟨λb o hb e=>by rw[sb.2 b (by simpa using hb)];exact e,rfl,rfl,rfl,AJ _⟩
 done:=λs Q E hst hQ=>sr hh hst λh' hk=>hQ _ ⟨λb o hb e=>hk b o (by simpa using hb) e,rfl,rfl,rfl,AJ _⟩
 self:=λi s Q E hst hQ=>UW hst.typeIs wK (B8 wK hst.typeIs Zer (by
  show Au _ _ (ret (.ref I)) _ _ s;exact Ad ⟨_,rfl, "set_iterator",_,hst.typeIs,UJ.lookup,hQ⟩) (Zg3 _))
theorem jS:∀{vs:List Ai}{ys:List Str},K0 vs ys->vs.length=ys.length
 |_,_,.nil=>rfl
 |_,_,.cons y t h=>by simp[jS h]
theorem Zf6:splitId "set.__len__" = some ("set", "__len__"):=by kernel_rfl
theorem lx:Nj (.type "set") "__len__" = pure (some (.builtin "set.__len__")):=by rw[IJ,FD];kernel_rfl
theorem wq (hc:c=true)(h:Au M A a Q E s):Au M A (if c=true then a else b) Q E s:=by
 rw[if_pos hc];exact h
set_option maxHeartbeats 2000000 in
theorem zy (hh:A.handled=none)(hS:CS w s.heap S ks (!(w.params.followText "set-order")))
  (hQ:∀(h':CV) d tk vs ys,ys.Perm ks->K0 vs ys->(∀b o,s.heap.get? b=some o->h'.get? b=some o)->Q vs {s with heap:=h',drawn:=d,toks:=tk}) :
  Au (AA prog w) A (collect (.ref S)) Q E s:=by
 have hSlt:S<s.heap.objs.size:=by obtain⟨o,es,ep,t,ho,-⟩:=hS;exact Ap ho
 unfold collect;refine Aa (cC (Dz F.entry_proto_collect ?_));rw[CQ F.plain_proto_collect _];show Au _ A.in1 (PX [] >>= λl=>Nu (.builtin "list.__iadd__" ⟨[l,.ref S],[]⟩)) _ _ s;refine Aa (BZ ?_);refine Ad ⟨FR F.plain_list_iadd _,Dz F.entry_list_iadd ?_⟩;rw[CQ F.plain_list_iadd _];show Au _ A.in1 (Fc (.ref s.heap.objs.size) (.ref S) (.ref s.heap.objs.size)) _ _ _
 have hS1:CS w (s.heap.push {cls:=.type "list",data:=.seq ([]:List Ai).toArray}) S ks (!(w.params.followText "set-order")):=by
  obtain⟨o,es,ep,t,ho,C6⟩:=hS;exact⟨o,es,ep,t,Ag _ ho,C6⟩
 have hL:(s.heap.push {cls:=.type "list",data:=.seq ([]:List Ai).toArray}).get? s.heap.objs.size=some {cls:=.type "list",data:=.seq ([]:List Ai).toArray}:=AB _ rfl
 have hT:Rt {s with heap:=s.heap.push {cls:=.type "list",data:=.seq ([]:List Ai).toArray} } (.ref S) "set":=by
  obtain⟨o,es,ep,t,ho,hex,-⟩:_:=hS1;exact⟨o,ho,hex.1⟩
 unfold Fc;refine Aa (Fj hT ?_)
 rw [if_neg (by
  have:JL (.ref s.heap.objs.size) (.ref S)=false:=by simp[JL,EZ hSlt]
  rw [this];decide)]
 refine Aa (z8 hS1 λh' d I p ord hit hIn hk hfr hord=>?_)
 have hT':Rt {s with heap:=h',drawn:=d} (.ref S) "set":=by
  obtain⟨o,ho,hc⟩:=hT;exact⟨o,hk _ _ ho,hc⟩
 refine Aa (BV ?_);unfold Zk;refine Aa (YR hT' lx ?_);dsimp only;rw[Zf6];dsimp only;refine Aa (HN hT' KP ?_);rw[if_neg (by decide)];refine wq (by kernel_rfl) ?_
 .refine Aa (Fj hT' (Ad ?_))
  show Au _ A.in1 (Ro "list.extend.makes-room" >>= λ_=>Zj (.ref s.heap.objs.size) >>= λ_ =>
   Nu (.builtin "list.extend.loop" ⟨[.ref s.heap.objs.size,.ref I,.ref s.heap.objs.size],[]⟩)) _ _ _
  refine Aa (GP ?_);have hL1:=hk _ _ hL;refine Aa ?_;show Au _ A.in1 (updateSeq s.heap.objs.size (·.push .none) >>= λ_=>updateSeq s.heap.objs.size (·.pop)) _ _ _;refine Aa (YQ hL1 rfl ?_);have hL2:=Ee (Hw (·.push F0)) hL1 rfl;refine YQ hL2 rfl ?_;have hL3:=Ee (Hw (·.pop)) hL2 rfl
  have hnot:∀b∈[I,p],s.heap.objs.size≠b:=λb hb e=>by
   rcases hfr b hb with h|h
   .rw[<- e]at h;rw[hL]at h;cases h
   .rw[h]at e;exact EZ hSlt e
  have hLn:s.heap.objs.size∉[I,S,p]:=by
   simp only[By,AS,or_false,not_or];exact⟨hnot I (by simp),EZ hSlt,hnot p (by simp)⟩
  have oth:∀b o,b≠s.heap.objs.size->h'.get? b=some o->((h'.update s.heap.objs.size (Hw (·.push F0))).update s.heap.objs.size (Hw (·.pop))).get? b=some o:=
   λb o hb e=>(Ba _ _ (Bj hb)).trans ((Ba _ _ (Bj hb)).trans e)
  obtain⟨ys,hy1,hy2⟩:=hord
  have hol:ord.length<=Am:=by
   obtain⟨o,es,ep,t,ho,hex,hd,hes,hp,hsz,-⟩:_:=hS;have l1:=hy1.length_eq;have l2:=hp.length_eq;have l3:(GH es.toList).length=es.size:=by unfold GH;rw[Ab,BE]
   have l4:=(jS hy2).symm;have:Bg<=Am:=by decide
   ext
  refine Ad ⟨FR F.plain_extend_loop _,codeAny_extend_loopS (WK (by simp[hh]) hIn) ?_ _ hLn _ ord.length 0 _ _ _ rfl (Ef _) (hit.kept λb hb o e=>?_) hL3 (ItemsOf.nil _) λs' acc' c' hm hS' hacc=>?_⟩
  .exact hol
  .exact oth b o (λh=>hLn (h ▸ hb)) e
  .show Au _ A (load s.heap.objs.size >>= _) _ _ s';refine Aa (wpAny_load hS' ?_)
   have e:acc'.toList=ord:=by
    apply Fp;intro j;rcases GU j acc'.size with h|h
    .rw[C2,AW h];exact(hacc.2 j _ (AW h)).symm
    .rw[Bu (by simpa using h),Bu (by rw[<- hacc.1];exact h)]
   obtain⟨h2,g2,d2,tk2,os2⟩:=s';have eg:=hm.gens;have ed:d2=d:=hm.drawn;have eo:os2=s.os:=hm.os;subst eg;subst ed;subst eo;refine Ad ?_;rw[e];refine hQ h2 d2 tk2 ord ys hy1 hy2 λb o e=>?_;have hb:=A6 (Ap e);refine hm.heap b o ?_ (oth b o hb (hk b o (Ag _ e)));simp only[By,AS,or_false,not_or];refine⟨hb,λe2=>?_⟩;rcases hfr I (by simp)with h|h
   .rw[<- e2,Ag _ e]at h;cases h
   .exact hIn (by simp[h])
theorem vS (hh:A.handled=none)(hS:CS w s.heap S ks (!(w.params.followText "set-order")))(h64:ks.length<64)
  (hQ:∀(h':CV) d tk (L:Av) (out:List Ai) (c:Nat) (ys:List Str),s.heap.get? L=none->S<L->h'.get? L=some (seqObj "list" out.toArray c)->K0 out ys->ys.Perm ks->KQ ys=true->(∀b o,s.heap.get? b=some o->h'.get? b=some o)->Q (.ref L) {s with heap:=h',drawn:=d,toks:=tk}) :
  Au (AA prog w) A (Ir (.builtin "sorted") [.ref S]) Q E s:=by
 refine Calls.call_function_entry kind_sorted plain_sorted entry_sorted (args_sorted1 _) ?_;unfold Ek.«sorted»;refine Aa (Ad ?_);refine Aa (zy (by simp[hh]) hS λh1 d tk vs ys hy1 hy2 hk=>?_)
 have hvl:vs.length<64:=by
  have l1:=jS hy2;have l2:=hy1.length_eq;ext
 have hSL:S<h1.objs.size:=by
  obtain⟨o,es,ep,t,ho,-⟩:=hS;exact Ap (hk _ _ ho)
 refine Aa (wpAny_newList ?_);have hoL:(h1.push (seqObj "list" vs.toArray 0)).get? h1.objs.size=some (seqObj "list" vs.toArray 0):=AB _ rfl
 have hfresh:s.heap.get? h1.objs.size=none:=by
  cases hq:s.heap.get? h1.objs.size with
  |none=>rfl
  |some o=>exact absurd (Ap (hk _ _ hq)) (EQ _)
 refine Aa (BV (B8 slot_list_sort ⟨_,hoL,rfl⟩ entry_list_sort (list_sort_treeK strKind_oneLt hoL hy2.keysOf (λv₁ v₂ C6 e=>keyKind_strs (by rw[<- e];exact hy2)) hvl λst' a1 a2=>⟨_,rfl,?_⟩) (args_list_sort _)));obtain⟨ss',b1,b2,b3⟩:=sorted_out_str hy2 a1 a2;obtain⟨c,hc⟩:=sortedHeap_at hoL;refine Ad ⟨_,rfl,hQ _ d tk _ _ c ss' hfresh hSL (by rw[H9];exact hc) b1 (b2.trans hy1) b3 λb o e=>?_⟩;have hlt:=Ap (hk _ _ e);rw[sortedHeap_old (A6 hlt) (by rw[size_push'];exact Ep hlt),Heap.get?_push_ne _ _ _ (A6 hlt)];exact hk _ _ e
section
theorem A4.draw (I:A4 X Ae U H s)(d:Drawn):A4 X Ae U H {s with drawn:=d}:=
 ⟨I.ok,I.os,I.bare,I.base,I.loc,I.cell,I.free,I.freeC,I.pin,I.hok,I.len,I.fzd⟩
theorem bQ:∀{vs:List Ai}{ys:List Str},K0 vs ys->BF (ys.map V.str) vs
 |_,_,.nil=>.nil
 |_,_,.cons y t h=>.cons ⟨t,rfl⟩ (bQ h)
def mX (K:Ac)(Q:VK)(x:V)(H1:Hp):Prop:=
 ∃p xs,x=.ref p/\FH K H1 p (xs.map V.str)/\xs.length+1<Bg/\(fm xs).length<64/\∀l ys,H1 l=none->ys.Perm (fm xs)->KQ ys=true->Q (.ref l) (CA H1 l (.lst (ys.map V.str)))
def xN (K:Ac)(ta:TE):TE:=λU H Q=>ta U H (mX K Q)
theorem ZgC (hc:X.calm=true)(ha:PE X e ta)(hm1:X.mg "sorted" = none)(hm2:X.mg "set" = none)(hg1:Gl X "sorted":=by rfl)(hg2:Gl X "set":=by rfl)
  (he:As [e] X.env=(false,eval e X.env)::As [] X.env:=by rfl) :
  PE X (.Call (.Name "sorted" p1) [.Call (.Name "set" p2) [e] [] pos2] [] pos) (xN X.K ta):=by
 intro Ae s U H Q I h;refine Cm (PK I hg1 hm1 rfl ?_);refine EU ?_ rfl rfl;show Au _ _ (U0 ((false,eval (.Call (.Name "set" p2) [e] [] pos2) X.env)::Cc pos (As [] X.env))) _ _ s;refine IW ?_;refine Cm (PK I hg2 hm2 rfl ?_);refine BB (Dp (aB ha ZW he pos2 Ae s U H (λvs H1=>match vs with | [x]=>mX X.K Q x H1 | _=>False) I h) λus s1 e=>e.el λvs H1 I1 r1 q1=>?_) he rfl
 match vs,r1,q1 with
 |[x],r1,⟨p,xs,hx,hs,hz,h64,q⟩=>
  subst hx;obtain⟨u,rfl,ru⟩:=G8 r1;cases(show u=AC p from ru);obtain⟨Bk,rv,pl,hzz⟩:=I1.list hs
  have hl:xs.length=Bk.toArray.size:=by
   have:=rv.length;simpa using this
  refine jW (I1.ok.hd hc) pl.isList hl (λi v hi hv=>?_) (by ext) λh2 tk2 hS hk2=>?_
  .obtain⟨u,hu,ru⟩:=rv.get (by rw[AH,Af hi];rfl);rw[DY]at hv;rw[hu]at hv;cases hv;exact ru
  .refine Jt ?_;refine vS (I1.ok.hd hc) hS h64 λh3 d tk3 L out c ys hf hSL hL hst hp hsrt hk3=>?_;refine⟨.ref L,_,((I1.draw d).laid (o:=.lst (ys.map V.str)) (λb u eb=>hk3 b u (hk2 b u eb)) (Fn hSL) ⟨?_,out,c,bQ hst,hL⟩),rfl,q L ys ?_ hp hsrt⟩
   .rw[Ab,hp.length_eq];have:(64:Nat)<=Am:=by decide
    ext
   .exact I1.hok.fresh (Fn hSL)
end
noncomputable def O0 (a b:Str):Bool:=!ltCps b.cps.toList a.cps.toList
noncomputable def Iz (xs:List Str):List Str:=(fm xs).mergeSort O0
theorem Uy :O0 a b=true↔a.cps.toList<=b.cps.toList:=by
 unfold O0;rw[ltCps_eq];simp
theorem UG (a b c:Str)(h1:O0 a b=true)(h2:O0 b c=true):O0 a c=true:=Uy.mpr (List.le_trans (Uy.mp h1) (Uy.mp h2))
theorem VW (a b:Str):(O0 a b || O0 b a)=true:=by
 rcases List.le_total a.cps.toList b.cps.toList with h|h
 .rw[Uy.mpr h];rfl
 .rw[Uy.mpr h,Vl]
theorem aS (h1:O0 a b=true)(h2:O0 b a=true):a=b:=by
 have e:=List.le_antisymm (Uy.mp h1) (Uy.mp h2);cases a;cases b;simpa using e
theorem uF:∀r x,risingS x r=true->(x::r).Pairwise (λa b=>O0 a b=true)
 |[],x,_=>by simp
 |y::r,x,h=>by
  unfold risingS at h;rw[BI]at h;have ih:=uF r y h.2;rw[Po]at ih ⊢;refine⟨λb hb=>?_,Po.mpr ih⟩;rcases A3.mp hb with rfl|hb
  .exact h.1
  .exact UG x y b h.1 (ih.1 b hb)
theorem uH:∀l,KQ l=true->l.Pairwise (λa b=>O0 a b=true)
 |[],_=>.nil
 |x::r,h=>uF r x h
theorem sY (h1:ys.Perm (fm xs))(h2:KQ ys=true):ys=Iz xs:=
 GW (λa b _ _ p q=>aS p q) (uH _ h2) (Dh UG VW _) (h1.trans (DX _ _).symm)
theorem jL (xs):(Iz xs).length=(fm xs).length:=(DX _ _).length_eq
section
theorem ats_strs :∀{vs:List V}{ss:List Str},Dq Z vs (ss.map D.str)->vs=ss.map V.str
 |[],[],_=>rfl
 |v::vs,s::ss,.cons h t=>by
  cases(show v=V.str s from h);rw[ats_strs t];rfl
theorem Yx :∀(ss:List Str),Dq Z (ss.map V.str) (ss.map D.str)
 |[]=>.nil
 |s::ss=>.cons rfl (Yx ss)
unseal BY
def mE (ta:DV):DV:=λτ M Q=>ta τ M λx M1=>Ck (Bf M1 x) λds=>Ck (Ev ds) λxs=>xs.length+1<Bg/\(fm xs).length<64/\∀p,M1 p=none->Q (.ref p) (put M1 p (.lst ((Iz xs).map D.str)))
theorem mP (hc:X.calm=true)(hm1:X.mg "sorted" = none)(hm2:X.mg "set" = none)(ha:BY X e ta)(hg1:Gl X "sorted":=by rfl)(hg2:Gl X "set":=by rfl)
  (he:As [e] X.env=(false,eval e X.env)::As [] X.env:=by rfl):BY X (.Call (.Name "sorted" p1) [.Call (.Name "set" p2) [e] [] pos2] [] pos) (mE ta):=PE.mono (ZgC hc ha hm1 hm2 hg1 hg2 he) (by
 intro U H Q;ext1⟨Z,τ,M,Q2,st,hr,h,k⟩;refine ⟨Z,τ,M,_,st,hr,h,λZ1 v d H1 M1 l1 h1 a1 q1=>?_⟩;obtain ⟨ds,e1,q2⟩:=Ci q1;obtain ⟨xs,e2,hz,h64,q3⟩:=Ci q2;obtain ⟨p,vs,rfl,hs,a2⟩:=h1.rdL e1 a1;have e3:=VX e2;subst e3;have e4:=ats_strs a2;subst e4;refine ⟨p,xs,rfl,hs,hz,h64,λl ys hl hp hq=>?_⟩;rw [sY hp hq];exact (k.le l1).l h1 hl (Yx _) q3)
unseal EK
def Qk (K:Ac):V->List V->Hp->VK->Prop:=λx vs H Q=>∃l b xs zs,x=.ref l/\vs=[.ref b]/\H l=some (.lst xs)/\FH K H b zs/\xs.length+zs.length<=Am/\Q .non (CA H l (.lst (xs++zs)))
theorem yv:YK X "list.extend" (Qk X.K):=by
 intro Ae s U H x vs v us Q I rx rv;ext1⟨l,b,xs,zs,e1',e2',hH,hB,hz,q⟩;cases rx;obtain⟨u,rfl,ru⟩:=rv.one;cases ru;obtain⟨z,Bk,n,r,hl,e⟩:=I.lstM hH;obtain⟨its2,r2,⟨o2,n2,e2,c2,d2,s2⟩,z2⟩:=I.list hB;have hl2:=r2.length;refine B8 F.slot_list_extend ⟨_,e,rfl⟩ F.entry_list_extend ?_ (F.args_list_extend_2 _ _);unfold Ek.«list.extend»;refine Aa (Cd rfl ?_);dsimp only;unfold Fc;refine Aa (Fj ⟨o2,e2,c2⟩ ?_);rw[if_pos (by simp)];refine Aa (listItems_at e2 s2 ?_);refine Aa (listItems_at e rfl ?_);have hsz:Bk.toArray.size+its2.toArray.size<=Am:=by rw[AV,AV];ext
 rw[if_neg (by rw[Qq hsz,DJ];exact Al)];refine Aa (listUpdate_at e rfl ?_ (by rw[AV];ext) (by simp only[L6];ext));refine Ad ⟨_,rfl,.non,_,I.lset hH e (by simp) (r.append r2) ?_,rfl,q⟩;rw[Aq];ext
def F9:D->List D->Mp->El->Prop:=λx xs M Q=>JO x λp=>GG xs λy=>match M p with
 |some (.lst ys)=>Ck (Bf M y) λzs=>ys.length+zs.length<=Am/\Q .non (put M p (.lst (ys++zs)))
 |_=>False
theorem Se:EK X "list.extend" F9:=Nh.mono yv (by
 intro x xs H Q;ext1⟨Z,d,ds,M,Q2,hr,a,as,h,k⟩;obtain⟨p,rfl,h1⟩:=Ib h;obtain⟨y,rfl,h2⟩:=Hk h1;cases(show x=V.ref p from a);obtain⟨v,rfl,av⟩:=IF as;split at h2
 .next ys e=>
  obtain⟨zs,e2,hl,q⟩:=Ci h2;obtain⟨vs,r,a2⟩:=hr.rdM e;obtain⟨b,ws,rfl,hs,a3⟩:=hr.rdL e2 av;refine⟨p,b,vs,ws,rfl,rfl,r,hs,by rw[a2.length,a3.length];exact hl,?_⟩;exact k Z .non .non _ _ (Le.refl _) (hr.chgL e (a2.append a3)) rfl q
 .exact h2.elim)
end
end L2
namespace L3
open PySem PySem.Spec PyProof.Rows L2
noncomputable def mergeK (AQ more:List (B4×V)):List (B4×V):=more.foldl (λacc kv=>putK acc kv.1 kv.2) AQ
noncomputable def IC (AQ more:List (B4×D)):List (B4×D):=more.foldl (λacc kv=>Hj acc kv.1 kv.2) AQ
theorem sD:∀{more:List (B4×V)}{ms:List (B4×Ai)},KV more ms->∀{AQ:List (B4×V)}{vs:List (B4×Ai)},KV AQ vs->KV (mergeK AQ more) (Jo vs ms)
 |_,_,.nil,_,_,r=>r
 |_,_,.cons (a:=p) (b:=q) h t,AQ,vs,r=>by
  have e:stored vs q.1 q.2=stored vs p.1 q.2:=by rw[h.1]
  have:=sD t (r.put p.1 h.2);unfold Jo at this ⊢;rw[DL,e];exact this
theorem vD:∀(more AQ:List (B4×V)),(mergeK AQ more).length<=AQ.length+more.length
 |[],AQ=>AJ _
 |m::more,AQ=>by
  have h1:=vD more (putK AQ m.1 m.2);have h2:=bF AQ m.1 m.2;unfold mergeK at h1 ⊢;rw[DL,AO];ext
theorem uZ :∀{more:List (B4×V)}{ms:List (B4×D)},Cq Z more ms->∀{AQ:List (B4×V)}{vs:List (B4×D)},Cq Z AQ vs->Cq Z (mergeK AQ more) (IC vs ms)
 |_,_,.nil,_,_,r=>r
 |_,_,.cons (a:=p) (b:=q) h t,AQ,vs,r=>by
  have:=uZ t (r.put (k:=p.1) h.2);unfold mergeK IC at this ⊢;rw[DL,DL,<- h.1];exact this
section
end
section
unseal EK
unseal BY Gc
end
end L3
namespace PySem
open Sem (wp)
section
variable {prog:Bq}{w:BM}{K:Type}[DecidableEq K]{knd:KeyKind prog w K}{A:Cy}  {s:Ar}
end
end PySem
namespace L2
open PySem PySem.Spec PyProof.Rows L3
section
end
end L2
namespace L3
open PySem PySem.Spec PyProof.Rows L2
noncomputable def GZ (AQ:List (B4×D)):List D:=AQ.map λkv=>.tup [kD kv.1,kv.2]
section
variable {X:Cx}
unseal BY
unseal Dd
def Qa (j:Nat)(t:Ht):Ht:=λE τ M=>Ck (τ[j]?).join λd=>JO d λp=>match M p with
 |some (.lst ds)=>t E (τ.set j (some (.lst ds))) (JA M p)
 |_=>False
theorem VR (j)(h:Dd X body t):Dd X body (Qa j t):=KL.mono h (by
 intro D U H;ext1⟨Z,τ,M,D2,st,hr,h,er⟩;obtain⟨d,e,q0⟩:=Ci h;obtain⟨p,ed,q⟩:=Ib q0;subst ed;obtain⟨v,e1,a⟩:=st.get (ET.mp e);cases(show v=.ref p from a);cases e2:M p with
 |none=>rw[e2]at q;exact q.elim
 |some o=>
  cases o with
  |dic ds=>rw[e2]at q;exact q.elim
  |dct ds=>rw[e2]at q;exact q.elim
  |obj C fs=>rw[e2]at q;exact q.elim
  |lst AQ=>
   rw[e2]at q;have q':=q;have st2:=(st.mono (Le.ext)).set (d:=.lst AQ) ⟨p,rfl,.inr ⟨rfl,rfl⟩⟩ j
   have e3:U.set j (some (.ref p))=U:=by
    apply Fp;intro i;rw[P6];by_cases hij:j=i
    .subst hij;obtain⟨hj,ej⟩:=Ah.mp e1;simp[hj,ej]
    .simp[hij]
   rw [e3] at st2;exact ⟨_,_,_,D2,st2,hr.frzL e2,q',er.le Le.ext⟩)
section
def NK (wi:Ng)(n:Nat)(caps:List (Str×Nat))(tt:KH)(te:DV):DV:=λτ M Q=>wi τ M λxs S M1=>Lp n xs S caps tt te τ M1 λys M2=>∀p,M2 p=none->Q (.ref p) (put M2 p (.lst ys))
theorem Uf {K:Ac}(ht:∀U H Q,lT K tt U H Q->tt1 U H Q):∀U H Q,lE K (NK wi n caps tt te) U H Q->NN (lI K wi) n caps tt1 (lE K te) K U H Q:=by
 intro U H Q;ext1⟨Z,τ,M,Q2,st,hr,h,k⟩;exact xp st hr h ht λZ1 H1 M1 vs ds l1 h1 a1 q p hp=>(k.le l1).l h1 hp a1 q
unseal Ho
theorem T6 (B:Kw X scope x ns caps)(hc:X.calm=true)(hi:Ho X (.Tuple tes tk px) iter wi)(he:∀cl C fp pn s H,BY (GL X scope cl C (x::(ns++caps.map (·.1))) fp pn s H) elt te)
  (hg:∀cl C fp pn s H,Tk (GL X scope cl C (x::(ns++caps.map (·.1))) fp pn s H) tes (Go (Bp (ns.length+1)))) (hgn:∀cl C fp pn s H,(CT tes (GL X scope cl C (x::(ns++caps.map (·.1))) fp pn s H).env).length=ns.length+1:=by intros;rfl) (hgf:∀cl C fp pn s H,Me (λy=>y.1) (CT tes (GL X scope cl C (x::(ns++caps.map (·.1))) fp pn s H).env)=none:=by intros;rfl)
  (hs:∀x,Bw iter X.env x=pure x:=by intro _;rfl):BY X (.ListComp elt [⟨.Tuple tes tk px,iter,[],0⟩] scope pos) (NK wi (ns.length+1) caps GC te):=PE.mono (ri (te:=lE X.K te) B hc hi he (λ_ _ _ _ _ _=>HE.nil) hg hgn hgf hs) (Uf Lm)
end
end
end L3
namespace PySem
open Sem (wp)
theorem ρ:Nj (.type "list") "keys" = pure none:=by rw[IJ,FD];kernel_rfl
section
theorem va (hx:s.heap.get? a=some {cls:=.type "list",dict:=none,data:=.seq xs k,slots:=sl})(hA:A.handled=none)
  (h:∀h' tk,(∀b u,s.heap.get? b=some u->h'.get? b=some u)->Q none {s with heap:=h',toks:=tk}):Au (AA prog w) A (getAttr? (.ref a) "keys") Q E s:=by
 obtain⟨hp,g,d,tk,os⟩:=s;have hT:∀tk',(⟨hp,g,d,tk',os⟩:Ar).TypeIs (.ref a) "list":=λ_=>⟨_,hx,rfl⟩;have f1:=sub_AttributeError;have f3:=F.slot_list_getattribute.lookup;have f4:=F.slot_list_getattribute.bind (.ref a);have f5:=am_list_getattr_none;unfold getAttr? getAttrBy? getAttrBy
 repeat (any_goals (first | assumption | exact hT _ | ((with_reducible show Au _ _ (Ir (Value.builtin "list.__getattribute__") _ _) _ _ _);refine Iq F.slot_list_getattribute (hT _) am_entry_list_getattribute (F.args_list_getattribute_2 _ _) (meets_getattribute_miss_list a xs k sl "keys" _ ρ (by nofun) (by nofun)) ⟨hx,hA,λh' tk' e hx'=>?_⟩) | wp_step))
 obtain⟨t',u',he⟩:=hx'.there;show Au _ _ (Tu _ _ _ _ _ _ _) _ _ _;unfold Tu
 repeat (any_goals (first | assumption | wp_step))
 exact h _ _ hx'.keeps
end
theorem xB:KZ UZ "dict.update.loop" = some Ek.«dict.update.loop»:=Wh (by kernel_rfl)
theorem bY:plainId "dict.update.loop" = true:=by nofun
section
variable {prog:Bq}{w:BM}{K:Type}[DecidableEq K]{knd:KeyKind prog w K}
def L0 (knd:KeyKind prog w K)(h:CV)(v:Ai)(k:K)(x:Ai):Prop:=∃a key o n,v=.ref a/\knd.is k key=true/\h.get? a=some o/\o.cls=.type "tuple"/\o.data=.seq #[key,x] n
theorem zo {AQ:List (K×Ai)}(h:AQ[i]? = some p):Jo [] (AQ.take (i+1))=stored (Jo [] (AQ.take i)) p.1 p.2:=merged_take_succ [] AQ i p h
theorem ut {d it l:Av}{lo:Nat}{items:Array Ai}{pairs:List (K×Ai)}{R:TB->Ar->Prop}(hh:A.handled=none)(hlen:items.size=pairs.length)(hsz:pairs.length<=Am)(hdl:lo<=d)(hil:lo<=it)(hne:d≠it)(hl:l<lo)
  (hp:∀(i:Nat) v,items[i]? = some v->∃a,v=.ref a/\a<lo) (res:Ai) :
  ∀k i s tk0,pairs.length-i=k->i<=pairs.length->s.heap.IsListIter it l i->s.heap.IsList l items->s.heap.DictOf knd d (Jo [] (pairs.take i)) ->
   (∀(j:Nat) v p,items[j]? = some v->pairs[j]? = some p->L0 knd s.heap v p.1 p.2) ->
   (∀h' tk,(∀b o,b<lo->s.heap.get? b=some o->h'.get? b=some o)->h'.DictOf knd d (Jo [] pairs)->R (.ok (.ret res)) {s with heap:=h',toks:=tk}) ->
   DU (AA prog w) A (.builtin "dict.update.loop" ⟨[.ref d,.ref it,.int (i:Int) tk0,res],[]⟩) R s:=by
 have nd:∀b,b<lo->b≠d:=λb h=>A6 (Bl h hdl);have ni:∀b,b<lo->b≠it:=λb h=>A6 (Bl h hil);intro k;induction k with
 |zero=>
  intro i s tk0 hk hi hit hls hd hpr hR;have hin:i=pairs.length:=by ext
  subst hin;refine Dz xB ?_;rw[CQ bY _];show Au _ A.in1 (Ip (.ref it) >>= _) _ _ s;refine Aa (QS hh hit hls (by rw[<- hlen];simp) λh' he'=>?_);rw[Bc]at hd;obtain⟨o,es,ep,ho,C6⟩:=hd;show Au _ _ (Zo d [] >>= _) _ _ _;exact Aa (Ad (Ad (hR h' s.toks (λb o hb e=>he' b o (ni b hb) e) ⟨o,es,ep,he' d o hne ho,C6⟩)))
 |succ k ih=>
  intro i s tk0 hk hi hit hls hd hpr hR;have hlt:i<pairs.length:=by ext
  have hlt':i<items.size:=by ext
  refine Dz xB ?_;rw[CQ bY _];show Au _ A.in1 (Ip (.ref it) >>= _) _ _ s;refine Aa (PN hit hls (AW hlt') λh1 hit1 sb=>?_);obtain⟨a,key,o,n,ev,hkey,ho,hoc,hod⟩:_:=hpr i _ _ (AW hlt') (Af hlt)
  have hal:a<lo:=by
   obtain⟨a',e',hl'⟩:=hp i _ (AW hlt');rw[ev]at e';cases e';exact hl'
  have ho1:=(sb.2 a (ni a hal)).trans ho
  have hd1:h1.DictOf knd d (Jo [] (pairs.take i)):=by
   obtain⟨o,es,ep,ho,C6⟩:=hd;exact⟨o,es,ep,(sb.2 d hne).trans ho,C6⟩
  have hml:(Jo [] (pairs.take i)).length<=Am:=by
   have e1:=merged_length_le ([]:List (K×Ai)) (pairs.take i);rw[AY,E9]at e1;ext
  rw[ev];dsimp only;refine Aa (BV ?_);refine Aa (wpAny_tryCatch ?_);unfold Zm;refine Aa (Fj ⟨o,ho1,hoc⟩ ?_);rw[if_pos (by decide)];refine Aa (Ni ho1 hod (Ad ?_));show Au _ _ (Gy [key,pairs[i].2] (dictSet d key pairs[i].2)) _ _ _;refine BV (wpAny_dictSet_pairs hkey hd1 λh2 hd2 sb2=>?_);refine Ad ⟨FR bY _,?_⟩;have ec:(i:Int)+1=((i+1:Nat):Int):=by ext
  show DU _ _ (.builtin "dict.update.loop" ⟨[.ref d,.ref it,.int ((i:Int)+1) 0,res],[]⟩) _ _;rw[ec];have keep:∀b o,b<lo->s.heap.get? b=some o->h2.get? b=some o:=λb o hb e=>(sb2.2 b (nd b hb)).trans ((sb.2 b (ni b hb)).trans e);refine ih (i+1) _ 0 (by ext) hlt ?_ ?_ ?_ ?_ λh' tk hk' hd'=>hR h' tk (λb o hb e=>hk' b o hb (keep b o hb e)) hd'
  .obtain⟨oi,hoi,r⟩:=hit1;exact⟨oi,(sb2.2 it (Bj hne)).trans hoi,r⟩
  .obtain⟨ol,hol,r⟩:=hls;exact⟨ol,keep l ol hl hol,r⟩
  .rw[zo (Af hlt)];exact hd2
  .intro j v p hv hj;obtain⟨a',key',o',n',e1',r1,r2,r3⟩:_:=hpr j v p hv hj;obtain⟨a2,e2,hl2⟩:=hp j _ hv;cases e2;exact⟨a',key',o',n',rfl,r1,keep a' o' hl2 r2,r3⟩
theorem ur {s:Ar}{l:Av}{items:Array Ai}{n:Nat}{sl:Array (Option Ai)}{pairs:List (K×Ai)}{Q:Ai->Ar->Prop}(hh:A.handled=none)(hx:s.heap.get? l=some {cls:=.type "list",dict:=none,data:=.seq items n,slots:=sl})(hlen:items.size=pairs.length)(hsz:pairs.length<=Am)
  (hpr:∀(j:Nat) v p,items[j]? = some v->pairs[j]? = some p->L0 knd s.heap v p.1 p.2)
  (hQ:∀h' tk,(∀b o,s.heap.get? b=some o->h'.get? b=some o)->h'.DictOf knd s.heap.objs.size (Jo [] pairs)->Q (.ref s.heap.objs.size) {s with heap:=h',toks:=tk}) :
  Au (AA prog w) A (Ir (.type "dict") [.ref l]) Q E s:=by
 refine callType_codes (Q₁:=λobj s₁=>obj=.ref s.heap.objs.size/\s₁={s with heap:=s.heap.push {cls:=.type "dict",data:=.dict #[]} }) F.kt_called_dict (F.kt_typeCall_dict_1 _) F.entry_dict_init (kt_code_dict_new _ ⟨rfl,rfl⟩) ?_;rintro obj s₁ ⟨rfl,rfl⟩;have hnew:(s.heap.push {cls:=.type "dict",data:=.dict #[]}).DictOf knd s.heap.objs.size []:=MW s.heap;have hx':(s.heap.push {cls:=.type "dict",data:=.dict #[]}).get? l=some {cls:=.type "list",dict:=none,data:=.seq items n,slots:=sl}:=Ag _ hx;have hll:=Ap hx;refine⟨hnew.typeIs,F.args_dict_init_2 _ _,?_⟩;unfold Ek.«dict.__init__»;refine Aa ?_;unfold Zl;refine Aa (QU hnew.typeIs ?_);show Au _ _ (pure (s.heap.objs.size,[AC l])) _ _ _;refine Ad ?_;show Au _ _ (JV "dict.__init__" s.heap.objs.size (.ref l) [] .none) _ _ _;unfold JV;refine Aa (Fj (T:="list") ⟨_,hx',rfl⟩ ?_);rw[if_pos (by decide)];refine Aa (va hx' hh λh1 tk1 k1=>?_);simp only[Option.isNone_none,if_true];refine Aa (GP ?_);have hl1:=k1 _ _ hx';refine Aa (Hq (items:=items) ⟨_,hl1,rfl,n,rfl⟩ ?_);have kk:∀b o,s.heap.get? b=some o->(h1.push {cls:=.type "list_iterator",data:=.fields #[.ref l,.int 0 0]}).get? b=some o:=λb o e=>Ag _ (k1 b o (Ag _ e))
 have hds:s.heap.objs.size<h1.objs.size:=by
  obtain⟨o,_,_,ho,_⟩:=hnew;exact Ap (k1 _ _ ho)
 have hls:(h1.push {cls:=.type "list_iterator",data:=.fields #[.ref l,.int 0 0]}).IsList l items:=⟨_,Ag _ hl1,rfl,n,rfl⟩;have hit:(h1.push {cls:=.type "list_iterator",data:=.fields #[.ref l,.int 0 0]}).IsListIter h1.objs.size l 0:=⟨_,AB _ rfl,rfl,rfl⟩;refine Ad ⟨FR bY _,?_⟩;refine ut (A:=A.in1) (knd:=knd) (lo:=s.heap.objs.size) (pairs:=pairs) hh hlen hsz (AJ _) (Fn hds) (A6 hds) hll (λi v hv=>?_) .none pairs.length 0 {s with heap:=h1.push {cls:=.type "list_iterator",data:=.fields #[.ref l,.int 0 0]},toks:=tk1} 0 rfl (Ef _) hit hls ?_ ?_ λh' tk hk hd=>?_
 .have hi:i<pairs.length:=by
   rw[<- hlen];exact(F3.mp hv).1
  obtain⟨a,key,o,n',e1',_,ho,_⟩:_:=hpr i v _ hv (Af hi);exact⟨a,rfl,Ap ho⟩
 .obtain⟨o,es,ep,ho,C6⟩:=hnew;exact⟨o,es,ep,Ag _ (k1 _ _ ho),C6⟩
 .intro j v p hv hj;obtain⟨a,key,o,n',e1',r1,ho,r2⟩:_:=hpr j v p hv hj;exact⟨a,key,o,n',rfl,r1,kk a o ho,r2⟩
 .exact⟨rfl,hQ h' tk (λb o e=>hk b o (Ap e) (kk b o e)) hd⟩
end
end PySem
namespace L3
open PySem PySem.Spec PyProof.Rows L2
section
theorem jn (h:D0 F l [b,c]):∃x y,l=[x,y]/\F x b/\F y c:=by
 cases h with
 |cons h t=>
  cases t with
  |cons h' t'=>cases t';exact⟨_,_,rfl,h,h'⟩
theorem qw (h:D0 F [b,c] l):∃x y,l=[x,y]/\F b x/\F c y:=by
 cases h with
 |cons h t=>
  cases t with
  |cons h' t'=>cases t';exact⟨_,_,rfl,h,h'⟩
theorem o8 (I:A4 X Ae U H s)(hr:HR X.K H M Z)(h:At Z v (.tup [kD k,d]))(r:RelV v u) :
  ∃w2 u2,At Z w2 d/\RelV w2 u2/\L0 (BP X.prog X.w) s.heap u k u2:=by
 obtain⟨p,ws,rfl,hs,aw⟩:=hr.rdT h;have eu:=r;subst eu;obtain⟨its2,rv,ht,_⟩:=I.tuple hs;obtain⟨w1,w2,rfl,a1,a2⟩:=jn aw;obtain⟨u1,u2,rfl,r1,r2⟩:=qw rv;have e1:=VB a1;subst e1;obtain⟨o,e,c,n,hd⟩:=ht;exact⟨w2,u2,a2,r2,p,u1,o,n,rfl,Sa r1,e,c,hd⟩
theorem jx (h:D0 F l (b::m)):∃x r,l=x::r/\F x b/\D0 F r m:=by
 cases h with
 |cons h t=>exact⟨_,_,rfl,h,t⟩
theorem tf (h:D0 F (b::m) l):∃x r,l=x::r/\F b x/\D0 F m r:=by
 cases h with
 |cons h t=>exact⟨_,_,rfl,h,t⟩
theorem g9 (h:D0 F l []):l=[]:=by cases h;rfl
theorem ot (h:D0 F [] l):l=[]:=by cases h;rfl
theorem ze :GZ ((k,d)::ps)=.tup [kD k,d]::GZ ps:=rfl
theorem re (I:A4 X Ae U H s)(hr:HR X.K H M Z)(ps:List (B4×D)):∀vs Bk,Dq Z vs (GZ ps)->BF vs Bk ->
  ∃(ks:List (B4×V)) (prs:List (B4×Ai)),KV ks prs/\Cq Z ks ps/\Bk.length=prs.length/\∀(j:Nat) v p,Bk[j]? = some v->prs[j]? = some p->L0 (BP X.prog X.w) s.heap v p.1 p.2:=by
 induction ps with
 |nil=>intro vs Bk ha hv;have e:=g9 ha;subst e;have e:=ot hv;subst e;exact⟨[],[],.nil,.nil,rfl,λj v p h=>by simp at h⟩
 |cons kd ps ih=>
  intro vs Bk ha hv;obtain⟨k,d⟩:=kd;rw[ze]at ha;obtain⟨v,vs',rfl,h,t⟩:=jx ha;obtain⟨u,us',rfl,r,rs⟩:=tf hv;obtain⟨ks,prs,h1,h2,h3,h4⟩:=ih vs' us' t rs;obtain⟨w2,u2,a2,r2,pa⟩:=o8 I hr h r;refine⟨(k,w2)::ks,(k,u2)::prs,.cons ⟨rfl,r2⟩ h1,.cons ⟨rfl,a2⟩ h2,by rw[AO,AO,h3],λj v p hv hp=>?_⟩;cases j with
  |zero=>rw[G6]at hv hp;cases hv;cases hp;exact pa
  |succ j=>rw[G7]at hv hp;exact h4 j v p hv hp
theorem yf (hc:X.calm=true)(I:A4 X Ae U H s)(r:BF xs us)(hr:HR X.K H M Z)(a:Dq Z xs [x])(e:Bf M x=some (GZ ps))(hz:ps.length<=Am)
  (q:∀ks p,Cq Z ks (IC [] ps)->H p=none->Q (.ref p) (CA H p (.dK ks))):Au (AA X.prog X.w) X.A (Ir (.type "dict") us) (EP X Ae U Q) X.xe s:=by
 obtain⟨v,rfl,a1⟩:=IF a;obtain⟨p,vs,rfl,hs,a2⟩:=hr.rdL e a1;obtain⟨u,rfl,ru⟩:=G8 r;have eu:=ru;subst eu;obtain⟨Bk,rv,⟨o,n,e2,c2,d2,s2⟩,_⟩:=I.list hs;obtain⟨ks,prs,h1,h2,h3,h4⟩:=re I hr ps vs Bk a2 rv;obtain⟨oc,od,oa,os⟩:=o;simp only at c2 d2 s2;subst c2 d2 s2;have hl:ps.length=prs.length:=by rw[<- DZ h2];exact h1.length
 refine ur (I.ok.hd hc) e2 (by rw[AV];exact h3) (by rw[<- hl];exact hz) (λj v p hv hp=>h4 j v p (by rw[DY]at hv;exact hv) hp) λh' tk hk dd=>?_;have kk:=sD h1 .nil
 have hm:(mergeK [] ks).length<=Am:=by
  have:=vD ks [];rw[E9,EI,DZ h2]at this;ext
 exact⟨.ref s.heap.objs.size,_,I.laid hk (AJ _) (ZS hm (beq_eq_false_iff_ne.mpr (Bj (A6 I.big))) kk dd),rfl,q _ _ (uZ h2 .nil) (I.hok.fresh (AJ _))⟩
unseal BS
theorem aN (hc:X.calm=true):BS X (.type "dict") (λxs M Q=>GG xs λx=>∃ps,Bf M x=some (GZ ps)/\ps.length<=Am/\Q (.dic (IC [] ps)) M):=by
 intro Ae s U H xs us Q I r;ext1⟨Z,ds,M,Q2,hr,a,h,k⟩;obtain⟨x,rfl,ps,e,hz,q⟩:=Hk h;exact yf hc I r hr a e hz λks p a2 hp=>k.fd hr hp a2 q
end
end L3
namespace L2
open PySem PySem.Spec PyProof.Rows L3
section
end
end L2
namespace L3
open PySem PySem.Spec PyProof.Rows L2
section
unseal EK Cb
end
def Xn:KJ:=λx y M Q=>Ck (Hz M y) λys=>∃f:D->Bool,(∀z∈ys,DR M 40 z x=some (f z))/\Q (.bl (ys.any f)) M
theorem bu {Bk:List Ai}{ys:List D}{f:D->Bool}{g:Ai->Bool}(hl:Bk.length=ys.length)(hg:∀w,g w=true↔∃(j:Nat) (d:D),Bk[j]? = some w/\ys[j]? = some d/\f d=true):Bk.toArray.any g=ys.any f:=by
 rw[show Bk.toArray.any g=Bk.any g by simp,Dm,C4,C4];constructor
 .rintro⟨w,_,h⟩;obtain⟨j,d,_,e2,e3⟩:=(hg w).mp h;exact⟨d,Aw e2,e3⟩
 .rintro⟨d,hd,h⟩;obtain⟨j,hj,rfl⟩:=On.mp hd;exact⟨Bk[j],FX _,(hg _).mpr ⟨j,ys[j],Af (by ext),Af hj,h⟩⟩
theorem tV {X:Cx}{Ae:List (Av×Obj)}{U:St}{H:Hp}{s:Ar}{M:Mp}{Z:Zt}{A:Cy}{x:V}{v:Ai}{dx:D}{vs:List V}{Bk:List Ai}{ys:List D}{f:D->Bool}(I:A4 X Ae U H s)(hr:HR X.K H M Z)(hu:A.units+40<C9)(ax:At Z x dx)(rx:RelV x v)(a:Dq Z vs ys)(r:BF vs Bk)(hf:∀z∈ys,DR M 40 z dx=some (f z)) :
  ∃g:Ai->Bool,(∀w,w∈Bk.toArray->Eo A s w v (g w))/\Bk.toArray.any g=ys.any f:=by
 obtain⟨g,hg⟩:∃g:Ai->Bool,∀w,g w=true↔∃(j:Nat) (d:D),Bk[j]? = some w/\ys[j]? = some d/\f d=true:=⟨λw=>@decide _ (Classical.propDecidable (∃(j:Nat) (d:D),Bk[j]? = some w/\ys[j]? = some d/\f d=true)),λw=>by simp⟩;have l1:=a.length;have l2:=r.length;refine⟨g,λw hw=>?_,bu (by ext) hg⟩
 have at_:∀j,Bk[j]? = some w->∃d,ys[j]? = some d/\Eo A s w v (f d):=λj hj=>by
  obtain⟨hj1,hj2⟩:=Ah.mp hj;obtain⟨v1,d1,_,e1,z1,q1⟩:=Uw r a j (by simpa using hj1);refine⟨d1,e1,ZR I hr 40 z1 ax (by simpa[hj2]using q1) rx (by ext) (hf d1 (Aw e1))⟩
 by_cases c:g w=true
 .obtain⟨j,d,h1,h2,h3⟩:=(hg w).mp c;obtain⟨d',h4,h5⟩:=at_ j h1;rw[h2]at h4;cases h4;rw[c,<- h3];exact h5
 .obtain⟨j,hj,hw2⟩:=On.mp (by simpa using hw:w∈Bk);have h1:Bk[j]? = some w:=by rw[Af hj,hw2]
  obtain⟨d',h4,h5⟩:=at_ j h1
  have h6:f d'=false:=by
   cases h7:f d' with
   |false=>rfl
   |true=>exact absurd ((hg w).mpr ⟨j,d',h1,h4,h7⟩) c
  rw[show g w=false by simpa using c,<- h6];exact h5
unseal Cb
theorem ZK (hu:X.A.units+41<C9):Cb X (A7 .In) Xn:=by
 intro Ae s U H x y v u Q I rx ry;ext1⟨Z,dx,dy,M,Q2,hr,ax,ay,h,k⟩;obtain⟨ys,e,f,hf,q⟩:=Ci h;obtain⟨p,vs,rfl,hs,a⟩:=hr.rdS e ay;cases(show u=AC p from ry);rcases hs with hs|hs
 .obtain⟨Bk,r,pl,_⟩:=I.list hs;obtain⟨g,hg,e2⟩:=tV I hr (A:=X.A.in1) (by show X.A.units+1+40<C9;ext) ax rx a r hf;refine QV g pl.isList hg ⟨.bl _,H,I,rfl,?_⟩;rw[e2];exact k.b hr q
 .obtain⟨Bk,r,pl,_⟩:=I.tuple hs;obtain⟨g,hg,e2⟩:=tV I hr (A:=X.A.in1) (by show X.A.units+1+40<C9;ext) ax rx a r hf;refine P2 g pl hg ⟨.bl _,H,I,rfl,?_⟩;rw[e2];exact k.b hr q
end L3
namespace L3
open PySem PySem.Spec PyProof.Rows L2
unseal Cb
unseal BY
end L3
namespace L3
open PySem PySem.Spec PyProof.Rows L2
theorem O1 (hr:Dy k A):A.units+45<C9:=Fm (IV (by decide:45<=64) _) hr.units
theorem Jz (hr:Dy k A):A.units+41<C9:=Fm (IV (by decide:41<=64) _) hr.units
def Je (xs:List D)(k:D->D->D->Prop):Prop:=match xs with
 |[x,y,z]=>k x y z
 |_=>False
def Ua (xs:List D)(k:D->D->D->D->Prop):Prop:=match xs with
 |[x,y,z,w]=>k x y z w
 |_=>False
def XO (xs:List D)(k:D->D->D->D->D->Prop):Prop:=match xs with
 |[x,y,z,w,v]=>k x y z w v
 |_=>False
theorem RV (h:Je xs k):∃x y z,xs=[x,y,z]/\k x y z:=by
 match xs,h with
 |[x,y,z],h=>exact⟨x,y,z,rfl,h⟩
theorem XQ (h:Ua xs k):∃x y z w,xs=[x,y,z,w]/\k x y z w:=by
 match xs,h with
 |[x,y,z,w],h=>exact⟨x,y,z,w,rfl,h⟩
theorem Ub (h:XO xs k):∃x y z w v,xs=[x,y,z,w,v]/\k x y z w v:=by
 match xs,h with
 |[x,y,z,w,v],h=>exact⟨x,y,z,w,v,rfl,h⟩
theorem zJ :Je [x,y,z] k=k x y z:=rfl
theorem al :Ua [x,y,z,w] k=k x y z w:=rfl
theorem am :XO [x,y,z,w,v] k=k x y z w v:=rfl
theorem aA (h0:0<=i)(h1:i<(xs.length:Int)):∃v,FG xs i=some v/\v∈xs:=by
 obtain⟨j,rfl⟩:∃j:Nat,i=(j:Int):=⟨i.toNat,by ext⟩;have hk:j<xs.length:=by ext
 exact⟨xs[j],OE (Af hk),FX hk⟩
section
theorem Xx:GB 0 (some d::τ) M Q=Q d M:=rfl
theorem eU:Fz 0 te E (o::τ) M=te (o::τ) M λx M1=>E.nx (some x::τ) M1:=rfl
theorem Xw :GB 1 (a0::some d::τ) M Q=Q d M:=rfl
theorem eT :Fz 1 te E (a0::o::τ) M=te (a0::o::τ) M λx M1=>E.nx (a0::some x::τ) M1:=rfl
theorem Xv :GB 2 (a0::a1::some d::τ) M Q=Q d M:=rfl
theorem eS :Fz 2 te E (a0::a1::o::τ) M=te (a0::a1::o::τ) M λx M1=>E.nx (a0::a1::some x::τ) M1:=rfl
theorem fJ :Jf 2 d (a0::a1::o::τ) k=k (a0::a1::some d::τ):=rfl
theorem Xu :GB 3 (a0::a1::a2::some d::τ) M Q=Q d M:=rfl
theorem XD :Fz 3 te E (a0::a1::a2::o::τ) M=te (a0::a1::a2::o::τ) M λx M1=>E.nx (a0::a1::a2::some x::τ) M1:=rfl
theorem fI :Jf 3 d (a0::a1::a2::o::τ) k=k (a0::a1::a2::some d::τ):=rfl
theorem Xs :GB 4 (a0::a1::a2::a3::some d::τ) M Q=Q d M:=rfl
theorem XC :Fz 4 te E (a0::a1::a2::a3::o::τ) M=te (a0::a1::a2::a3::o::τ) M λx M1=>E.nx (a0::a1::a2::a3::some x::τ) M1:=rfl
theorem fH :Jf 4 d (a0::a1::a2::a3::o::τ) k=k (a0::a1::a2::a3::some d::τ):=rfl
theorem Xr :GB 5 (a0::a1::a2::a3::a4::some d::τ) M Q=Q d M:=rfl
theorem XB :Fz 5 te E (a0::a1::a2::a3::a4::o::τ) M=te (a0::a1::a2::a3::a4::o::τ) M λx M1=>E.nx (a0::a1::a2::a3::a4::some x::τ) M1:=rfl
theorem fG :Jf 5 d (a0::a1::a2::a3::a4::o::τ) k=k (a0::a1::a2::a3::a4::some d::τ):=rfl
theorem eE :GB 6 (a0::a1::a2::a3::a4::a5::some d::τ) M Q=Q d M:=rfl
theorem eQ :Fz 6 te E (a0::a1::a2::a3::a4::a5::o::τ) M=te (a0::a1::a2::a3::a4::a5::o::τ) M λx M1=>E.nx (a0::a1::a2::a3::a4::a5::some x::τ) M1:=rfl
theorem fE :Jf 6 d (a0::a1::a2::a3::a4::a5::o::τ) k=k (a0::a1::a2::a3::a4::a5::some d::τ):=rfl
theorem eC :GB 7 (a0::a1::a2::a3::a4::a5::a6::some d::τ) M Q=Q d M:=rfl
theorem eO :Fz 7 te E (a0::a1::a2::a3::a4::a5::a6::o::τ) M=te (a0::a1::a2::a3::a4::a5::a6::o::τ) M λx M1=>E.nx (a0::a1::a2::a3::a4::a5::a6::some x::τ) M1:=rfl
theorem fB :Jf 7 d (a0::a1::a2::a3::a4::a5::a6::o::τ) k=k (a0::a1::a2::a3::a4::a5::a6::some d::τ):=rfl
theorem dZ :GB 8 (a0::a1::a2::a3::a4::a5::a6::a7::some d::τ) M Q=Q d M:=rfl
theorem eJ :Fz 8 te E (a0::a1::a2::a3::a4::a5::a6::a7::o::τ) M=te (a0::a1::a2::a3::a4::a5::a6::a7::o::τ) M λx M1=>E.nx (a0::a1::a2::a3::a4::a5::a6::a7::some x::τ) M1:=rfl
theorem eY :Jf 8 d (a0::a1::a2::a3::a4::a5::a6::a7::o::τ) k=k (a0::a1::a2::a3::a4::a5::a6::a7::some d::τ):=rfl
theorem dY :GB 9 (a0::a1::a2::a3::a4::a5::a6::a7::a8::some d::τ) M Q=Q d M:=rfl
theorem eI :Fz 9 te E (a0::a1::a2::a3::a4::a5::a6::a7::a8::o::τ) M=te (a0::a1::a2::a3::a4::a5::a6::a7::a8::o::τ) M λx M1=>E.nx (a0::a1::a2::a3::a4::a5::a6::a7::a8::some x::τ) M1:=rfl
theorem eX :Jf 9 d (a0::a1::a2::a3::a4::a5::a6::a7::a8::o::τ) k=k (a0::a1::a2::a3::a4::a5::a6::a7::a8::some d::τ):=rfl
theorem c7 :GB 10 (a0::a1::a2::a3::a4::a5::a6::a7::a8::a9::some d::τ) M Q=Q d M:=rfl
theorem az :Fz 10 te E (a0::a1::a2::a3::a4::a5::a6::a7::a8::a9::o::τ) M=te (a0::a1::a2::a3::a4::a5::a6::a7::a8::a9::o::τ) M λx M1=>E.nx (a0::a1::a2::a3::a4::a5::a6::a7::a8::a9::some x::τ) M1:=rfl
theorem c8 :GB 11 (a0::a1::a2::a3::a4::a5::a6::a7::a8::a9::a10::some d::τ) M Q=Q d M:=rfl
theorem ba :Fz 11 te E (a0::a1::a2::a3::a4::a5::a6::a7::a8::a9::a10::o::τ) M=te (a0::a1::a2::a3::a4::a5::a6::a7::a8::a9::a10::o::τ) M λx M1=>E.nx (a0::a1::a2::a3::a4::a5::a6::a7::a8::a9::a10::some x::τ) M1:=rfl
theorem c9 :GB 12 (a0::a1::a2::a3::a4::a5::a6::a7::a8::a9::a10::a11::some d::τ) M Q=Q d M:=rfl
theorem bb :Fz 12 te E (a0::a1::a2::a3::a4::a5::a6::a7::a8::a9::a10::a11::o::τ) M=te (a0::a1::a2::a3::a4::a5::a6::a7::a8::a9::a10::a11::o::τ) M λx M1=>E.nx (a0::a1::a2::a3::a4::a5::a6::a7::a8::a9::a10::a11::some x::τ) M1:=rfl
theorem db :GB 13 (a0::a1::a2::a3::a4::a5::a6::a7::a8::a9::a10::a11::a12::some d::τ) M Q=Q d M:=rfl
theorem bc :Fz 13 te E (a0::a1::a2::a3::a4::a5::a6::a7::a8::a9::a10::a11::a12::o::τ) M=te (a0::a1::a2::a3::a4::a5::a6::a7::a8::a9::a10::a11::a12::o::τ) M λx M1=>E.nx (a0::a1::a2::a3::a4::a5::a6::a7::a8::a9::a10::a11::a12::some x::τ) M1:=rfl
theorem de :GB 14 (a0::a1::a2::a3::a4::a5::a6::a7::a8::a9::a10::a11::a12::a13::some d::τ) M Q=Q d M:=rfl
theorem bd :Fz 14 te E (a0::a1::a2::a3::a4::a5::a6::a7::a8::a9::a10::a11::a12::a13::o::τ) M=te (a0::a1::a2::a3::a4::a5::a6::a7::a8::a9::a10::a11::a12::a13::o::τ) M λx M1=>E.nx (a0::a1::a2::a3::a4::a5::a6::a7::a8::a9::a10::a11::a12::a13::some x::τ) M1:=rfl
theorem df :GB 15 (a0::a1::a2::a3::a4::a5::a6::a7::a8::a9::a10::a11::a12::a13::a14::some d::τ) M Q=Q d M:=rfl
theorem be :Fz 15 te E (a0::a1::a2::a3::a4::a5::a6::a7::a8::a9::a10::a11::a12::a13::a14::o::τ) M=te (a0::a1::a2::a3::a4::a5::a6::a7::a8::a9::a10::a11::a12::a13::a14::o::τ) M λx M1=>E.nx (a0::a1::a2::a3::a4::a5::a6::a7::a8::a9::a10::a11::a12::a13::a14::some x::τ) M1:=rfl
theorem mM:uC d τ M Q=Q d M:=rfl
theorem XE :Vn r ta tb τ M Q=ta τ M λx M1=>tb τ M1 λy M2=>r x y M2 Q:=rfl
theorem pA:Ov te τ M QT=te τ M λx M1=>Q9 x λc=>QT c M1:=rfl
theorem nw :NL r r' ta tb tc τ M Q=ta τ M λx M1=>tb τ M1 λy M2=>r x y M2 λz M3=>Q9 z λk=>if k=true then tc τ M3 λw M4=>r' y w M4 Q else Q (.bl false) M3:=rfl
theorem Xy :mC r ta τ M Q=ta τ M λx M1=>r x M1 Q:=rfl
theorem yL:W3 t1 t2 τ M QT=t1 τ M λc M1=>if c=true then t2 τ M1 QT else QT false M1:=rfl
theorem eV:mF t1 t2 τ M QT=t1 τ M λc M1=>if c=true then QT true M1 else t2 τ M1 QT:=rfl
theorem zI:WV t1 τ M QT=t1 τ M λc M1=>QT (!c) M1:=rfl
theorem gj:SQ ta tb τ M Q=ta τ M λx M1=>Q9 x λc=>if c=true then tb τ M1 Q else Q (.bl false) M1:=rfl
theorem ar:WU ta tb τ M Q=ta τ M λx M1=>Q9 x λc=>if c=true then Q (.bl true) M1 else tb τ M1 Q:=rfl
theorem XF:mG t1 ta tb τ M Q=t1 τ M λc M1=>if c=true then ta τ M1 Q else tb τ M1 Q:=rfl
theorem fL :mH ds τ M QA=QA ds M:=rfl
theorem nY:TR τ M QA=QA [] M:=rfl
theorem oX:SN te tA τ M QA=te τ M λx M1=>tA τ M1 λxs M2=>QA (x::xs) M2:=rfl
theorem oF:WO tA τ M Q=tA τ M λxs M1=>xs.length<=Am/\Q (.tup xs) M1:=rfl
theorem jf:SG tA τ M Q=tA τ M λxs M1=>xs.length<=Am/\Q (.lst xs) M1:=rfl
theorem zF:WW tA τ M Q=tA τ M λxs M1=>xs.length<=Am/\∀p,M1 p=none->Q (.ref p) (put M1 p (.lst xs)):=rfl
theorem fM :Zp r tA τ M Q=tA τ M λxs M1=>r xs M1 Q:=rfl
theorem gm :SO sp tA τ M Q=tA τ M λxs M1=>sp xs M1 Q:=rfl
theorem sh:Ow τ M QO=QO none M:=rfl
theorem km:SD te τ M QO=te τ M λx M1=>EW x λi=>QO (some i) M1:=rfl
theorem eG :mD r te tl th τ M Q=te τ M λx M1=>tl τ M1 λl M2=>th τ M2 λu M3=>r x l u M3 Q:=rfl
theorem ji:SE E τ M=E.nx τ M:=rfl
theorem oE:WQ s1 s2 E τ M=s1 {E with nx:=s2 E} τ M:=rfl
theorem zH:P9 E τ M=False:=rfl
theorem gx:SI te E τ M=te τ M λ_ M1=>E.nx τ M1:=rfl
theorem oB:WT te E τ M=te τ M E.rt:=rfl
theorem yY:WX tt s1 s2 E τ M=tt τ M λb M1=>if b=true then s1 E τ M1 else s2 E τ M1:=rfl
theorem yN :TU te g E τ M=te τ M λx M1=>g x τ λτ'=>E.nx τ' M1:=rfl
theorem yW :WZ ti g s1 E τ M=ti τ M λxs S M1=>UR xs S g s1 E τ M1:=rfl
theorem eF:mE te τ M Q=te τ M λx M1=>Ck (Bf M1 x) λds=>Ck (Ev ds) λxs=>xs.length+1<Bg/\(fm xs).length<64/\∀p,M1 p=none->Q (.ref p) (put M1 p (.lst ((Iz xs).map D.str))):=rfl
theorem qa :Sz te τ M R=te τ M λx M1=>Ck (Bf M1 x) λxs=>R xs (λM=>Bf M x=some xs) M1:=rfl
theorem qb :Sy tA τ M R=tA τ M λxs M1=>GG xs λx=>EW x λj=>(-(2^62)<=j/\j<2^62)/\R (NP 0 j.toNat) (λ_=>True) M1:=rfl
theorem ny :Hy wi caps tt te τ M Q=wi τ M λxs S M1=>EL xs S caps tt te τ M1 λys M2=>Q (.lst ys) M2:=rfl
theorem gq :Oy wi caps tt te τ M Q=wi τ M λxs S M1=>EL xs S caps tt te τ M1 λys M2=>∀p,M2 p=none->Q (.ref p) (put M2 p (.lst ys)):=rfl
theorem fN :mI T r te tA τ M Q=te τ M λx M1=>MZ M1 x=some T/\tA τ M1 λxs M2=>r x xs M2 Q:=rfl
theorem yO :W2 T r te τ M Q=te τ M λx M1=>MZ M1 x=some T/\r x [] M1 Q:=rfl
theorem gt:SK τ M Q=∀p,M p=none->Q (.ref p) (put M p (.dic [])):=rfl
theorem gu:SJ ta tb tc E τ M=tc τ M λv M1=>ta τ M1 λx M2=>tb τ M2 λy M3=>JO x λp=>Q8 y λk=>Ko (M3 p) λAQ=>AQ.length<Am/\E.nx τ (put M3 p (.dic (Hj AQ k v))):=rfl
theorem gr:SM ta tb τ M Q=ta τ M λx M1=>tb τ M1 λy M2=>Ck (D5 M2 x) λAQ=>Q8 y λk=>Ck (Do AQ k) λv=>Q v M2:=rfl
theorem lg :WL tA τ M R=tA τ M λds M1=>FF ds λx y=>Ck (Bf M1 x) λxs=>Ck (Bf M1 y) λys=>R (K8 xs ys) (λM=>Bf M x=some xs/\Bf M y=some ys) M1:=rfl
theorem k7 :TN te τ M R=te τ M λx M1=>Ck (X5 x) λAQ=>R (AQ.map λp=>kD p.1) (λ_=>True) M1:=rfl
theorem k8 :WN te τ M R=te τ M λx M1=>Gb x λz=>(z.cps.all λc=>decide (c<128))=true/\R (Kl z) (λ_=>True) M1:=rfl
theorem yS :X5 (.dic AQ)=some AQ:=rfl
theorem k6:GC τ M QT=QT true M:=rfl
theorem yX:WY te τ M Q=te τ M λd M1=>JO d λp=>match M1 p with | some (.lst ds)=>Q (.lst ds) (JA M1 p) | some (.dic ds)=>Q (.dic ds) (JA M1 p) | some (.dct ds)=>Q (.dct ds) (JA M1 p) | _=>False:=rfl
theorem k9 :WM te τ M R=te τ M λx M1=>match x with | .tup xs=>R xs (λ_=>True) M1 | _=>False:=rfl
end
section
theorem gY :EW (.int i) k=k i:=rfl
theorem gX :Q9 (.bl b) k=k b:=rfl
theorem Yd :Gb (.str z) k=k z:=rfl
theorem QB :JO (.ref p) k=k p:=rfl
theorem BR :Ck (some a) k=k a:=rfl
theorem kj :Q8 (.int i) k=k (.inl i):=rfl
theorem iQ :Q8 (.str z) k=k (.inr z):=rfl
theorem VH :Ko (some (.dic AQ)) k=k AQ:=rfl
theorem yR :D5 M (.dic AQ)=some AQ:=rfl
theorem p7 :Ko (put M p (.dic AQ) p) k=k AQ:=by simp[Ko,C8]
theorem mW (h:M p=some (.dic AQ)):D5 M (.ref p)=some AQ:=by simp[D5,h]
theorem yZ :TY n x y M Q=Ck (D5 M y) λAQ=>Q8 x λk=>Q (.bl (if n then !(Do AQ k).isSome else(Do AQ k).isSome)) M:=rfl
theorem zC:Xk x y M Q=Gb x λz=>EW y λi=>z.length<=Am/\Ck (FG z.cps.toList i) λc=>Q (.str ⟨#[c]⟩) M:=rfl
theorem ZG :GG [x] k=k x:=rfl
theorem oA :FF [x,y] k=k x y:=rfl
theorem XA :sI C g (.int i) (.int j) M Q=(C i j/\Q (g i j) M):=rfl
theorem oC :Qh g (.int i) (.int j) M Q=Q (g i j) M:=rfl
theorem Xz :sU g (.int i) M Q=Q (g i) M:=rfl
theorem nW:Xo false (.int i) (.int j) M Q=(true=true/\Q (.bl (decide (i=j))) M):=rfl
theorem zG:Xo true (.int i) (.int j) M Q=(true=true/\Q (.bl (!decide (i=j))) M):=rfl
theorem yU :Xo false (.str z) (.str z') M Q=(true=true/\Q (.bl (decide (z=z'))) M):=rfl
theorem zA :Xm c [x,.ty c'] M Q=(c'=c/\Ck (MZ M x) λt=>Ck (LP t c) λb=>Q (.bl b) M):=rfl
theorem zD:LK (.tup xs) (.int i) M Q=Ck (FG xs i) λv=>Q v M:=rfl
theorem zB:Xl x y M Q=Ck (Bf M x) λxs=>EW y λi=>Ck (FG xs i) λv=>Q v M:=rfl
theorem cq :Xi x l u M Q=Ck (Bf M x) λxs=>Q (.lst (cutD xs l u)) M:=rfl
theorem cr :Xh (.tup xs) l u M Q=(¬(HT.sIx xs.length 0 l=0/\HT.sIx xs.length xs.length u=xs.length)/\Q (.tup (cutD xs l u)) M):=rfl
theorem gp:SW x y M Q=Ck (Bf M x) λxs=>Ck (Bf M y) λys=>xs.length+ys.length<=Am/\Q (.lst (xs++ys)) M:=rfl
theorem yQ:Xq x y M Q=Ck (Bf M x) λxs=>Ck (Bf M y) λys=>xs.length+ys.length<=Am/\∀p,M p=none->Q (.ref p) (put M p (.lst (xs++ys))):=rfl
theorem jd :NO n (.tup xs) (.tup ys) M Q=Ck (F4 (DR M 40) xs ys) λb=>Q (.bl (if n then !b else b)) M:=rfl
theorem oY :NO n (.ref p) y M Q=Ck (Bf M (.ref p)) λxs=>Ck (Bf M y) λys=>Ck (F4 (DR M 40) xs ys) λb=>Q (.bl (if n then !b else b)) M:=rfl
theorem jc :NO n (.lst xs) y M Q=Ck (Bf M y) λys=>Ck (F4 (DR M 40) xs ys) λb=>Q (.bl (if n then !b else b)) M:=rfl
theorem oh:Ea (.int i)=true:=rfl
theorem om:Ea (.str z)=true:=rfl
theorem gy:Ku (.int i) (.int j)=decide (i=j):=rfl
theorem gz :Ku (.str z) (.str z')=decide (z=z'):=rfl
theorem fK :mK n x y M Q=Ck (Hz M y) λys=>ys.all Ea=true/\Ea x=true/\Q (.bl (if n then !(ys.any λz=>Ku z x)else ys.any λz=>Ku z x)) M:=rfl
theorem nX:Bf M (.lst xs)=some xs:=rfl
theorem cu:Hz M (.lst xs)=some xs:=rfl
theorem cw:Hz M (.tup xs)=some xs:=rfl
theorem zE:Bf (put M p (.lst xs)) (.ref p)=some xs:=by simp[Bf,C8]
theorem cv:Hz (put M p (.lst xs)) (.ref p)=some xs:=by simp[Hz,Bf,C8]
theorem OB (h:M p=some (.lst xs)):Bf M (.ref p)=some xs:=by simp[Bf,h]
theorem p8:MZ M (.int i)=some "int":=rfl
theorem p9:MZ M (.str z)=some "str":=rfl
theorem si:MZ M (.lst xs)=some "list":=rfl
theorem cz:MZ (put M p (.lst xs)) (.ref p)=some "list":=Vo C8
theorem ZgA:LP "int" "int" = some true:=by nofun
theorem Zfv:LP "int" "bool" = some false:=by nofun
theorem Zej:LP "int" "tuple" = some false:=by nofun
theorem Zei:LP "str" "tuple" = some false:=by nofun
theorem ZcV:LP "tuple" "tuple" = some true:=by nofun
theorem R5 :FG (x::xs) 0=some x:=OE rfl
theorem yC :FG (x::y::xs) 1=some y:=OE rfl
theorem yB :FG (x::y::z::xs) 2=some z:=OE rfl
theorem yA :FG (x::y::z::w::xs) 3=some w:=OE rfl
theorem cx :Xg h T (.ref h) (.str z) M Q=(h=h/\Ck (T.lookup z) λv=>Q (.int v) M):=rfl
theorem yM:GX (.ref p) [x] (put M p (.lst xs)) Q=(xs.length<Am/\Q .non (put M p (.lst (xs++[x])))):=by simp[GX,JO,GG,C8,QH]
theorem gW :F9 (.ref p) [.lst zs] (put M p (.lst xs)) Q=(xs.length+zs.length<=Am/\Q .non (put M p (.lst (xs++zs)))):=by simp[F9,JO,GG,C8,QH,Bf,Ck]
theorem nz :NK wi n caps tt te τ M Q=wi τ M λxs S M1=>Lp n xs S caps tt te τ M1 λys M2=>∀p,M2 p=none->Q (.ref p) (put M2 p (.lst ys)):=rfl
theorem oo :Ck (D5 M (.dic AQ)) k=k AQ:=rfl
theorem MC :Ew (n::N) (d::ds)=some d::Ew N ds:=rfl
theorem Mz :Ew (n::N) []=none::Ew N []:=rfl
theorem MA:Ew [] []=[]:=rfl
theorem yP :LS τ caps v=v::caps.map λc=>(τ[c.2]?).join:=rfl
end
theorem jy (xs)(k:Nat):cutD xs none (some (k:Int))=xs.take k:=by
 unfold cutD;rw[HT.sIx_none,HT.sIx_nat,Ly,Nm];by_cases h:k<=xs.length
 .rw[Fb h]
 .rw[Fl (by ext),Bc,BO (by ext)]
theorem vp (xs){k:Nat}:cutD xs (some (k:Int)) none=xs.drop k:=by
 unfold cutD;rw[HT.sIx_none,HT.sIx_nat];by_cases h:k<=xs.length
 .rw[Fb h,BO (by rw[FW];exact AJ _)]
 .rw[Fl (by ext),Jm,Ls,MV (by ext)]
theorem xq (xs){k:Int}(h:0<=k):cutD xs (some k) none=xs.drop k.toNat:=by
 have e:k=((k.toNat:Nat):Int):=by ext
 rw[e,vp,BD]
theorem cutD_toI (xs:List D)(h:0<=k):cutD xs none (some k)=xs.take k.toNat:=by
 have e:k=((k.toNat:Nat):Int):=by ext
 rw[e,jy,BD]
theorem bj :cutD (x::r) (some 1) (some 1)=[]:=by
 unfold cutD;rw[show(some (1:Int))=some ((1:Nat):Int)from rfl,HT.sIx_nat,HT.sIx_nat,Jm,Ls]
theorem iH (h:k=1+(ks.length:Int)):cutD (x::(ks++more)) (some 1) (some k)=ks:=by
 subst h;unfold cutD
 have e1:HT.sIx (x::(ks++more)).length 0 (some 1)=1:=by
  rw[show(some (1:Int))=some ((1:Nat):Int)from rfl,HT.sIx_nat,AO];ext
 have e2:HT.sIx (x::(ks++more)).length (x::(ks++more)).length (some (1+(ks.length:Int)))=1+ks.length:=by
  rw[show(1+(ks.length:Int))=((1+ks.length:Nat):Int) by ext,HT.sIx_nat,AO,Aq];ext
 rw[e1,e2,List.drop_succ_cons,Ly,Hf,List.take_left]
theorem bm :cutD (x::a::r) (some 1) (some 2)=[a]:=iH (ks:=[a]) rfl
theorem bo :cutD (x::a::b::r) (some 1) (some 3)=[a,b]:=iH (ks:=[a,b]) rfl
theorem bq :cutD (x::a::b::c::r) (some 1) (some 4)=[a,b,c]:=iH (ks:=[a,b,c]) rfl
theorem dI :HT.sIx (n+1) 0 (some 1)=1:=by
 rw[show(some (1:Int))=some ((1:Nat):Int)from rfl,HT.sIx_nat];ext
theorem LW {α:Type}{g:α->D}{xs:List α}{i:Nat}{d:D}(h:(xs.map g)[i]? = some d):∃x,xs[i]? = some x/\d=g x:=by
 rw[AH]at h;cases e:xs[i]? with
 |none=>rw[e]at h;cases h
 |some x=>rw[e]at h;exact⟨x,rfl,(A9 h).symm⟩
noncomputable def ID:List D->Option (List Int)
 |[]=>some []
 |.int n::r=>(ID r).map (n::·)
 |_::_=>none
theorem uY:∀ns,ID (ns.map D.int)=some ns
 |[]=>rfl
 |n::r=>by rw[AR,ID,uY r];rfl
theorem tW:∀{xs:List D}{ns:List Int},ID xs=some ns->xs=ns.map D.int
 |[],ns,h=>by cases h;rfl
 |x::r,ns,h=>by
  cases x with
  |int n=>
   rw[ID]at h;cases e:ID r with
   |none=>rw[e]at h;cases h
   |some ms=>rw[e]at h;cases h;rw[tW e];rfl
  |_=>cases h
theorem uk (h:Bf M x=some xs):Hz M x=some xs:=by
 cases x with
 |tup ys=>cases h
 |_=>exact h
def OW (M:Mp)(x:D)(k:List Int->Prop):Prop:=Ck (Bf M x) λxs=>Ck (ID xs) k
theorem hW (h:OW M x k):∃ns,Bf M x=some (ns.map D.int)/\Hz M x=some (ns.map D.int)/\k ns:=by
 obtain⟨xs,e,h1⟩:=Ci h;obtain⟨ns,e2,q⟩:=Ci h1;rw[tW e2]at e;exact⟨ns,e,uk e,q⟩
theorem oq :OW M (.lst (ns.map D.int)) k=k ns:=by unfold OW;rw[nX,BR,uY,BR]
theorem s0 (M)(n)(a b):DR M n (.int a) (.int b)=some (decide (a=b)):=by cases n<;>rfl
theorem jv (M)(n)(a b)(xs ys):F4 (DR M n) (.int a::xs) (.int b::ys)=(F4 (DR M n) xs ys).map (decide (a=b) && ·):=by
 rw[F4,s0];cases F4 (DR M n) xs ys<;>rfl
theorem jw :F4 f [] []=some true:=rfl
theorem gP:((0:Nat):Int)=0:=rfl
theorem gO:((2:Nat):Int)=2:=rfl
theorem s9 (M)(n)(xs):F4 (DR M n) xs []=some xs.isEmpty:=by cases xs<;>rfl
theorem none_of (s:Sub M M')(h:M' p=none):M p=none:=by
 cases e:M p with
 |none=>rfl
 |some o=>rw[s p o e]at h;cases h
theorem jR (h:put M p o q=none):M q=none:=by
 unfold put at h;split at h
 .cases h
 .exact h
theorem V0 {K:Ac}(no:∀ds M Q,¬sp ds M Q):FnOk P w K mg base CX0 k f fd ps (lSp K sp):=
 ⟨λvs H Q E ⟨Z,ds,M,Q2,_,_,h,_⟩=>absurd h (no ds M Q2),λA outer s H args us vs Q E _ _ _ _ ⟨Z,ds,M,Q2,_,_,h,_⟩=>absurd h (no ds M Q2)⟩
theorem QC (s:Sub M M')(h:Q d M):Dn Q d M':=⟨M,s,h⟩
theorem GD (h:n<=1000):n<=Am:=Fn (BU h)
theorem mJ (h:n<=1000):(n<=Am)=True:=eq_true (GD h)
section
variable {P:Bq}{w:BM}{K:Ac}{mg:Str->Option Ai}{base:CV}{x qual:Str}{st:DG}{f:Av}{fd:DH}{N ps:List Str}{k:Nat}
theorem CI.p1 {B:D->Mp->El->Prop}(F:CI K x qual st f fd)(N:List Str)
  (hb:∀ {cdv:Ai} {A:Cy} {outer:List Env} {s:Ar} {H:Hp} {E:XK} (d0:D) (M:Mp) (Q:El),Dy k (A.deeper (FJ qual (IP st) s.heap.objs.size f cdv))->N.Nodup->B d0 M Q ->
   ∃ t:Ht,Dd (J0 CX0 P w K mg base N qual (IP st) f cdv A outer s H E).nox (NZ st) t/\t { nx:=λ_ M'=>Dn Q .non M',rt:=Dn Q } (Ew N [d0]) M) (S:Fe N ps (IP st):=by exact ⟨rfl,rfl,rfl,by nofun,rfl,by nofun,by nofun⟩) (hl:ps.length=1:=by rfl):FnOk P w K mg base CX0 (k+1) f fd ps (lSp K λds M Q=>GG ds λd0=>B d0 M Q) :=
 CI.ok2 F S (λds M Q h=>by obtain⟨d0,rfl,_⟩:=Hk h;exact hl.symm) λcdv A outer s H E ds M Q hr h=>by
  obtain⟨d0,rfl,h⟩:=Hk h;exact hb d0 M Q hr S.nd h
theorem CI.p2 {B:D->D->Mp->El->Prop}(F:CI K x qual st f fd)(N:List Str)
  (hb:∀ {cdv:Ai} {A:Cy} {outer:List Env} {s:Ar} {H:Hp} {E:XK} (d0 d1:D) (M:Mp) (Q:El),Dy k (A.deeper (FJ qual (IP st) s.heap.objs.size f cdv))->N.Nodup->B d0 d1 M Q ->
   ∃ t:Ht,Dd (J0 CX0 P w K mg base N qual (IP st) f cdv A outer s H E).nox (NZ st) t/\t { nx:=λ_ M'=>Dn Q .non M',rt:=Dn Q } (Ew N [d0,d1]) M) (S:Fe N ps (IP st):=by exact ⟨rfl,rfl,rfl,by nofun,rfl,by nofun,by nofun⟩) (hl:ps.length=2:=by rfl):FnOk P w K mg base CX0 (k+1) f fd ps (lSp K λds M Q=>FF ds λd0 d1=>B d0 d1 M Q) :=
 CI.ok2 F S (λds M Q h=>by obtain⟨d0,d1,rfl,_⟩:=MG h;exact hl.symm) λcdv A outer s H E ds M Q hr h=>by
  obtain⟨d0,d1,rfl,h⟩:=MG h;exact hb d0 d1 M Q hr S.nd h
theorem CI.p3 {B:D->D->D->Mp->El->Prop}(F:CI K x qual st f fd)(N:List Str)
  (hb:∀ {cdv:Ai} {A:Cy} {outer:List Env} {s:Ar} {H:Hp} {E:XK} (d0 d1 d2:D) (M:Mp) (Q:El),Dy k (A.deeper (FJ qual (IP st) s.heap.objs.size f cdv))->N.Nodup->B d0 d1 d2 M Q ->
   ∃ t:Ht,Dd (J0 CX0 P w K mg base N qual (IP st) f cdv A outer s H E).nox (NZ st) t/\t { nx:=λ_ M'=>Dn Q .non M',rt:=Dn Q } (Ew N [d0,d1,d2]) M) (S:Fe N ps (IP st):=by exact ⟨rfl,rfl,rfl,by nofun,rfl,by nofun,by nofun⟩) (hl:ps.length=3:=by rfl):FnOk P w K mg base CX0 (k+1) f fd ps (lSp K λds M Q=>Je ds λd0 d1 d2=>B d0 d1 d2 M Q) :=
 CI.ok2 F S (λds M Q h=>by obtain⟨d0,d1,d2,rfl,_⟩:=RV h;exact hl.symm) λcdv A outer s H E ds M Q hr h=>by
  obtain⟨d0,d1,d2,rfl,h⟩:=RV h;exact hb d0 d1 d2 M Q hr S.nd h
theorem CI.p4 {B:D->D->D->D->Mp->El->Prop}(F:CI K x qual st f fd)(N:List Str)
  (hb:∀ {cdv:Ai} {A:Cy} {outer:List Env} {s:Ar} {H:Hp} {E:XK} (d0 d1 d2 d3:D) (M:Mp) (Q:El),Dy k (A.deeper (FJ qual (IP st) s.heap.objs.size f cdv))->N.Nodup->B d0 d1 d2 d3 M Q ->
   ∃ t:Ht,Dd (J0 CX0 P w K mg base N qual (IP st) f cdv A outer s H E).nox (NZ st) t/\t { nx:=λ_ M'=>Dn Q .non M',rt:=Dn Q } (Ew N [d0,d1,d2,d3]) M) (S:Fe N ps (IP st):=by exact ⟨rfl,rfl,rfl,by nofun,rfl,by nofun,by nofun⟩) (hl:ps.length=4:=by rfl):FnOk P w K mg base CX0 (k+1) f fd ps (lSp K λds M Q=>Ua ds λd0 d1 d2 d3=>B d0 d1 d2 d3 M Q) :=
 CI.ok2 F S (λds M Q h=>by obtain⟨d0,d1,d2,d3,rfl,_⟩:=XQ h;exact hl.symm) λcdv A outer s H E ds M Q hr h=>by
  obtain⟨d0,d1,d2,d3,rfl,h⟩:=XQ h;exact hb d0 d1 d2 d3 M Q hr S.nd h
theorem CI.p5 {B:D->D->D->D->D->Mp->El->Prop}(F:CI K x qual st f fd)(N:List Str)
  (hb:∀ {cdv:Ai} {A:Cy} {outer:List Env} {s:Ar} {H:Hp} {E:XK} (d0 d1 d2 d3 d4:D) (M:Mp) (Q:El),Dy k (A.deeper (FJ qual (IP st) s.heap.objs.size f cdv))->N.Nodup->B d0 d1 d2 d3 d4 M Q ->
   ∃ t:Ht,Dd (J0 CX0 P w K mg base N qual (IP st) f cdv A outer s H E).nox (NZ st) t/\t { nx:=λ_ M'=>Dn Q .non M',rt:=Dn Q } (Ew N [d0,d1,d2,d3,d4]) M) (S:Fe N ps (IP st):=by exact ⟨rfl,rfl,rfl,by nofun,rfl,by nofun,by nofun⟩) (hl:ps.length=5:=by rfl):FnOk P w K mg base CX0 (k+1) f fd ps (lSp K λds M Q=>XO ds λd0 d1 d2 d3 d4=>B d0 d1 d2 d3 d4 M Q) :=
 CI.ok2 F S (λds M Q h=>by obtain⟨d0,d1,d2,d3,d4,rfl,_⟩:=Ub h;exact hl.symm) λcdv A outer s H E ds M Q hr h=>by
  obtain⟨d0,d1,d2,d3,d4,e1',h⟩:_:=Ub h;exact hb d0 d1 d2 d3 d4 M Q hr S.nd h
end
end L3
namespace SH
open PySem PySem.W PySem.Calls PyProof.Rows
noncomputable def N3 :List α->List α
 |a::_::l=>a::N3 l
 |[a]=>[a]
 |[]=>[]
theorem jC :∀(l:List α) (i:Nat),(N3 l)[i]? = l[2*i]?
 |[],i=>by simp[N3]
 |[a],0=>by simp[N3]
 |[a],i+1=>by simp[N3,Va]
 |a::b::l,0=>by simp[N3]
 |a::b::l,i+1=>by simp only[N3,G7,Va,Nat.mul_one];exact jC l i
theorem iR :∀(l:List α),(N3 l).length=(l.length+1) / 2
 |[]=>by simp[N3]
 |[a]=>by simp[N3]
 |a::b::l=>by simp only[N3,AO,iR l];ext
noncomputable def RW:Nat->List Obj->BT
 |0,_=>.nil
 |_+1,[]=>.nil
 |n+1,o::l=>.node o (RW n (N3 l)) (RW n (N3 l.tail))
theorem jF:∀(n:Nat) (l:List Obj),l.length<2^n->∀i,(RW n l).get i=l[i]?
 |0,l,h,i=>by
  have:=List.length_eq_zero_iff.mp (by simpa using h);subst this;simp[RW,BT.get]
 |n+1,[],_,i=>by simp[RW,BT.get]
 |n+1,o::l,h,i=>by
  have hl:l.length+1<2^n*2:=by simpa[Nat.pow_succ]using h
  have ha:(N3 l).length<2^n:=by rw[iR];ext
  have hb:(N3 l.tail).length<2^n:=by rw[iR,List.length_tail];ext
  unfold RW;rw[BT.get_node,jF n _ ha,jF n _ hb,jC,jC];by_cases h0:i=0
  .subst h0;simp
  .rw[if_neg h0];by_cases p:i%2=1
   .rw[if_pos p,show 2*(i / 2)=i-1 by ext,Pt];simp[h0]
   .rw[if_neg p,List.getElem?_tail,show 2*(i / 2-1)+1=i-1 by ext,Pt];simp[h0]
theorem jr (h:l.length<2^n):absHeap (RW n l) l.length life=⟨l.toArray,life⟩:=by
 have:((RW n l).list l.length)=l:=by
  apply Fp;intro i;unfold BT.list;rw[AH];by_cases hi:i<l.length
  .rw[EJ hi,GS,jF n l h,Af hi];rfl
  .rw[Bu (by rw[B9];ext),Bu (by ext)];rfl
 unfold absHeap;rw[this]
noncomputable def Kb (tb:String->Option Ek)(p:Bq)(w:BM)(n₀:Nat)(ann:Option Ai):Nat->Vg->Thread->Option Vg
 |0,_,_=>none
 |n+1,s,t=>match through t with
  |true=>some s
  |false=>match stepOk n₀ ann t with
   |false=>none
   |true=>match stepT (denote tb) p w s t with
    |some (s',t')=>Kb tb p w n₀ ann n s' t'
    |none=>none
theorem uN :∀{n:Nat}{s s':Vg}{t:Thread},Kb tb p w n₀ ann n s t=some s'->topRun tb p w n₀ ann n s.abs t=some s'.abs
 |0,_,_,_,h=>by cases h
 |n+1,s,s',t,h=>by
  unfold Kb at h;unfold topRun;cases he:through t with
  |true=>rw[he]at h;cases h;rfl
  |false=>
   rw[he]at h;cases hk:stepOk n₀ ann t with
   |false=>rw[hk]at h;cases h
   |true=>
    rw[hk]at h;cases hs:stepT (denote tb) p w s t with
    |none=>rw[hs]at h;cases h
    |some r=>obtain⟨s₂,t₂⟩:=r;rw[hs]at h;rw[stepT_spec hs];exact uN h
noncomputable def Ul (H₀:CV)(os:Vh):Vg:=⟨RW 14 H₀.objs.toList,H₀.objs.toList.length,H₀.life,#[],Nt,Pd,os⟩
theorem sy (H₀:CV)(os:Vh)(h:Nat.blt H₀.objs.toList.length (2^14)=true):(Ul H₀ os).abs=⟨H₀,#[],Nt,Pd,os⟩:=by
 unfold Ul SharedT.abs;dsimp only;rw[jr (Oh h)]
noncomputable def XU (p q:Bq)(loose:List Str)(Xt:Ar->Bool)(Yf:Ar->α)(H₀:CV)(s:Ar):=
 (staticsOk (Mq p.main.body) H₀ s.heap && namesBound p s.heap && gensDone s && laidKept H₀ s.heap,openSeen q loose (Mq p.main.body) Xt true s,Yf s)
noncomputable def whole (H₀:CV)(p q:Bq)(loose:List Str)(Xt:Ar->Bool)(Yf:Ar->α)(n₀:Nat)(ann:Option Ai)(M:Nat)(w:BM)(os:Vh):=
 (Kb Wf p w n₀ ann M (Ul H₀ os) (topStub p)).map λs=>XU p q loose Xt Yf H₀ s.abs
theorem left_of
  (e:opening p=plainProg p.main.scope.names) (hN:Nat.ble 600 N=true) (f:∀s,fenceModules? p s=some s) (hb:∀P,Nat.blt (Er P).objs.toList.length (2^14)=true)
  (size:∀w:BM,((Er w.params).isNs BW && (#[]:Array cP).size == 0,(Er w.params).objs.size,(Er w.params).nsMap BW "__annotations__")=(true,n₀,ann)) (le:Nat.ble M N=true)
  (run:∀w os,whole (Er w.params) p q loose Xt Yf n₀ ann M w os=some (true,openGood q loose,Ya w)):LeftO p q loose Xt Yf Ya N:=λw=>by
 obtain⟨⟨h,gs,d,k,os⟩,e,e'⟩:=EY.mp (boot_open e hN f w);obtain⟨rfl,rfl,rfl,rfl⟩:h=Er w.params/\gs=#[]/\d=Nt/\k=Pd:=by simpa using e'
 obtain⟨z1,z2,z3⟩:_/\_/\_:=by simpa only[QX]using size w
 obtain⟨s,hs,l⟩:=EY.mp (run w os);have r:=uN hs;rw[sy _ _ (hb _)]at r;have l1:(_ && _)=true:=congrArg Prod.fst l;have l2:=congrArg (λx=>x.2.1) l;have l3:=congrArg (λx=>x.2.2) l;have r:=topRun_mono (N-M) _ _ _ _ r;rw[show M+(N-M)=N by have:=Oh le;ext]at r
 have t:topFrom Wf p w N ⟨Er w.params,#[],Nt,Pd,os⟩=some s.abs:=by
  unfold topFrom;dsimp only;rw[z1,z2,z3,r];show(match staticsOk (Mq p.main.body) (Er w.params) s.abs.heap && namesBound p s.abs.heap && gensDone s.abs && laidKept (Er w.params) s.abs.heap with | true=>_ | false=>_)=_;rw[l1]
 unfold openEnds;rw[e];show(topFrom Wf p w N _).map _=_;rw[t];exact congrArg some (Ss l2 l3)
end SH
namespace L3
open PySem PySem.Spec PyProof.Rows L2
section
unseal BS
theorem wR:∀{vs:List Ai}{ys:List Str},BF (ys.map V.str) vs->K0 vs ys
 |[],[],_=>.nil
 |v::vs,y::ys,.cons h t=>by
  obtain⟨u,rfl⟩:=h;exact .cons y u (wR t)
end
end L3
namespace L2
open PySem PySem.Spec PyProof.Rows
theorem YA (h:-(2^62)<=a)(h':a<2^62):IN a=true:=by
 unfold IN;simp only[decide_eq_true_eq,BI];ext
end L2
namespace L3
open PySem PySem.Spec PyProof.Rows L2
unseal BY HM Jl Gc Kd GN Dd Cb FP BS FC F5 KN Ho EK
theorem ats_strs :∀ss:List Str,Dq Z (ss.map V.str) (ss.map D.str)
 |[]=>.nil
 |_::r=>.cons rfl (ats_strs r)
def NU (o:Option MO)(k:List D->Prop):Prop:=match o with
 |some (.lst xs)=>k xs
 |_=>False
theorem hZ (h:NU o k):∃xs,o=some (.lst xs)/\k xs:=by
 cases o with
 |none=>exact h.elim
 |some u=>cases u with
  |lst xs=>exact⟨xs,rfl,h⟩
  |_=>exact h.elim
theorem kl :NU (some (.lst xs)) k=k xs:=rfl
end L3
namespace L2
open PySem PySem.Spec PyProof.Rows
section
variable {prog:Bq}{w:BM}{A:Cy}{E:Ai->Ar->Prop}{s:Ar}{r:Av}{a b:Int}{t u v:Tok}{Q:Ai->Ar->Prop}
end
end L2
namespace L3
open PySem PySem.Spec PyProof.Rows L2
unseal BY HM Jl Gc Kd GN Dd Cb FP BS FC F5 KN Ho EK
end L3
namespace L3
open PySem PySem.Spec PyProof.Rows L2
section
end
section
unseal EK BY Gc
end
unseal Cb
end L3
namespace L2
open PySem PySem.Spec PyProof.Rows
section
variable  {st:Ca}  {lo:Option Ca}
end
end L2
namespace L3
open PySem PySem.Spec PyProof.Rows L2
unseal BY HM Jl Gc Kd GN Dd Cb FP BS FC F5 KN Ho EK
section
variable  {st:Ca}  {lo:Option Ca}
noncomputable def S7:D->Bool
 |.non=>true
 |_=>false
theorem j2 (ax:At Z x dx):decide (x=V.non)=S7 dx:=by
 cases dx with
 |tup xs=>obtain⟨p,rfl,_⟩:=ax;rfl
 |lst xs=>obtain⟨p,rfl,_⟩:=ax;rfl
 |dic xs=>obtain⟨p,rfl,_⟩:=ax;rfl
 |dct xs=>obtain⟨p,rfl,_⟩:=ax;rfl
 |_=>cases ax;rfl
theorem ia:Cb X (A7 .IsNot) (λx y M Q=>y=.non/\Q (.bl (!S7 x)) M):=F6.mono o5 (by
 intro x y H Q;ext1⟨Z,dx,dy,M,Q2,hr,ax,ay,h,k⟩;obtain ⟨rfl,q⟩:=h;cases (show y=V.non from ay);refine ⟨rfl,?_⟩;rw [j2 ax];exact k Z (.bl _) (.bl _) H M (Le.refl _) hr rfl q)
end
end L3
namespace PySem
open Sem (wp)
section
variable {prog:Bq}{w:BM}{A:Cy}{E:Ai->Ar->Prop}{s:Ar}{d it:Av}{es:Array HZ}{i ep:Nat}
end
end PySem
namespace L3
open PySem PySem.Spec PyProof.Rows L2
unseal BY HM Jl Gc Kd GN Dd Cb FP BS FC F5 KN Ho EK
noncomputable def Gj (ks:List B4):D:=.tup (ks.map kD)
section
variable {K:Ac}{H:Hp}{M:Mp}{Z:Zt}
end
section
variable {X:Cx}{pos pos':Pos}{o i value:Ca}{td ty tv:DV}
end
structure Mf (K:Ac)(C:Av)(m qual:Str)(st:DG)(ps:List Str)(f:Av)(fd:DH):Prop where
 F:CI K m qual st f fd
 b:HG K fd ps []
 m:Sj K C m f
def NT (C:Av)(o:Option MO)(k:List (Str×D)->Prop):Prop:=∃fs,o=some (.obj C fs)/\k fs
theorem Hn :NT C (some (.obj C fs)) k=k fs:=propext ⟨λ⟨fs',e,h⟩=>by cases e;exact h,λh=>⟨fs,rfl,h⟩⟩
noncomputable def putO (f:Str)(v:D):List (Str×D)->List (Str×D)
 |[]=>[(f,v)]
 |p::r=>if p.1=f then(p.1,v)::r else p::putO f v r
section
variable {K:Ac}   {Z:Zt}{f:Str}{vs:List (Str×V)}{ds:List (Str×D)}
theorem Cq.putO (a:At Z v d)(h:Cq Z vs ds):Cq Z (Hi f v vs) (L3.putO f d ds):=by
 induction h with
 |nil=>exact .cons ⟨rfl,a⟩ .nil
 | @cons p q vs ds r t ih=>
  unfold Hi L3.putO;have e:=r.1;by_cases c:p.1=f
  .rw[if_pos c,if_pos (by rw[<- e];exact c)];exact .cons ⟨e,a⟩ t
  .rw[if_neg c,if_neg (by rw[<- e];exact c)];exact .cons r ih
theorem Cq.look (h:Cq Z vs ds):(ds.lookup f=none/\vs.lookup f=none)\/∃d v,ds.lookup f=some d/\vs.lookup f=some v/\At Z v d:=by
 induction h with
 |nil=>exact .inl ⟨rfl,rfl⟩
 | @cons p q vs ds r t ih=>
  have e:=r.1;rw[BG,BG,e];cases c:f == q.1 with
  |true=>exact .inr ⟨_,_,rfl,rfl,r.2⟩
  |false=>exact ih
theorem HR.newO (h:HR K H M Z)(e1:H x=none)(e2:H dx=none)(ne:dx≠x):HR K (CA (CA H dx (.own x)) x (.ins C dx [])) (put M x (.obj C [])) Z:=by
 obtain⟨h1,h2⟩:=h.lay e2 (.own x);exact HR.newM ⟨h1,h2⟩ (by rw[HL (Bj ne)];exact e1) ⟨dx,[],Mn,.nil⟩
end
section
variable      {m x:Str}
def W0 (C:Av)(f:Str)(ta:DV):DV:=λτ M Q=>ta τ M λx M1=>JO x λp=>NT C (M1 p) λfs=>Ck (fs.lookup f) λd=>Q d M1
theorem GY (c:Ob X.K C)(n:D6 X.K C f)(he:BY X e ta)(hb:CF e f X.env (eval e X.env)=eval e X.env:=by rfl):BY X (.Attribute e f pos) (W0 C f ta):=PE.mono (i3 he hb) (by
 intro U H Q;ext1⟨Z,τ,M,Q2,st,hr,h,k⟩;refine lE.bind st hr h λZ1 x dx H1 M1 l1 h1 a1 q1=>?_;obtain⟨p,rfl,fs,hm,q2⟩:=Ib q1;obtain⟨d,hd,q⟩:=Ci q2;obtain⟨ix,vs,hv,ka⟩:=h1.rdMO hm;rcases ka.look with⟨e1,_⟩|⟨d',v,e1,e2,a⟩
 .rw[hd]at e1;cases e1
 .rw [hd] at e1;cases e1;exact ⟨p,C,ix,vs,v,a1,hv,c,n,e2,k Z1 v d H1 M1 l1 h1 a q⟩)
def SA (C:Av)(f:Str)(ta tv:DV):Ht:=λE τ M=>tv τ M λy M1=>ta τ M1 λx M2=>JO x λp=>NT C (M2 p) λfs=>fs.length<1000/\E.nx τ (put M2 p (.obj C (putO f y fs)))
theorem iP (c:Ob X.K C)(n:D6 X.K C f)(ha:BY X o ta)(hv:BY X value tv)(hs:DW value (some (.Attribute o f pos')) pos.line X.env=pure false:=by rfl):GN X (.Assign [.Attribute o f pos'] value pos) (SA C f ta tv):=PS.mono (fq ha hv hs) (by
 intro D U H;ext1⟨Z,τ,M,D2,st,hr,h,er⟩;refine lE.bind st hr h λZ1 y dy H1 M1 l1 h1 a1 q1=>lE.bind (st.mono l1) h1 q1 λZ2 x dx H2 M2 l2 h2 a2 q2=>?_;obtain ⟨p,rfl,fs,hm,hl,q⟩:=Ib q2;obtain ⟨ix,vs,hv,ka⟩:=h2.rdMO hm;refine ⟨p,C,ix,vs,a2,hv,c,n,by rw [DZ ka];exact hl,?_⟩;exact er.nx Z2 U τ _ _ (l1.trans l2) (st.mono (l1.trans l2)) (h2.chg (u':=.obj C (putO f dy fs)) hm ⟨ix,_,Mn,ka.putO (a1.mono l2)⟩) q)
def Ox (C:Av)(m:Str)(sp:DO)(ta:DV)(t:Kc):DV:=λτ M Q=>ta τ M λx M1=>JO x λp=>NT C (M1 p) λfs=>fs.lookup m=none/\t τ M1 λxs M2=>sp (.ref p::xs) M2 Q
theorem XV {K:Ac} :∀U H Q,lE K (Ox C m sp ta t) U H Q->Qc C m (lSp K sp) [] E0 (lE K ta) (lA K t) U H Q:=by
 intro U H Q;ext1⟨Z,τ,M,Q2,st,hr,h,k⟩;refine lE.bind st hr h λZ1 x dx H1 M1 l1 h1 a1 q1=>?_;obtain⟨p,rfl,fs,hm,hn,q⟩:=Ib q1;obtain⟨ix,vs,hv,ka⟩:=h1.rdMO hm;have a1:=a1;subst a1;refine⟨p,ix,vs,rfl,hv,?_,Z1,τ,M1,_,st.mono l1,h1,q,λZ2 ws ds H2 M2 l2 h2 a2 q2=>?_⟩
 .rcases ka.look with⟨_,e2⟩|⟨d',v,e1,_,_⟩
  .exact e2
  .rw[hn]at e1;cases e1
 .show lSp K sp (V.ref p::(ws++[])) H2 Q E0;rw[CH];exact⟨Z2,.ref p::ds,M2,Q2,h2,.cons rfl a2,q2,k.le (l1.trans l2)⟩
theorem Ff {st:DG}(c:Ob X.K C)(d:Mf X.K C m qual st ps g fd)(G:FnOk X.prog X.w X.K X.mg X.base CX0 k g fd ps (lSp X.K sp))(hr:Dy k X.A)(ho:BY X o ta)(ha:Gc X (e::es) t)
  (hst:As (e::es) X.env=(false,eval e X.env)::As es X.env:=by rfl) (hpl:(Cc pos (As es X.env)).any (·.1)=false:=by rfl)
  (ht:eval (.Call (.Attribute o m apos) (e::es) [] pos) X.env=(do
   let ov <- eval o X.env
   MQ apos.atName
   let (f,first) <- Gy [ov] (JE ov m pl)
   Rq pos f first (Cc pos (As (e::es) X.env)) (Fq pos (DC [] X.env))):=by rfl) :
  BY X (.Call (.Attribute o m apos) (e::es) [] pos) (Ox C m sp ta t):=PE.mono (pz ho c d.m G hr d.b .nil Oz ha hst hpl ht) XV
theorem Km {st:DG}(c:Ob X.K C)(d:Mf X.K C m qual st ps g fd)(G:FnOk X.prog X.w X.K X.mg X.base CX0 k g fd ps (lSp X.K sp))(hr:Dy k X.A)(ho:BY X o ta)
  (ht:eval (.Call (.Attribute o m apos) [] [] pos) X.env=(do
   let ov <- eval o X.env
   MQ apos.atName
   let (f,first) <- Gy [ov] (JE ov m pl)
   Rq pos f first (Cc pos (As [] X.env)) (Fq pos (DC [] X.env))):=by rfl) :
  BY X (.Call (.Attribute o m apos) [] [] pos) (Ox C m sp ta TR):=PE.mono (rz ho c d.m G hr d.b .nil Oz ht) (by
 intro U H Q;ext1⟨Z,τ,M,Q2,st,hr,h,k⟩;refine lE.bind st hr h λZ1 x dx H1 M1 l1 h1 a1 q1=>?_;obtain⟨p,rfl,fs,hm,hn,q⟩:=Ib q1;obtain⟨ix,vs,hv,ka⟩:=h1.rdMO hm;have a1:=a1;subst a1;refine⟨p,ix,vs,rfl,hv,?_,⟨Z1,[.ref p],M1,Q2,h1,.cons rfl .nil,q,k.le l1⟩⟩;rcases ka.look with⟨_,e2⟩|⟨d',v,e1,_,_⟩
 .exact e2
 .rw [hn] at e1;cases e1)
def SF (C:Av)(sp:DO)(t:Kc):DV:=λτ M Q=>t τ M λxs M1=>∀p,M1 p=none->sp (.ref p::xs) (put M1 p (.obj C [])) λv M2=>v=.non/\Q (.ref p) M2
theorem mf {K:Ac}{M1:Mp}(l1:Le Z Z1)(h1:HR K H1 M1 Z1)(a1:Dq Z1 vs ds)(k:Hs K Z Q2 Q)(q1:∀p,M1 p=none->sp (.ref p::ds) (put M1 p (.obj C [])) λv M2=>v=.non/\Q2 (.ref p) M2) :
  ∀x dx,H1 x=none->H1 dx=none->dx≠x->lSp K sp (.ref x::(vs++[])) (CA (CA H1 dx (.own x)) x (.ins C dx [])) (λv H2=>v=.non/\Q (.ref x) H2) E0:=λx dx e1 e2 ne=>by
 rw[CH];refine⟨Z1,.ref x::ds,_,_,h1.newO e1 e2 ne,.cons rfl a1,q1 x (h1.fresh e1),λZ2 v d H2 M2 l2 h2 a2 q2=>?_⟩;obtain⟨rfl,q⟩:=q2;exact⟨a2,k Z2 (.ref x) (.ref x) H2 M2 (l1.trans l2) h2 rfl q⟩
theorem XG {st:DG}(mk:Mk X.K C g)(d:Mf X.K C "__init__" qual st ps g fd)(G:FnOk X.prog X.w X.K X.mg X.base CX0 k g fd ps (lSp X.K sp))(hr:Dy (k+1) X.A)(hm:X.mg x=some (.ref C))(ha:Gc X (e::es) t)(hg:Gl X x:=by rfl)(hdb:(x == ("__debug__":Str))=false:=by decide)
  (he:As (e::es) X.env=(false,eval e X.env)::As es X.env:=by rfl) (hpl:(Cc pos (As es X.env)).any (·.1)=false:=by rfl) :
  BY X (.Call (.Name x p) (e::es) [] pos) (SF C sp t):=PE.mono (pw mk G hr hg hm d.b .nil Oz ha hdb he hpl) (by
 intro U H Q;ext1⟨Z,τ,M,Q2,st,hr,h,k⟩;exact ⟨Z,τ,M,_,st,hr,h,λZ1 vs ds H1 M1 l1 h1 a1 q1=>mf l1 h1 a1 k q1⟩)
theorem yV :W0 C f ta τ M Q=ta τ M λx M1=>JO x λp=>NT C (M1 p) λfs=>Ck (fs.lookup f) λd=>Q d M1:=rfl
theorem kz :SA C f ta tv E τ M=tv τ M λy M1=>ta τ M1 λx M2=>JO x λp=>NT C (M2 p) λfs=>fs.length<1000/\E.nx τ (put M2 p (.obj C (putO f y fs))):=rfl
theorem jh :Ox C m sp ta t τ M Q=ta τ M λx M1=>JO x λp=>NT C (M1 p) λfs=>fs.lookup m=none/\t τ M1 λxs M2=>sp (.ref p::xs) M2 Q:=rfl
theorem jg :SF C sp t τ M Q=t τ M λxs M1=>∀p,M1 p=none->sp (.ref p::xs) (put M1 p (.obj C [])) λv M2=>v=.non/\Q (.ref p) M2:=rfl
end
end L3
namespace PySem
open Sem (wp)
section
end
end PySem
namespace L2
open PySem PySem.Spec PyProof.Rows L3
section
end
end L2
namespace L3
open PySem PySem.Spec PyProof.Rows L2
unseal BY HM Jl Gc Kd GN Dd Cb FP BS FC F5 KN Ho EK
section
end
end L3
namespace L2
open PySem PySem.Spec PyProof.Rows L3
section
end
end L2
namespace L3
open PySem PySem.Spec PyProof.Rows L2
unseal BY HM Jl Gc Kd GN Dd Cb FP BS FC F5 KN Ho EK
section
end
end L3
namespace L2
open PySem PySem.Spec PyProof.Rows L3
section
noncomputable def Ja (c:Nat)(n:Int):Str:=⟨(Ax n.toNat c).toArray⟩
theorem xr:F6 X (Bt .Mult) (λx y H Q=>∃c n,x=.str ⟨#[c]⟩/\y=.int n/\(0<=n/\n<=100)/\Q (.str (Ja c n)) H):=by
 intro Ae s U H x y v u Q I rx ry;ext1⟨c,n,e1',e2',⟨h0,h1⟩,q⟩;obtain⟨t,rfl⟩:=(show∃t,v=De ⟨#[c]⟩ t from rx);obtain⟨t',rfl⟩:=(show∃t,u=DE n t from ry);have hz:(⟨#[c]⟩:Str).length=1:=rfl;have fin:∀r tk tk',r=Ja c n->EP X Ae U Q (.str r tk) {s with toks:=tk' }:=λr tk tk' hr=>⟨.str r,H,I.tok _,⟨tk,rfl⟩,by rw[hr];exact q⟩;refine P.mul_str ?_ ?_ ?_ ?_
 .rw[decide_eq_false (by ext),decide_eq_false (by ext)];rfl
 .intro h3 _ h4
  have:(1000:Int)<(2^63-1) / n:=by
   have:(92233720368547758:Int)<=(2^63-1) / n:=Int.le_ediv_of_mul_le (by ext) (by ext);ext
  rw[hz]at h4;ext
 .intro h3 _;unfold cQ;exact decide_eq_false (by rw[Jn,hz];ext)
 .split
  .next h3=>
   refine⟨by show K6 _<=_;decide,fin _ _ _ ?_⟩;have e:n.toNat=0:=by ext
   unfold Ja;rw[e];rfl
  .split
   .next h3 h4=>
    refine fin _ _ s.toks ?_;rcases(by simpa using h4:n=1\/(⟨#[c]⟩:Str).length=0)with h|h
    .rw[h];rfl
    .rw[hz]at h;ext
   .have hl:∀k a,(Ax k (#[c]:Array Nat)).foldl (·++·) a=a++(Ax k c).toArray:=by
     intro k;induction k with
     |zero=>intro a;simp
     |succ k ih=>intro a;rw[CY,DL,ih,CY];apply Array.toList_inj.mp;simp
    have e:(Ax n.toNat (#[c]:Array Nat)).foldl (·++·) #[]=(Ax n.toNat c).toArray:=by rw[hl];simp
    refine⟨?_,fin _ _ _ ?_⟩
    .rw[e];show(Ax n.toNat c).toArray.size<=_;rw[AV,Bn,Jn];ext
    .unfold Ja;rw[e]
end
end L2
namespace L3
open PySem PySem.Spec PyProof.Rows L2
unseal BY HM Jl Gc Kd GN Dd Cb FP BS FC F5 KN Ho EK
section
def SV:KJ:=λx y M Q=>EW y λn=>∃c,x=.str ⟨#[c]⟩/\(0<=n/\n<=100)/\Q (.str (Ja c n)) M
theorem aY:Cb X (Bt .Mult) SV:=F6.mono xr (by
 intro x y H Q;ext1⟨Z,dx,dy,M,Q2,hr,ax,ay,h,k⟩;obtain ⟨n,rfl,c,rfl,hz,q⟩:=CU h;exact ⟨c,n,ax,ay,hz,k.s hr q⟩)
theorem ZY (h:0<=n/\n<=100)(q:Q (.str (Ja c n)) M):SV (.str ⟨#[c]⟩) (.int n) M Q:=⟨c,rfl,h,q⟩
end
end L3
namespace L2
open PySem PySem.Spec PyProof.Rows
section
end
section
end
section
end
section
variable {X:Cx}{Ae:List (Av×Obj)}{U:St}{H:Hp}{s:Ar}  {a:Av}  {oe:Obj}
end
section
end
section
variable     {st:DG}
end
end L2
namespace L2
open PySem PySem.Spec PyProof.Rows
open PySem.W in
section
open PySem.W PySem.Builtin PySem.Builtin.ObjectAttr PySem.Builtin.Getset_descriptor PySem.Calls
variable {prog:Bq}{w:BM}{A:Cy}{E:Ai->Ar->Prop}{s:Ar}{K:WE}{x C:Av}
end
section
end
end L2
namespace L2
open PySem PySem.Spec PyProof.Rows
section
end
end L2
namespace L3
open PySem PySem.Spec PyProof.Rows L2
abbrev lK:=Str->Mp->Prop
section
variable (K:Ac)(mg:Str->Option Ai)
end
section
variable {K:Ac}{H H':Hp}{M M':Mp}{Z Z':Zt}
end
end L3
namespace L3
open PySem PySem.Spec PyProof.Rows L2
unseal BY HM Jl Gc Kd GN Dd
section
end
section
variable   {K:Ac}
end
section
end
section
end
section
variable   {K:Ac}
end
abbrev lN:=Gu->Mp->El->lK->Prop
abbrev lL:=JQ->lK->Gu->Mp->Prop
section
end
section
variable   {K:Ac}
end
section
end
section
variable {τ:Gu}{M:Mp}   {D:JQ}{E:lK}     {tx:lN}{tb:lL}{th:Ht}   {x:Str}{xs:List Str}
end
section
end
end L3
namespace L2
open PySem PySem.Spec PyProof.Rows
section
variable {X:Cx}{e:Ca}
end
end L2
namespace L3
open PySem PySem.Spec PyProof.Rows L2
unseal BY
section
end
end L3
namespace L3
open PySem PySem.Spec PyProof.Rows L2
section
unseal Dd
theorem EL.filt {ks:List α}(hz:ks.length<=Am)(hS:S M)(ht:∀k∈ks,∀R:Bool->Mp->Prop,R (pr k) M->tt (LS τ caps (some (g k))) M R)(h:∀k∈ks,∀R,R (f k) M->te (LS τ caps (some (g k))) M R)(q:Q ((ks.filter pr).map f) M):EL (ks.map g) S caps tt te τ M Q:=by
 refine⟨by rw[Ab];exact hz,λi ys M'=>M'=M/\ys=((ks.take i).filter pr).map f,⟨rfl,rfl⟩,?_,?_,?_⟩
 .rintro i ys M' ⟨rfl,rfl⟩;exact⟨hS,by rw[Ab];exact AZ (Cu _ _) (by rw[AY];ext)⟩
 .rintro i x ys M' hx ⟨rfl,rfl⟩;rw[AH]at hx;cases e:ks[i]? with
  |none=>rw[e]at hx;cases hx
  |some k=>
   rw[e]at hx;cases hx;refine ht k (Aw e) _ ?_;dsimp only;cases c:pr k with
   |true=>rw[if_pos rfl];exact h k (Aw e) _ ⟨rfl,by rw[A8,e,DN,AI];simp[c]⟩
   |false=>rw[if_neg (by decide)];exact⟨rfl,by rw[A8,e,DN,AI];simp[c]⟩
 .rintro ys M' ⟨rfl,rfl⟩;rw[Ab,Bc];exact q
end
section
end
end L3
namespace L3
open PySem PySem.Spec PyProof.Rows L2
unseal Cb
section
unseal Dd
unseal BY
unseal Ho
unseal GN
end
end L3
namespace L2
open PySem PySem.Spec PyProof.Rows
section
end
section
end
end L2
namespace L3
open PySem PySem.Spec PyProof.Rows L2
section
unseal BY
unseal Ho
unseal GN
end
section
unseal BS
end
end L3
namespace L2
open PySem PySem.Spec PyProof.Rows
section
def Xa (j:Nat)(t:TI->TE):TE:=λU H Q=>∃a ks,U[j]? = some (some (.ref a))/\Rd H a (.dK ks)/\∀ob,t (λ_ H R=>R (YM ks) H) U (CA H a (.frz ob (.dK ks))) Q
theorem d9 (B:Eb X scope x caps):Eb (X.fr f) scope x caps:={B with}
theorem rh (B:Eb X scope x caps)(hc:X.calm=true)(hl:∀f,PE (X.fr f) (.Name y py) (RJ j))
  (he:∀f cl C fp pn s H,PE (GL (X.fr f) scope cl C (x::caps.map (·.1)) fp pn s H) elt te) (hif:∀f cl C fp pn s H,HE (GL (X.fr f) scope cl C (x::caps.map (·.1)) fp pn s H) ifs tt)
  (hs:∀x,Bw (.Name y py) X.env x=pure x):PE X (.ListComp elt [⟨.Name x px,.Name y py,ifs,0⟩] scope pos) (Xa j λwi=>JN wi caps tt te):=by
 intro Ae s U H Q I ⟨a,ks,e,rd,h⟩;obtain⟨ob,I1⟩:=I.freeze rd;have z:=aC (X:=X.fr (a,ob,.dK ks)) (pos:=pos) (px:=px) (wi:=λU H R=>RJ j U H λv H1=>v=.ref a/\R (YM ks) H1) (d9 B) hc (ja (hl _) (AF)) (he _) (hif _) hs Ae s U _ Q I1 ⟨_,e,rfl,h ob⟩;refine BK z (λu s' q=>?_) λ_ _ q=>q;obtain⟨v,H1,J,r,q⟩:=q;exact⟨v,H1,J.unfr,r,q⟩
end
end L2
namespace L3
open PySem PySem.Spec PyProof.Rows L2
unseal BY HM Jl Gc Kd GN Dd Cb FP BS FC F5 KN Ho EK
section
theorem vo {K:Ac}(st:Gs Z U τ)(h1:HR K H M Z)(jk:YL K J xs S Z)(h:EL xs S caps tt te τ M QL)
  (ht:∀U H Q,lT K tt U H Q->tt1 U H Q)
  (k:∀Z1 H1 M1 vs ds,Le Z Z1->HR K H1 M1 Z1->Dq Z1 vs ds->QL ds M1->∀p,H1 p=none->Q (.ref p) (CA H1 p (.lst vs))):JN (λ_ H R=>R J H) caps tt1 (lE K te) U H Q:=by
 obtain⟨hz,W,w0,stay,turn,done⟩:=h;refine⟨xs.length,λi vs H=>i<=xs.length/\∃Z2 M2 ds,Le Z Z2/\HR K H M2 Z2/\Dq Z2 vs ds/\W i ds M2,⟨Ef _,Z,M,[],Le.refl _,h1,.nil,w0⟩,?_⟩;intro i vs H2;ext1⟨hi,Z2,M2,ds,l2,h2,a2,w2⟩;obtain⟨s2,hl⟩:=stay i ds M2 w2;obtain⟨go,stop⟩:=jk i H2 M2 Z2 l2 h2 s2;have la:=a2.length;by_cases hlt:i<xs.length
 .obtain⟨g1,g2⟩:=go _ (Af hlt);refine .inr ⟨g1,hlt,by ext,λx H' y=>?_⟩;obtain⟨Z5,l5,h5,a⟩:=g2 x H' y;have tk:=turn i _ ds M2 (Af hlt) w2;have l2:=l2.trans l5;have a2:=a2.mono l5;refine ht _ _ _ (lT.bind ((st.mono l2).cap caps a) h5 tk λZ3 b H3 M3 l3 h3 q3=>?_);cases b with
  |false=>rw[if_neg Al]at q3 ⊢;exact⟨hlt,Z3,M3,ds,l2.trans l3,h3,a2.mono l3,q3⟩
  |true=>rw[if_pos rfl]at q3 ⊢;refine lE.bind (((st.mono l2).cap caps a).mono l3) h3 q3 λZ4 z dz H4 M4 l4 h4 a4 q4=>?_;exact⟨hlt,Z4,M4,ds++[dz],l2.trans (l3.trans l4),h4,(a2.mono (l3.trans l4)).append (.cons a4 .nil),q4⟩
 .have e:i=xs.length:=by ext
  subst e;exact .inl ⟨stop (AJ _),by ext,k Z2 H2 M2 vs ds l2 h2 a2 (done ds M2 w2)⟩
theorem Ug {K:Ac}(ht:∀U H Q,lT K tt U H Q->tt1 U H Q):∀U H Q,lE K (Hy (TN (GB j)) caps tt te) U H Q->Xa j (λwi=>JN wi caps tt1 (lE K te)) U H Q:=by
 intro U H Q;ext1⟨Z,τ,M,Q2,st,hr,h,k⟩;obtain⟨d,e,q⟩:=Ci h;obtain⟨AQ,e2,q⟩:=Ci q;obtain⟨v,e1,a⟩:=st.get (ET.mp e);cases d with
 |dic ds=>
  cases e2;obtain⟨p,rfl,z⟩:=a;rcases hr.z p _ z with⟨ks,rd,ka⟩|k
  .refine⟨p,ks,e1,rd,λob=>?_⟩;exact vo st (hr.frzH z rd) (t8 ka) q ht λZ1 H1 M1 vs ds l1 h1 a1 q p hp=>(k.le l1).f h1 hp a1 q
  .exact k.elim
 |_=>cases e2
theorem RO (B:Eb X scope x caps)(hc:X.calm=true)(hN:X.N[j]? = some y)(hv:YE X.env.scope y)(hd:(y == ("__debug__":Str))=false)(hcd:(y == ("__classdict__":Str))=false)(he:∀f cl C fp pn s H,BY (GL (X.fr f) scope cl C (x::caps.map (·.1)) fp pn s H) elt te)
  (hs:∀x,Bw (.Name y py) X.env x=pure x:=by intro _;rfl):BY X (.ListComp elt [⟨.Name x px,.Name y py,[],0⟩] scope pos) (Hy (TN (GB j)) caps GC te):=PE.mono (rh (te:=lE X.K te) B hc (λf=>oV (X:=X.fr f) hN hv hd hcd) he (λ_ _ _ _ _ _ _=>HE.nil) hs) (Ug Lm)
end
end L3
namespace PySem
open Sem (wp)
section
end
end PySem
namespace L2
open PySem PySem.Spec PyProof.Rows L3
end L2
namespace L3
open PySem PySem.Spec PyProof.Rows L2
unseal BY HM Jl Gc Kd GN Dd Cb FP BS FC F5 KN Ho EK
section
end
end L3
namespace L2
open PySem PySem.Spec PyProof.Rows L3
noncomputable def YN (K:Ac)(a:Av):It:=
  ⟨λi H=>∃ xs x,FH K H a xs/\xs[i]? = some x,
   λi H v H'=>∃p x,v=.ref p/\H p=none/\H'=CA H p (.tup [.int i,x])/\∀xs,FH K H a xs->xs[i]? = some x,
   λi H=>∃ xs,FH K H a xs/\xs.length<=i⟩
structure lQ (e it a:Av)(i:Nat)(h:CV):Prop where
 n1:e≠it
 n2:a≠e/\a≠it
 he:∃old,IsEnum h e it i old
 hi:h.IsListIter it a i
theorem qu {K:Ac}(e it a):LY P w K F (.Tuple es k pos) (YN K a) [e,it] e (lQ e it a) where
 mem:=by simp
 obj:=λi h st c hc=>by
  obtain⟨old,he⟩:=st.he;obtain⟨o,ho,-,d⟩:=st.hi;simp only[By,AS,or_false]at hc;rcases hc with rfl|rfl
  .exact⟨_,he,λv q=>by cases q⟩
  .exact⟨_,ho,λv q=>by rw[d]at q;cases q⟩
 keep:=λi h h' st k=>by
  obtain⟨old,he⟩:=st.he;obtain⟨o,ho,r⟩:=st.hi;exact{st with he:=⟨old,k e (by simp) _ he⟩,hi:=⟨o,k it (by simp) _ ho,r⟩}
 item:=by
  intro X hP hw hK hF hc i Ae s U H E I hf st hg;subst hP hw hK;obtain⟨xs,x,hx,ex⟩:=hg;obtain⟨Bk,rv,pl,hzz⟩:=I.list hx;obtain⟨u,hu,ru⟩:=rv.get ex;obtain⟨old,he⟩:=st.he;refine wpAny_pyNext_enum_item he st.hi pl.isList (by simpa using hu) st.n1 λh' e1 i1 t1 z1 old1=>?_;refine⟨_,rfl,wpAny_letOwnedTupleGo_enum e1 λh2 e2 sb=>?_⟩
  have ne:∀q∈[e,it],q≠s.heap.objs.size:=λq hq eq=>by
   have hob:∃o,s.heap.get? q=some o:=by
    obtain⟨o,ho,-⟩:=st.hi;simp only[By,AS,or_false]at hq;rcases hq with rfl|rfl
    .exact⟨_,he⟩
    .exact⟨_,ho⟩
   obtain⟨o,e'⟩:=hob;rw[eq]at e';exact absurd (Ap e') (EQ _)
  have I1:A4 X Ae U H {s with heap:=h2,toks:=s.toks+1}:=I.turnedN hf λq o hq e'=>by
   simp only[By,AS,or_false,not_or]at hq;exact(sb.2 q hq.1).trans (old1 q o hq.1 hq.2 e')
  have freshT:=I.fresh;have tp2:=(sb.2 _ (λe'=>ne e (by simp) e'.symm)).trans t1;have I2:A4 X Ae U (CA H s.heap.objs.size (.tup [.int i,x])) {s with heap:=h2,toks:=s.toks+1}:=I1.track (I.fpOk (AJ _) freshT) ⟨Fn (BU (by simp)),[.int i s.toks,u],.cons ⟨_,rfl⟩ (.cons ru .nil),_,tp2,rfl,_,rfl,rfl⟩;refine⟨.ref s.heap.objs.size,_,I2,rfl,⟨_,x,rfl,freshT,rfl,λzs hz=>by rw[I.list_inj hz hx];exact ex⟩,?_,λq hq=>?_⟩
  .obtain⟨o,ho,r⟩:=i1;exact{st with he:=⟨u,e2⟩,hi:=⟨o,(sb.2 it (Bj st.n1)).trans ho,r⟩}
  .rw[HL (ne q hq)];exact(hf q hq).1
 done:=by
  intro X hP hw hK hF hc i Ae s U H E I hf st hg;subst hP hw hK;obtain⟨xs,hx,hl⟩:=hg;obtain⟨Bk,rv,pl,_⟩:=I.list hx;obtain⟨old,he⟩:=st.he;have e1:=rv.length;refine wpAny_pyNext_enum_end (I.ok.hd hc) he st.hi pl.isList (by simp;ext) λh' eb=>⟨rfl,I.turnedN hf λq o hq e'=>?_⟩;simp only[By,AS,or_false,not_or]at hq;exact eb q o hq.2 e'
 self:=λ_ _ _ _ _ st h=>by
  obtain⟨old,he⟩:=st.he;exact UX he h
theorem ai {X:Cx}{es:List Ca}{k:Nat}{tp:Pos}{a:Ca}{ta:TA}{p pos:Pos}(hg:Gl X "enumerate")(hm:X.mg "enumerate" = none)(ha:PA X [a] ta)(hs:As [a] X.env=[(false,eval a X.env)]:=by rfl) :
  PI X (.Tuple es k tp) (.Call (.Name "enumerate" p) [a] [] pos) (λU H R=>ta U H λvs H1=>∃a xs,vs=[.ref a]/\FH X.K H1 a xs/\R (YN X.K a) H1):=by
 intro Ae s U H R I h;refine Call_ (PK I hg hm boot_enumerate (BB (Dp (ha pos Ae s U H _ I h) λus s1 e=>e.el λvs H1 I1 r1 q1=>?_) (by rw[hs];rfl) (by first | rfl | simp[As])));obtain⟨a,xs,e,hx,q⟩:=q1;subst e;cases r1 with
 |cons r rr=>
  cases rr;cases(show _=AC a from r);obtain⟨Bk,rv,pl,_⟩:=I1.list hx;refine call_enumerate_list pl.isList λh' e1 i1 z1 old=>?_;have I2:A4 X Ae U H1 {s1 with heap:=h' }:=I1.kept λb o e=>old b o e;have la:a<s1.heap.objs.size:=by obtain⟨o,ho,-⟩:=pl.isList;exact Ap ho
  refine UX e1 ?_;refine⟨_,[s1.heap.objs.size+1,s1.heap.objs.size],_,_,H1,rfl,I2,qu _ _ a,⟨Ru _,⟨A6 (Ep la),A6 la⟩,⟨_,e1⟩,i1⟩,λc hc=>?_,q⟩
  have hge:s1.heap.objs.size<=c:=by
   simp only[By,AS,or_false]at hc;rcases hc with rfl|rfl
   .exact Gx _ _
   .exact AJ _
  exact I1.fpOk hge (I1.hok.fresh hge)
end L2
namespace L3
open PySem PySem.Spec PyProof.Rows L2
unseal BY HM Jl Gc Kd GN Dd Cb FP BS FC F5 KN Ho EK
section
noncomputable def Uj (n:Nat):List D->List D
 |[]=>[]
 |x::r=>.tup [.int n,x]::Uj (n+1) r
theorem iW:∀{n i:Nat}{xs:List D}{d:D},(Uj n xs)[i]? = some d->∃x,xs[i]? = some x/\d=.tup [.int (n+i:Nat),x]
 |_,_,[],_,h=>nomatch h
 |n,0,x::r,d,h=>by cases h;exact⟨x,rfl,rfl⟩
 |n,i+1,x::r,d,h=>by
  obtain⟨y,h1,h2⟩:=iW (xs:=r) h;exact⟨y,h1,by rw[h2,show n+1+i=n+(i+1) by ext]⟩
theorem iX:∀{n:Nat}{xs:List D},(Uj n xs).length=xs.length
 |_,[]=>rfl
 |n,x::r=>by rw[Uj,AO,iX,AO]
def lZ (t:Kc):Ng:=λτ M R=>t τ M λds M1=>GG ds λx=>Ck (Bf M1 x) λxs=>R (Uj 0 xs) (λM=>Bf M x=some xs) M1
theorem yK (hm:X.mg "enumerate" = none)(ha:Gc X [a] ta)(hg:Gl X "enumerate":=by rfl)(hs:As [a] X.env=[(false,eval a X.env)]:=by rfl) :
  Ho X (.Tuple es n tp) (.Call (.Name "enumerate" p) [a] [] pos) (lZ ta):=PI.mono (ai hg hm ha hs) (by
 intro U H R;ext1⟨Z,τ,M,R2,st,hr,h,k⟩;refine ⟨Z,τ,M,_,st,hr,h,λZ1 vs ds H1 M1 l1 h1 a1 q1=>?_⟩;obtain ⟨x,rfl,q0⟩:=Hk q1;obtain ⟨xs,ex,q⟩:=Ci q0;obtain ⟨v,rfl,a2⟩:=IF a1;obtain ⟨p,ws,rfl,hs,b2⟩:=h1.rdL ex a2;refine ⟨p,ws,rfl,hs,k Z1 _ (Uj 0 xs) _ H1 M1 l1 h1 (λi H M Z' l hr s=>?_) q⟩;obtain ⟨q,us,e2,hu,c2⟩:=hr.rdL s (a2.mono l);cases e2;have lu:=c2.length;refine ⟨λd hd=>?_,λhi=>⟨us,hu,by rw [iX] at hi;ext⟩⟩;obtain ⟨d1,g1,rfl⟩:=iW hd;obtain ⟨v1,hv1,av1⟩:=c2.get g1;refine ⟨⟨us,v1,hu,hv1⟩,λz H' yl=>?_⟩;obtain ⟨r,x',rfl,hn,rfl,f1⟩:=yl;have z1:=f1 us hu;rw [hv1] at z1;cases z1;exact ⟨_,Le.ext,hr.newT hn (.cons (show At Z' (V.int (i:Int)) (D.int ((0+i:Nat):Int)) by rw [EI];exact rfl) (.cons av1 .nil)),⟨r,rfl,.inr ⟨rfl,rfl⟩⟩⟩)
theorem dh :lZ t τ M R=t τ M λds M1=>GG ds λx=>Ck (Bf M1 x) λxs=>R (Uj 0 xs) (λM=>Bf M x=some xs) M1:=rfl
theorem tH :∀{vs:List V}{ds:List D}(i:Nat),Dq Z vs ds->Dq Z (vs.eraseIdx i) (ds.eraseIdx i)
 |[],[],_,.nil=>.nil
 |_::_,_::_,0,.cons _ t=>t
 |_::_,_::_,i+1,.cons a t=>.cons a (tH i t)
def Qg:D->List D->Mp->El->Prop:=λx xs M Q=>JO x λp=>GG xs λy=>EW y λi=>NU (M p) λys=>∃(j:Nat) (d:D),i=j/\j<1000000/\ys[j]? = some d/\Q d (put M p (.lst (ys.eraseIdx j)))
theorem fb:EK X "list.pop" Qg:=Nh.mono ud (by
 intro x xs H Q;ext1⟨Z,d,ds,M,Q2,hr,a,as,h,k⟩;obtain ⟨p,rfl,h1⟩:=Ib h;obtain ⟨y,rfl,h2⟩:=Hk h1;obtain ⟨i,rfl,h3⟩:=CU h2;obtain⟨ys,e,j,dj,e1',hj,hd,q⟩:_:=hZ h3;cases (show x=V.ref p from a);obtain ⟨v,rfl,av⟩:=IF as;cases (show v=V.int (j:Int) from av);obtain ⟨vs,r,a2⟩:=hr.rdM e;obtain ⟨u,hu,au⟩:=a2.get hd;have hl:=(Ah.mp hu).1;exact ⟨p,vs,j,j,u,rfl,rfl,r,by ext,by ext,(qJ (by unfold Rb;rw [if_pos (by ext),if_pos (by ext),BD])).1,hu,k Z u dj _ _ (Le.refl _) (hr.chgL e (tH j a2)) au q⟩)
theorem kq :Qg (.ref p) [.int i] M Q=NU (M p) λys=>∃(j:Nat) (d:D),i=j/\j<1000000/\ys[j]? = some d/\Q d (put M p (.lst (ys.eraseIdx j))):=by
 unfold Qg;rw[QB,ZG,gY]
end
end L3
namespace L3
open PySem PySem.Spec PyProof.Rows L2
unseal Dd
theorem HR.see {K:Ac}(h:HR K H M Z)(e:M p=some u)(hb:MB H Z p u'):HR K H (put M p u') Z:=by
 refine⟨h.z,λb w q=>?_⟩;by_cases hbp:b=p
 .subst hbp;rw[C8]at q;cases q;exact⟨(h.m b u e).1,hb⟩
 .rw[Ds hbp]at q;exact h.m b w q
theorem u6 :∀{f:List (B4×D)}{ks:List (B4×V)},Cq Z ks (f++[(k,.ref q)])->Cq (ext Z q (.lst xs)) ks (f++[(k,.lst xs)]):=by
 intro f;induction f with
 |nil=>
  intro ks h;cases h with
  |cons r t=>cases t;exact .cons ⟨r.1,by rw[show _=V.ref q from r.2];exact Z9⟩ .nil
 |cons a f ih=>
  intro ks h;cases h with
  |cons r t=>exact .cons ⟨r.1,r.2.mono Le.ext⟩ (ih t)
def cR (j:Nat)(t:Ht):Ht:=λE τ M=>∃p q f k xs,τ[j]? = some (some (.ref p))/\M p=some (.dic (f++[(k,.ref q)]))/\M q=some (.lst xs)/\t E τ (put (JA M q) p (.dic (f++[(k,.lst xs)])))
theorem nv (j:Nat)(h:Dd X body t):Dd X body (cR j t):=KL.mono h (by
 intro D U H;ext1⟨Z,τ,M,D2,st,hr,⟨p,q,f,k,xs,e,ep,eq,h⟩,er⟩;have hpq:p≠q:=by rintro rfl;rw[ep]at eq;cases eq
 have h1:=hr.frzL eq;have ep1:JA M q p=some (.dic (f++[(k,.ref q)])):=by unfold JA;rw[if_neg hpq,ep]
 obtain ⟨_,ks,r,a⟩:=hr.m p _ ep;exact ⟨_,_,_,D2,st.mono (Le.ext),h1.see ep1 (u':=.dic (f++[(k,.lst xs)])) ⟨ks,r,u6 a⟩,h,er.le Le.ext⟩)
end L3
namespace L3
open PySem PySem.Spec PyProof.Rows L2
noncomputable def Ui (ks:List (B4×D×D)):List (B4×D):=ks.map λk=>(k.1,k.2.1)
noncomputable def LI (ks:List (B4×D×D)):List (B4×D):=ks.map λk=>(k.1,k.2.2)
section
theorem X2 (I:A4 X Ae U H s)(hr:HR X.K H M Z)(hu:A.units+41<C9)(hn:((LI full).map (·.1)).Nodup)(k2:KV ks2 vs2)(a2:Cq Z ks2 (LI full))(fl:∀p∈full,DR M 40 p.2.1 p.2.2=some true) :
  ∀(ds:List (B4×D×D)) {ks:List (B4×V)} {vs:List (B4×Ai)},KV ks vs->Cq Z ks (Ui ds)->(∀p∈ds,p∈full)->PySem.W.KeqHits A s vs2 vs true:=by
 intro ds;induction ds with
 |nil=>intro ks vs r a _;cases a;cases r;exact .nil
 |cons p ds ih=>
  intro ks vs r a sub;cases a with
  |cons r' t'=>
   cases r with
   |cons r t=>
    rename_i x ks y vs;obtain⟨k1,v1⟩:=x;obtain⟨k2',u1⟩:=y;obtain⟨k3,d1,e1⟩:=p;have e1':=r.1;have e2:=r'.1;subst e1' e2;have m1:=sub _ (AF ..);have hv:=V6 hn (GR m1);rcases a2.val with⟨z,_⟩|⟨d',v',z,zv,av⟩
    .rw[hv]at z;cases z
    .rw[hv]at z;cases z;have ro:=k2.val k1;rw[zv]at ro;cases q:JC vs2 k1 with
     |none=>rw[q]at ro;exact ro.elim
     |some y=>rw[q]at ro;have eq:Eo A s u1 y true:=ZR I hr 40 r'.2 av r.2 ro (by ext) (fl _ m1);exact TD q eq (ih t t' λp hp=>sub p (AE _ hp))
end
def TZ (neg:Bool):KJ:=λx y M Q=>(∃ks,D5 M x=some (Ui ks)/\D5 M y=some (LI ks)/\∀p∈ks,DR M 40 p.2.1 p.2.2=some true)/\Q (.bl !neg) M
theorem yT :TZ neg x y M Q=((∃ks,D5 M x=some (Ui ks)/\D5 M y=some (LI ks)/\∀p∈ks,DR M 40 p.2.1 p.2.2=some true)/\Q (.bl !neg) M):=rfl
unseal Cb
theorem rY (hu:X.A.units+45<C9)(I:A4 X Ae U H s)(hr:HR X.K H M Z)(ax:At Z x dx)(ay:At Z y dy)(rx:RelV x v)(ry:RelV y u)
  (f1:D5 M dx=some (Ui ks)) (f2:D5 M dy=some (LI ks)) (fl:∀p∈ks,DR M 40 p.2.1 p.2.2=some true) :(Q (.bool true) s->Au (AA X.prog X.w) X.A (A7 .Eq v u) Q E s)/\(Q (.bool false) s->Au (AA X.prog X.w) X.A (A7 .NotEq v u) Q E s):=by
 obtain⟨p1,ks1,rfl,rd1,b1⟩:=hr.rdD f1 ax;obtain⟨p2,ks2,rfl,rd2,b2⟩:=hr.rdD f2 ay;cases(show v=AC p1 from rx);cases(show u=AC p2 from ry);obtain⟨l1,y1,vs1,k1,D1⟩:=Rh I.hok rd1;obtain⟨l2,y2,vs2,k2,D2⟩:=Rh I.hok rd2
 have hn:((LI ks).map (·.1)).Nodup:=by
  obtain⟨ep,da⟩:=D2.dictAt;rw[<- b2.keysEq,k2.keys];exact da.nodup
 have hits:=X2 I hr (A:=X.A.in1) (by show X.A.units+1+41<C9;ext) hn k2 b2 fl ks k1 b1 λp h=>h
 have le:(vs1.length == vs2.length && true)=true:=by
  have:=k1.length;have:=k2.length;have h1:=b1.length;have h2:=b2.length;unfold Ui at h1;unfold LI at h2;rw[Ab]at h1 h2;have:vs1.length=vs2.length:=by ext
  simp[this]
 exact⟨λq=>PySem.W.keq_eq y1 y2 D1 D2 (by ext) (λ_=>hits) (by rw[le];exact q),λq=>PySem.W.keq_ne y1 y2 D1 D2 (by ext) (λ_=>hits) (by rw[le];exact q)⟩
theorem zP {X:Cx}(hu:X.A.units+45<C9):Cb X (A7 .Eq) (TZ false):=by
 intro Ae s U H x y v u Q I rx ry;ext1⟨Z,dx,dy,M,Q2,hr,ax,ay,⟨⟨ks,f1,f2,fl⟩,q⟩,k⟩;exact(rY hu I hr ax ay rx ry f1 f2 fl).1 ⟨.bl true,H,I,rfl,k.b hr q⟩
theorem zR {X:Cx}(hu:X.A.units+45<C9):Cb X (A7 .NotEq) (TZ true):=by
 intro Ae s U H x y v u Q I rx ry;ext1⟨Z,dx,dy,M,Q2,hr,ax,ay,⟨⟨ks,f1,f2,fl⟩,q⟩,k⟩;exact(rY hu I hr ax ay rx ry f1 f2 fl).2 ⟨.bl false,H,I,rfl,k.b hr q⟩
end L3
namespace L2
open PySem PySem.Spec PyProof.Rows
noncomputable def UT (lo:Int)(n:Nat):It:=⟨λi _=>i<n,λi H x H'=>H'=H/\x=.int (lo+(i:Nat)*(-1:Int)),λi _=>n<=i⟩
theorem ξ {K:Ac}(it:Av)(lo:Int)(n:Nat):LY P w K F tg (UT lo n) [it] it (λi h=>Mg h it (lo+(i:Nat)*(-1:Int)) ((n:Int)-(i:Nat)) (-1)) where
 mem:=by simp
 obj:=λi h st b hb=>by
  have e:b=it:=by simpa using hb
  subst e
  exact ⟨_,st,λv z=>by
   have z':=z;cases z'⟩
 keep:=λi h h' st k=>k it (by simp) _ st
 item:=by
  intro X hP hw hK hF hc i Ae s U H E I hf st hg;subst hP hw hK;obtain⟨f0,f1,f2,f3,f4,f5⟩:=hf it (by simp);have W:=Vc (prog:=X.prog) (w:=X.w) (I.ok.hd hc) it lo (-1) n;refine W.item i s _ _ hg st λv h' tk hv st' kk=>?_;obtain⟨t,rfl⟩:=hv;have I1:A4 X Ae U H {s with heap:=h',toks:=tk}:=I.turned (λb o hb e=>kk b o (by simpa using hb) e) f0 f1 f3 f4 f5;exact⟨_,rfl,VA (s:={s with heap:=h',toks:=tk}) (n:="range_iterator") st' rfl rfl (by decide) ⟨.int (lo+(i:Nat)*(-1:Int)),H,I1,⟨t,rfl⟩,⟨rfl,rfl⟩,st',λb hb=>(hf b hb).1⟩⟩
 done:=by
  intro X hP hw hK hF hc i Ae s U H E I hf st hg;subst hP hw hK;obtain⟨f0,f1,f2,f3,f4,f5⟩:=hf it (by simp);exact PM (I.ok.hd hc) st (by have:n<=i:=hg;ext) λh' eb=>⟨rfl,I.turned (t':=s.toks) (λb o hb e=>eb b o hb e) f0 f1 f3 f4 f5⟩
 self:=λ_ _ _ _ _ st h=>PP st h
noncomputable def Py (lo hi:Int):Nat:=(if hi<lo then lo-hi else 0).toNat
theorem lh (lo hi:Int):((Py lo hi:Nat):Int)<=(if hi<lo then lo-hi else 0):=by
 unfold Py;split<;>ext
theorem sW {lo hi:Int}:((Py lo hi:Nat):Int)=Eu lo hi (-1):=by
 unfold Py Eu;rw[if_neg (by decide:¬(-1:Int) > 0),show -(-1:Int)=1 from rfl,WD];by_cases h:hi<lo
 .rw[if_pos h,if_pos h];ext
 .rw[if_neg h,if_neg h];rfl
def XZ (ta:TA):TI:=λU H R=>ta U H λvs H1=>∃i j,vs=[.int i,.int j,.int (-1)]/\(-(2^61)<=i/\i<2^61/\-(2^61)<=j/\j<2^61)/\R (UT i (Py i j)) H1
theorem xb (hg:Gl X "range")(hm:X.mg "range" = none)(ha:PA X [a,b,d] ta)(hs:As [a,b,d] X.env=[(false,eval a X.env),(false,eval b X.env),(false,eval d X.env)]:=by rfl)(hs2:As [b,d] X.env=[(false,eval b X.env),(false,eval d X.env)]:=by rfl) :
  PI X tg (.Call (.Name "range" p) [a,b,d] [] pos) (XZ ta):=by
 intro Ae s U H R I h;refine Call_ (PK I hg hm boot_range (BB (Dp (ha pos Ae s U H _ I h) λus s1 e=>e.el λvs H1 I1 r1 q1=>?_) (by rw[hs,hs2]) (by rw[hs2];rfl)));refine Ao λG' kk'=>?_;obtain⟨i,j,e,⟨q1,q2,q3,q4⟩,q⟩:=q1;refine kk' ?_;clear kk';subst e;cases r1 with
 |cons r rr=>
  cases rr with
  |cons r' rr=>
   cases rr with
   |cons r'' rr=>
    cases rr;obtain⟨t,rfl⟩:=r;obtain⟨t',rfl⟩:=r';obtain⟨t'',rfl⟩:=r'';refine call_range_3 (by ext) ?_ (.inl ?_)
    .have hsm:Ky i j (-1)=true:=by
      unfold Ky;rw[<- sW,if_neg (by decide)];simp only[BI,Ke];have:=lh i j;exact⟨⟨⟨⟨YA (by ext) (by ext),YA (by ext) (by ext)⟩,YA (by ext) (by ext)⟩,YA (by ext) (by ext)⟩,.inr (YA (by ext) (by ext))⟩
     refine Tn (Sv ..) hsm ?_;have I2:A4 X Ae U H1 {s1 with heap:=s1.heap.push {cls:=.type "range",data:=.fields #[.int i t,.int j t',.int (-1) t'']} }:=I1.kept λb o e=>Ag _ e
     refine ⟨(s1.heap.push { cls:=.type "range",data:=.fields #[.int i t,.int j t',.int (-1) t''] }).objs.size,[(s1.heap.push { cls:=.type "range",data:=.fields #[.int i t,.int j t',.int (-1) t''] }).objs.size],_,_,H1,rfl,
      I2.kept λb o e=>Ag _ e,ξ _ i (Py i j),?_,λb hb=>?_,q⟩
     .have e1:i+((0:Nat):Int)*(-1:Int)=i:=by simp
      have e2:((Py i j:Nat):Int)-((0:Nat):Int)=Eu i j (-1):=by rw[sW];ext
      show Mg _ _ (i+((0:Nat):Int)*(-1:Int)) (((Py i j:Nat):Int)-((0:Nat):Int)) (-1);rw[e1,e2];exact AB _ rfl
     .have e:b=(s1.heap.push {cls:=.type "range",data:=.fields #[.int i t,.int j t',.int (-1) t'']}).objs.size:=by simpa using hb
      subst e;exact I2.fpOk (AJ _) (I2.hok.fresh (AJ _))
    .exact PyProof.noPylong_of_log2 (by decide)
end L2
namespace L3
open PySem PySem.Spec PyProof.Rows L2
unseal BY HM Jl Gc Kd GN Dd Cb FP BS FC F5 KN Ho EK
noncomputable def MD (lo:Int)(n:Nat):List D:=(Bp n).map λk=>.int (lo+(k:Nat)*(-1:Int))
theorem sj {lo:Int}(h:(MD lo n)[i]? = some d):i<n/\d=.int (lo+(i:Nat)*(-1:Int)):=by
 unfold MD at h;rw[AH]at h;by_cases hi:i<n
 .rw[EJ hi]at h;exact⟨hi,(A9 h).symm⟩
 .rw[Bu (by simp;ext)]at h;cases h
theorem sk (lo)(n):(MD lo n).length=n:=by unfold MD;rw[Ab,B9]
theorem ym {K:Ac}(lo:Int)(n:Nat):YL K (UT lo n) (MD lo n) (λ_=>True) Z:=λi H M Z' l hr s=>by
 refine⟨λd hd=>?_,λhi=>by rw[sk]at hi;exact hi⟩;obtain⟨hi,rfl⟩:=sj hd;refine⟨hi,λx H' y=>?_⟩;obtain⟨rfl,rfl⟩:=y;exact⟨Z',Le.refl _,hr,rfl⟩
def Sx (t:Kc):Ng:=λτ M R=>t τ M λxs M1=>Je xs λx y z=>EW x λi=>EW y λj=>z=.int (-1)/\(-(2^61)<=i/\i<2^61/\-(2^61)<=j/\j<2^61)/\R (MD i (Py i j)) (λ_=>True) M1
theorem xf (hm:X.mg "range" = none)(ha:Gc X [a,b,d] ta)(hg:Gl X "range":=by rfl)(hs:As [a,b,d] X.env=[(false,eval a X.env),(false,eval b X.env),(false,eval d X.env)]:=by rfl)(hs2:As [b,d] X.env=[(false,eval b X.env),(false,eval d X.env)]:=by rfl) :
  Ho X tg (.Call (.Name "range" p) [a,b,d] [] pos) (Sx ta):=PI.mono (xb hg hm ha hs hs2) (by
 intro U H R;ext1⟨Z,τ,M,R2,st,hr,h,k⟩;refine ⟨Z,τ,M,_,st,hr,h,λZ1 vs ds H1 M1 l1 h1 a1 q1=>?_⟩;obtain ⟨x,y,z,rfl,q⟩:=RV q1;obtain ⟨i,rfl,q2⟩:=CU q;obtain ⟨j,rfl,rfl,b,q4⟩:=CU q2;obtain⟨v,w,u,e1',a2,a3,a4⟩:_:=gR a1;cases (show v=V.int i from a2);cases (show w=V.int j from a3);cases (show u=V.int (-1) from a4);exact ⟨i,j,rfl,b,k Z1 _ _ _ H1 M1 l1 h1 (ym _ _) q4⟩)
theorem qd :Sx tA τ M R=tA τ M λxs M1=>Je xs λx y z=>EW x λi=>EW y λj=>z=.int (-1)/\(-(2^61)<=i/\i<2^61/\-(2^61)<=j/\j<2^61)/\R (MD i (Py i j)) (λ_=>True) M1:=rfl
end L3
namespace PySem
namespace SetTable
noncomputable def gG (m i:Nat):Nat:=(i*5+1)%m
noncomputable def LM (m:Nat):Nat->Nat->Nat
 |0,i=>i
 |k+1,i=>LM m k (gG m i)
theorem aR :∀a b i,LM m (a+b) i=LM m b (LM m a i)
 |0,b,i=>by rw[EI];rfl
 |a+1,b,i=>by rw[P5];exact aR a b (gG m i)
def Mk (m:Nat):Prop:=m=8\/m=32\/m=128\/m=512
def Mw (m:Nat):Prop:=Mk m\/m=16
noncomputable def gB (m:Nat):Nat->Nat->List Nat
 |0,_=>[]
 |k+1,i=>i::gB m k (gG m i)
theorem jG :∀{k i j:Nat},j∈gB m k i->∃r,r<k/\LM m r i=j
 |k+1,i,j,h=>by
  rcases A3.mp h with rfl|h
  .exact⟨0,Nl _,rfl⟩
  .obtain⟨r,h1,h2⟩:=jG h;exact⟨r+1,Hc h1,h2⟩
theorem o7 (h:Mw m):((Bp m).all λj=>(gB m m 0).contains j)=true/\LM m m 0=0:=by
 rcases h with(rfl|rfl|rfl|rfl)|rfl<;>nofun
theorem lv (h:Mw m)(hi:i<m)(hj:j<m):∃r,r<m/\LM m r i=j:=by
 obtain⟨h1,h2⟩:=o7 h;rw[CM]at h1;obtain⟨a,a1,a2⟩:=jG (NB.mp (h1 i (Cv.mpr hi)));obtain⟨b,b1,b2⟩:=jG (NB.mp (h1 j (Cv.mpr hj)));rcases Nat.le_total a b with c|c
 .refine⟨b-a,by ext,?_⟩;rw[<- a2,<- aR,show a+(b-a)=b by ext,b2]
 .refine⟨(m-a+b)%m,PY _ (by ext),?_⟩;by_cases e:a=b
  .subst e;rw[show m-a+a=m by ext,Nat.mod_self,<- a2,b2];rfl
  .rw[Nat.mod_eq_of_lt (by ext),aR];have:LM m (m-a) i=0:=by rw[<- a2,<- aR,show a+(m-a)=m by ext,h2]
   rw[this,b2]
noncomputable def FO (mask:Nat):Nat->Nat×Nat->Nat×Nat
 |0,p=>p
 |k+1,p=>FO mask k (leap mask p.1 p.2)
theorem tZ {mask:Nat}:∀a b p,FO mask (a+b) p=FO mask b (FO mask a p)
 |0,b,p=>by rw[EI];rfl
 |a+1,b,p=>by rw[P5];exact tZ a b _
theorem vA {mask:Nat}:∀k p,(FO mask k p).2=p.2 / 32^k
 |0,p=>by rw[Nat.pow_zero,Zf];rfl
 |k+1,p=>by
  show(FO mask k (leap mask p.1 p.2)).2=_;rw[vA k,Nat.pow_succ',<- Nat.div_div_eq_div_mul];rfl
theorem uA (hm:0<m):∀k i,(FO (m-1) k (i,0))=(LM m k i,0)
 |0,i=>rfl
 |k+1,i=>by
  show FO (m-1) k ((i*5+1+0 / 32)%(m-1+1),0 / 32)=_;rw[show m-1+1=m by ext,Nat.zero_div,uA hm k];rfl
theorem sF {mask:Nat}:∀k p,p.1<=mask->(FO mask k p).1<=mask
 |0,p,h=>h
 |k+1,p,h=>sF k _ (Nat.le_of_lt_succ (PY _ (Nl _)))
theorem vb {m:Nat}(h:Mw m){i pert j:Nat}(hp:pert<2^64)(hi:i<m)(hj:j<m):∃k,k<m+13/\(FO (m-1) k (i,pert)).1=j:=by
 have e:(FO (m-1) 13 (i,pert)).2=0:=by
  rw[vA];exact Nat.div_eq_of_lt (Bl hp (by decide))
 have l:=sF (mask:=m-1) 13 (i,pert) (by show i<=_;ext);obtain⟨r,r1,r2⟩:=lv h (i:=(FO (m-1) 13 (i,pert)).1) (by ext) hj;refine⟨13+r,by ext,?_⟩;rw[tZ,show FO (m-1) 13 (i,pert)=((FO (m-1) 13 (i,pert)).1,0)from Ss rfl e,uA (by ext),r2]
theorem sV :∀{l:List (Option α)}{j:Nat},l[j]? = some none->((l.set j (some k)).filterMap id).length=(l.filterMap id).length+1
 |x::l,0,h=>by
  cases h;rfl
 |x::l,j+1,h=>by
  rw[B5,C0,C0];have ih:=sV (k:=k) (l:=l) (j:=j) h;cases x with
  |none=>exact ih
  |some y=>exact congrArg (·+1) ih
theorem sT :∀{l:List (Option α)}{j:Nat},l[j]? = some none->((l.set j (some k)).filterMap id).Perm (k::l.filterMap id)
 |x::l,0,h=>by
  cases h;exact Ec _
 |x::l,j+1,h=>by
  rw[B5,C0,C0];have ih:=sT (k:=k) (l:=l) (j:=j) h;cases x with
  |none=>exact ih
  |some y=>exact(ih.cons y).trans (OT k y _)
theorem uG :∀{l:List (Option α)},(l.filterMap id).length<l.length->∃j:Nat,l[j]? = some none
 |[],h=>absurd h (Su _)
 |none::l,_=>⟨0,rfl⟩
 |some x::l,h=>by
  obtain⟨j,hj⟩:=uG (Dk h);exact⟨j+1,hj⟩
theorem tT {mask:Nat}(h0:(owner.getD j0 (some 0)).isNone=true):∀fuel r i pert,r<fuel->(FO mask r (i,pert)).1=j0->∃j,layClean.free mask owner fuel i pert=some j/\(owner.getD j (some 0)).isNone=true
 |0,r,_,_,h,_=>absurd h (Su _)
 |fuel+1,r,i,pert,h,e=>by
  unfold layClean.free;split
  .next k hk=>exact⟨i+k,rfl,by have:=List.find?_some hk;exact this⟩
  .next hn=>
   cases r with
   |zero=>exfalso;have:=e;subst this;have:=EV.mp hn 0 (Cv.mpr (by unfold runEnd;split<;>ext));exact this h0
   |succ r=>exact tT h0 fuel r _ _ (Dk h) e
structure Si (mask:Nat)(owner:Array (Option Nat))(k:Nat):Prop where
 s:owner.size=mask+1
 n:(owner.toList.filterMap id).length=k
 v:∀v,some v∈owner.toList->v<k
 p:(owner.toList.filterMap id).Perm (Bp k)
theorem getD_none {owner:Array (Option Nat)}(h:(owner.getD j (some 0)).isNone=true):owner.toList[j]? = some none:=by
 rw[C2];rw[FM]at h;cases q:owner[j]? with
 |none=>rw[q]at h;cases h
 |some x=>
  rw[q]at h;cases x with
  |none=>rfl
  |some y=>cases h
theorem sE {mask:Nat}(hm:Mw (mask+1)):∀(hs:List Int) (owner:Array (Option Nat)) (k:Nat),Si mask owner k->k+hs.length<=mask->∃owner',(hs.foldl (λacc h=>acc >>= λx:Array (Option Nat)×Nat=>layClean.free mask x.1 (turns mask) (bits h%(mask+1)) (bits h) >>= λj=>pure (x.1.setIfInBounds j (some x.2),x.2+1)) (some (owner,k)))=some (owner',k+hs.length)/\Si mask owner' (k+hs.length)
 |[],owner,k,ok,_=>⟨owner,rfl,ok⟩
 |h::hs,owner,k,ok,hl=>by
  rw[AO]at hl;obtain⟨j0,hj0⟩:=uG (by rw[ok.n,BE,ok.s];ext);have jl:=(Ah.mp hj0).1;rw[BE,ok.s]at jl;have hb:bits h<2^64:=by unfold bits;ext
  obtain⟨r,r1,r2⟩:=vb hm hb (PY _ (Nl _)) jl
  have g0:(owner.getD j0 (some 0)).isNone=true:=by
   rw[C2]at hj0;rw[FM,hj0];rfl
  obtain⟨j,e1,e2⟩:=tT (mask:=mask) g0 (turns mask) r _ _ (by unfold turns;ext) r2;have ej:=getD_none e2
  have ok':Si mask (owner.setIfInBounds j (some k)) (k+1):=by
   refine⟨by rw[Array.size_setIfInBounds];exact ok.s,?_,λv hv=>?_,?_⟩
   .rw[F2,sV ej,ok.n]
   .rw[F2]at hv;rcases List.mem_or_eq_of_mem_set hv with hv|hv
    .exact Ep (ok.v v hv)
    .cases hv;exact He _
   .rw[F2,Rx];exact(sT ej).trans ((ok.p.cons k).trans (List.perm_append_singleton _ _).symm)
  obtain⟨ow,f1,f2⟩:=sE hm hs _ (k+1) ok' (by ext);refine⟨ow,?_,by rw[AO,show k+(hs.length+1)=k+1+hs.length by ext];exact f2⟩;rw[DL,AO,show k+(hs.length+1)=k+1+hs.length by ext,<- f1];congr 1
  show(layClean.free mask owner (turns mask) (bits h%(mask+1)) (bits h) >>= λj=>pure (owner.setIfInBounds j (some k),k+1))=_;rw[e1];rfl
theorem laid_ok2 {mask finger moves:Nat}{led plain:Bool}(hm:Mw (mask+1))(hl:hs.size<=mask):∃(t:Dl) (order:Array Nat),laid mask finger moves led plain hs=some (t,order)/\t.mask=mask/\t.place.size=hs.size/\t.dummies=#[]/\t.led=led/\t.plain=plain/\order.toList.Perm (Bp hs.size):=by
 have o0:Si mask (Array.replicate (mask+1) none) 0:=by
  refine⟨Array.size_replicate,?_,λv hv=>?_,?_⟩
  .rw[Hh];simp
  .rw[Hh]at hv;cases(EN hv)
  .rw[Hh];simp
 obtain⟨ow,f1,f2⟩:=sE hm hs.toList _ 0 o0 (by rw[EI,BE];exact hl);rw[EI,BE]at f1 f2
 have lc:layClean mask hs=some ow:=by
  unfold layClean;rw[<- Array.foldl_toList];refine(congrArg (G5 Prod.fst) f1).trans rfl
 unfold laid;rw[lc]
 have e1:((Bp (mask+1)).filterMap λj=>(ow.getD j none).map λx=>(j,x)).map (·.2)=ow.toList.filterMap id:=by
  rw[Pr]
  have:ow.toList=(Bp (mask+1)).map λj=>ow.getD j none:=by
   apply Fp;intro j;rw[C2,AH];rcases GU j (mask+1)with h|h
   .rw[EJ h,AW (by rw[f2.s];exact h)];show _=some (ow.getD j none);rw[FM,AW (by rw[f2.s];exact h)];rfl
   .rw[Bu (by rw[B9];exact h),DQ (by rw[f2.s];exact h)];rfl
  rw[this,Jj];congr 1
  funext j;show G5 _ (G5 _ (ow.getD j none))=ow.getD j none;cases ow.getD j none<;>rfl
 have e2:((Bp (mask+1)).filterMap λj=>(ow.getD j none).map λx=>(j,x)).length=hs.size:=by
  have:=congrArg Es e1;rw[Ab,f2.n]at this;exact this
 refine⟨_,_,rfl,rfl,?_,rfl,rfl,rfl,?_⟩
 .show((((Bp (mask+1)).filterMap λj=>(ow.getD j none).map λx=>(j,x)).map (·.1)).toArray).size=_;rw[AV,Ab,e2]
 .show(((Bp (mask+1)).filterMap λj=>(ow.getD j none).map λx=>(j,x)).map (·.2)).Perm _;rw[e1];exact f2.p
end SetTable
end PySem
namespace L2
open PySem PySem.Spec PyProof.Rows L3
theorem ZfY:KZ UZ "set.__and__" = some Ek.«frozenset.__and__»:=Jr (id':="frozenset.__and__") (by kernel_rfl) rfl (by nofun) (by kernel_rfl)
theorem ZfX:KZ UZ "set.__xor__" = some Ek.«frozenset.__xor__»:=Jr (id':="frozenset.__xor__") (by kernel_rfl) rfl (by nofun) (by kernel_rfl)
theorem uU (xs:Array α)(i:Nat)(h:i<xs.size):(Dw xs i).size=xs.size-1:=by
 unfold Dw;rw[L6,Il,Il];ext
theorem uT (xs:Array α)(i:Nat):(Dw xs i).toList=xs.toList.eraseIdx i:=by
 unfold Dw;rw[Ot,NH,NH,List.eraseIdx_eq_take_drop_succ];simp;exact BO (by simp)
theorem zd (xs:Array α)(p:Nat)(x:α):(IL xs p x).size=xs.size+1:=by
 unfold IL;rw[L6,Array.size_push,Il,Il];ext
section
variable {prog:Bq}{w:BM}{A:Cy}{E:Ai->Ar->Prop}{s:Ar}{a:Av}
theorem sA (ho:s.heap.get? a=some o)(hd:o.data=Ih es ep t)(hes:IH w es.toList)(hsz:es.size<Bg)(hfit:t.fits es.size=true)
  (h:Q (es.toList.findIdx? λe=>(Bx prog w).is x e.2) s):Au (AA prog w) A (PU a (.str x tk) (Fo w x)) Q E s:=by
 unfold PU;generalize hN:(99999:Nat)=N;rw[show(100000:Nat)=99999+1 from rfl,hN];unfold setFindIn;refine Aa (A5 ho hd hfit ?_);dsimp only;rw[if_pos (byScan_of (knd:=Bx prog w) (x:=.str x tk) rfl hsz hes.elems)];refine Aa (GP ?_);refine Aa (Wa (knd:=Bx prog w) (k:=x) (by simp[Bx,D7]) ho hd hfit hes.elems ?_);cases hr:es.toList.findIdx? λe=>(Bx prog w).is x e.2 with
 |none=>rw[hr]at h;exact Ad h
 |some j=>rw[hr]at h;refine Ad ?_;rw[EI];exact h
theorem π (hS:CS w s.heap a ks led)(h:∀r,r.isSome=decide (x∈ks)->Q r s):Au (AA prog w) A (PU a (.str x tk) (Fo w x)) Q E s:=by
 obtain⟨o,es,ep,tb,ho,hex,hd,hes,hp,hsz,hfit,hled,hpl⟩:_:=hS;refine sA ho hd hes hsz hfit (h _ ?_);by_cases hx:x∈ks
 .obtain⟨j,hj⟩:=kG hes (hp.mem_iff.mpr hx);rw[hj,decide_eq_true hx];rfl
 .rw[kF hes (λh=>hx (hp.mem_iff.mp h)),decide_eq_false hx];rfl
theorem ο (hS:CS w s.heap a ks led)
  (hQ:∀h',BH a s.heap h'->CS w h' a (ks.erase x) led->Q (decide (x∈ks)) {s with heap:=h' }):Au (AA prog w) A (Lu a (.str x tk) (Fo w x)) Q E s:=by
 obtain⟨o,es,ep,tb,ho,hex,hd,hes,hp,hsz,hfit,hled,hpl⟩:_:=id hS;unfold Lu;refine Aa (sA ho hd hes hsz hfit ?_);by_cases hx:x∈ks
 .obtain⟨j,hj⟩:=kG hes (hp.mem_iff.mpr hx);rw[hj];dsimp only;refine Aa (A5 ho hd hfit ?_);dsimp only;obtain⟨hl,hm,-⟩:=List.findIdx?_eq_some_iff_getElem.mp hj;have hl':j<es.size:=by simpa using hl
  have hxj:strOf (es.toList[j]).2=x:=by
   obtain⟨y,t,e⟩:=hes _ (FX hl);rw[e]at hm ⊢;have:y=x:=by simpa[Bx,D7]using hm
   exact this
  have hpe:(x::GH (Dw es j).toList).Perm ks:=by
   have z:=((Kn es.toList j hl).map λe:Int×Ai=>strOf e.2).trans hp;rw[AR,hxj]at z;rw[uT];exact z
  have hok:IH w (Dw es j).toList:=λe he=>by
   rw[uT]at he;exact hes e (List.mem_of_mem_eraseIdx he)
  have hf:tb.place.size=es.size/\tb.fill<=tb.mask:=by
   unfold ED at hfit;simpa using hfit
  have hpj:tb.place[j]? = some (tb.place[j]'(by ext)):=AW _
  have hdr:tb.drop j={tb with place:=Dw tb.place j,dummies:=IL tb.dummies (C1 tb.dummies (tb.place[j]'(by ext))) (tb.place[j]'(by ext))}:=by
   unfold SetTable.drop;rw[hpj]
  have hsz2:=uU es j hl';obtain⟨o1,ho1,hex1,hd1⟩:=stored ho hex hd;have hline:Bg<=Am:=by decide
  refine Aa (DA ho hd ?_ (by ext));refine Aa (wpAny_point (Ad ?_));have z:=hQ _ (Bd _ _ _) ⟨o1,_,_,_,ho1,hex1,hd1,hok,(List.cons_perm_iff_perm_erase.mp hpe).2,by ext,?_,?_,λ_=>?_⟩
  .rw[decide_eq_true hx]at z;exact z
  .rw[hdr];unfold ED HW;dsimp only;rw[uU _ _ (by ext),zd,hsz2];have:=hf.2;unfold HW at this;simp only[BI,beq_iff_eq,decide_eq_true_eq];ext
  .rw[hdr];exact hled
  .rw[hdr];exact hpl (by ext)
 .rw[kF hes (λh=>hx (hp.mem_iff.mp h))];refine Ad ?_;have z:=hQ s.heap (CJ _ _) (by rw[NA hx];exact hS);rw[decide_eq_false hx]at z;exact z
theorem CS.typeIs (hS:CS w s.heap a ks led):s.TypeIs (.ref a) "set":=by
 obtain⟨o,es,ep,t,ho,hex,-⟩:_:=hS;exact⟨o,ho,hex.1⟩
theorem CS.keep (hS:CS w h a ks led)(hk:∀o,h.get? a=some o->h'.get? a=some o):CS w h' a ks led:=by
 obtain⟨o,es,ep,t,ho,C6⟩:=hS;exact⟨o,es,ep,t,hk _ ho,C6⟩
theorem Qv {M:Model}{α:Type}{f:α->PUnit->Sem (ForInStep PUnit)}{I:List α->Ar->Prop}(D:List α)(hf:∀d x l s (Q':ForInStep PUnit->Ar->Prop),D=d++x::l->I d s->(∀s',I (d++[x]) s'->Q' (.yield ⟨⟩) s')->Au M A (f x ⟨⟩) Q' E s) :
  ∀l d s Q,D=d++l->I d s->(∀s',I D s'->Q ⟨⟩ s')->Au M A (forIn l F1 f) Q E s
 |[],d,s,Q,e,h,hQ=>by
  rw[Pc];rw[CH]at e;subst e;exact Ad (hQ s h)
 |x::l,d,s,Q,e,h,hQ=>by
  rw[GV];refine Aa (hf d x l s _ e h λs' h'=>?_);exact Qv D hf l (d++[x]) s' Q (by rw[e,Bo];rfl) h' hQ
theorem T3 {es:List (Int×Ai)}(hes:IH w es){Q:Option Bool×Unit->Ar->Prop}(h:Q (none,()) s){f:Int×Ai->Option Bool×Unit->Sem (ForInStep (Option Bool×Unit))}(hf:∀k x t r,f (k,.str x t) r=pure (.yield (none,()))):Au (AA prog w) A (forIn es (none,()) f) Q E s:=by
 induction es with
 |nil=>rw[Pc];exact Ad h
 |cons e es ih=>obtain⟨x,t,rfl⟩:=hes e (AF ..);rw[GV,hf];exact Aa (Ad (ih λe he=>hes e (AE _ he)))
theorem Zg5 {Q:Bool->Ar->Prop}(sets)(hq:∀b∈sets,∃ks led,CS w s.heap b ks led)(h:Q true s):Au (AA prog w) A (setsQuiet sets) Q E s:=by
 unfold setsQuiet;refine Aa ?_
 have key:∀sets:List Av,(∀b∈sets,∃ks led,CS w s.heap b ks led)->∀(Q:Option Bool×Unit->Ar->Prop) (f:Av->Option Bool×Unit->Sem (ForInStep (Option Bool×Unit))),(∀b r Q',(∃ks led,CS w s.heap b ks led)->Q' (.yield (none,())) s->Au (AA prog w) A (f b r) Q' E s)->Q (none,()) s->Au (AA prog w) A (forIn sets (none,()) f) Q E s:=by
  intro sets;induction sets with
  |nil=>intro _ Q f _ h;rw[Pc];exact Ad h
  |cons b sets ih=>intro hq Q f hf h;rw[GV];exact Aa (hf b _ _ (hq b (AF ..)) (ih (λc hc=>hq c (AE _ hc)) Q f hf h))
 refine key sets hq _ _ (λb r Q' ⟨ks,led,hS⟩ h'=>?_) (Ad h);obtain⟨o,es,ep,t,ho,hex,hd,hes,hp,hsz,hfit,hled,hpl⟩:_:=hS;refine Aa (wpAny_setEntries_of ho hd hfit ?_);refine Aa ?_;rw[<- KY];exact T3 hes (Ad h') λ_ _ _ _=>rfl
theorem kU (h:Q (w.params.followText "set-order") s):Au (AA prog w) A Im Q E s:=by
 unfold Im;exact Aa (Dc (Ad h))
theorem wC (hS:CS w s.heap a ks (!(w.params.followText "set-order")))(hf:CS w s.heap f kf (!(w.params.followText "set-order")))
  (hq:∀b∈others,∃ks led,CS w s.heap b ks led)
  (hQ:∀(es:Array (Int×Ai)) (h':CV),IH w es.toList->(GH es.toList).Perm ks->BH f s.heap h'->CS w h' f kf (!(w.params.followText "set-order"))->Q es {s with heap:=h' }) :
  Au (AA prog w) A (OH a others (some f)) Q E s:=by
 obtain⟨o,es,ep,t,ho,hex,hd,hes,hp,hsz,hfit,hled,hpl⟩:_:=id hS;unfold OH;refine Aa (A5 ho hd hfit ?_);dsimp only;refine Aa (kU ?_);have plain_ok:=hQ es s.heap hes hp (CJ _ _) hf;split
 .next c=>
  unfold setWalk;refine Aa (A5 ho hd hfit ?_);dsimp only;refine Aa (kU ?_);split
  .refine Aa (Dc (Ad ?_));have pp:=xA (w.params.setOrder a ep) es;exact hQ _ s.heap (λe he=>hes e (pp.mem_iff.mp he)) ((pp.map _).trans hp) (CJ _ _) hf
  .next ft=>
   have ft:w.params.followText "set-order" = false:=by simpa using ft
   rw[ft]at c hled;have hl:=hled
   have h1:es.size<=1:=by
    rcases GU 1 es.size with h|h
    .have hq:=hpl (by ext);rw[hq]at c;simp at c;exact c
    .exact h
   split
   .next hc=>
    have h':(!t.plain && decide (es.size > 1))=true:=hc;simp at h';ext
   .refine Aa ?_;show Au _ A (if (!t.led && decide (es.size > 1))=true then unsupported "set:maker-not-led" else pure ()) _ E s;rw[if_neg (by rw[hl];simp)];exact Ad (Ad plain_ok)
 .refine Aa (Zg5 (a::others) (λb hb=>?_) ?_)
  .rcases A3.mp hb with rfl|hb
   .exact⟨_,_,hS⟩
   .exact hq b hb
  .rw[if_neg (by simp)];refine Aa (GP ?_);obtain⟨o2,es2,ep2,t2,ho2,hex2,hd2,hes2,hp2,hsz2,hfit2,hled2,hpl2⟩:_:=id hf;refine Aa (A5 ho2 hd2 hfit2 ?_);dsimp only;split
   .have hline:Bg<=Am:=by decide
    obtain⟨o1,ho1,hex1,hd1⟩:=stored ho2 hex2 hd2;refine Aa (DA ho2 hd2 (Ad (hQ es _ hes hp (Bd _ _ _) ⟨o1,_,_,_,ho1,hex1,hd1,hes2,hp2,hsz2,?_,?_,λh=>?_⟩)) (by ext))
    .exact hfit2
    .show(t2.led && t.led)=_;rw[hled2,hled,I0]
    .show(t2.plain && t.plain)=false;rw[hpl2 h,E6]
   .exact Ad plain_ok
theorem UI (hT:s.TypeIs (.ref b) "set")(h:Q true s):Au (AA prog w) A (H0 (.ref b)) Q E s:=by
 unfold H0 orM;exact Aa (HN hT KP (Ad h))
theorem wT (hT:s.TypeIs (.ref b) "set")(h:Q (.type "set") s):Au (AA prog w) A (Iv b) Q E s:=by
 unfold Iv;exact Aa (HN hT KP (Ad h))
noncomputable def Fh (w:BM):Obj:={cls:=.type "set",dict:=none,data:=.set #[] 0 (.fresh 0 0 (!(w.params.followText "set-order")))}
theorem wN (h:Q (.ref s.heap.objs.size) {s with heap:=s.heap.push (Fh w)}):Au (AA prog w) A (newSet (.type "set")) Q E s:=by
 unfold newSet;refine Aa (kU ?_);dsimp only;simp only[newObj];exact Aa (wpAny_alloc (Ad h))
theorem aG:∀(l ks:List Str),ks.Nodup->(l.foldl (λks x=>if x∈ks then ks else ks++[x]) ks).Nodup/\∀x,x∈l.foldl (λks x=>if x∈ks then ks else ks++[x]) ks↔x∈ks\/x∈l
 |[],ks,h=>⟨h,λx=>⟨.inl,λz=>z.elim id λz=>absurd z (AS)⟩⟩
 |y::l,ks,h=>by
  rw[DL];split
  .next c=>
   obtain⟨i1,i2⟩:=aG l ks h;refine⟨i1,λx=>(i2 x).trans ?_⟩;rw[By];exact⟨λz=>z.elim .inl λz=>.inr (.inr z),λz=>z.elim .inl λz=>z.elim (λe=>.inl (e ▸ c)) .inr⟩
  .next c=>
   obtain⟨i1,i2⟩:=aG l (ks++[y]) (BJ.mpr ⟨h,by simp,λa ha b hb=>by rw[AL.mp hb];exact λe=>c (e ▸ ha)⟩);refine⟨i1,λx=>(i2 x).trans ?_⟩;rw[Di,E1,By,or_assoc]
theorem Uu (l:List Str)(x:Str):x∈fm l↔x∈l:=by
 have:=(aG l [] Lw).2 x;unfold fm;rw[this];exact⟨λz=>z.elim (λz=>absurd z AS) id,.inr⟩
theorem X7 (l:List Str):(fm l).Nodup:=(aG l [] Lw).1
theorem wS {id:String}(ho:s.heap.get? a=some o)(hd:o.data=.set es ep t)(hf:t.fits es.size=true)(h:Q () s):Au (AA prog w) A (BN id a ep) Q E s:=by
 unfold BN;refine Aa (V4 ho hd hf ?_);rw[if_neg (by simp)];exact Ad h
theorem vz {id:String}(har:a≠r)(hgr:g≠r)(ho:s.heap.get? a=some o)(hd:o.data=.set es0 ep t)(hfit:t.fits es0.size=true)(hes:IH w es)(hl:es.length+1<Bg)(hg:CS w s.heap g kg (!(w.params.followText "set-order")))(hr:CS w s.heap r [] (!(w.params.followText "set-order")))
  (hQ:∀h',BH r s.heap h'->CS w h' r (fm ((GH es).filter (·∈kg))) (!(w.params.followText "set-order"))->Q ⟨⟩ {s with heap:=h' }) :
  Au (AA prog w) A (forIn es F1 λx __s=>match x with
   |(h,x)=>do
    Gy [x] do
     let __do_lift <- PU g x h
     if __do_lift.isSome=true then do
      let _ <- Io r x h
      pure ()
     else pure ()
    BN id a ep
    pure (C7 F1)) Q E s:=by
 refine Qv (I:=λd s'=>∃h',BH r s.heap h'/\CS w h' r (fm ((GH d).filter (·∈kg))) (!(w.params.followText "set-order"))/\s'={s with heap:=h' }) es ?_ es [] s Q rfl ⟨s.heap,CJ _ _,hr,rfl⟩ ?_
 .rintro d ⟨k,v⟩ l s1 Q' hx ⟨h1,sb,hS,rfl⟩ hQ';obtain⟨x,tk,e⟩:=hes _ (by rw[hx];exact AU _ (AF ..));cases e;have hdl:d.length<es.length:=by rw[hx,Aq,AO];ext
  have ek:GH (d++[(Fo w x,De x tk)])=GH d++[x]:=by unfold GH;rw[AI];rfl
  have ua:∀{h2:CV} {Q'':Unit->Ar->Prop},BH r s.heap h2->Q'' () {s with heap:=h2}->Au (AA prog w) A (BN id a ep) Q'' E {s with heap:=h2}:=λ{h2} _ sb2 q=>wS ((sb2.2 a har).trans ho) hd hfit q;refine Aa (BV (Aa (π (hg.keep λo e=>(sb.2 g hgr).trans e) λb hb=>?_)));split
  .next c=>
   have hxg:=of_decide_eq_true (hb.symm.trans c);refine Aa (kK hS ?_ λ_ h2 sb2 hS2=>Ad ?_)
   .have z1:=Uv ((GH d).filter (·∈kg));have z2:=Cu (λx=>decide (x∈kg)) (GH d);have z3:(GH d).length=d.length:=by unfold GH;rw[Ab]
    ext
   .refine Aa (ua (sb.trans sb2) (Ad (hQ' _ ⟨h2,sb.trans sb2,?_,rfl⟩)));rw[ek,DN,List.filter_cons_of_pos (by simpa using hxg),Kf,qG];exact hS2
  .next c=>
   have hxg:¬x∈kg:=λh=>c (hb.trans (decide_eq_true h));refine Ad (Aa (ua sb (Ad (hQ' _ ⟨h1,sb,?_,rfl⟩))));rw[ek,DN,List.filter_cons_of_neg (by simpa using hxg),Kf,CH];exact hS
 .rintro s1 ⟨h1,sb,hS,rfl⟩;exact hQ h1 sb hS
theorem qy {b:Av}{ks ls:List Str}{Q:Ai->Ar->Prop}(hab:b≠a)(ha:CS w s.heap a ks (!(w.params.followText "set-order")))(hb:CS w s.heap b ls (!(w.params.followText "set-order")))(hz:ks.length+1<Bg)(hy:ls.length+1<Bg)
  (hQ:∀h' ms,(∀c o,s.heap.get? c=some o->h'.get? c=some o)->CS w h' s.heap.objs.size ms (!(w.params.followText "set-order"))->ms.Nodup->(∀x,x∈ms↔x∈ks/\x∈ls)->ms.length<=ks.length+ls.length->Q (.ref s.heap.objs.size) {s with heap:=h' }) :
  Au (AA prog w) A (Bt .BitAnd (.ref a) (.ref b)) Q E s:=by
 refine Sl ha.typeIs hb.typeIs F.fills_set_and F.slot_set_and (B8 F.slot_set_and ha.typeIs ZfY ?_ (F.args_set_and_2 _ _));refine Aa (Cd rfl ?_);dsimp only;rw[if_neg (by decide)];dsimp only;unfold andM;refine Aa (Aa (UI ha.typeIs ?_));refine UI hb.typeIs ?_;rw[if_neg (by decide)];refine Aa (Cd rfl ?_);refine Aa ?_;unfold RF;rw[if_neg (by simpa using hab)];refine Aa (wT ha.typeIs (Aa (wN ?_)));refine Aa (Cd rfl ?_);have hk0:∀c o,s.heap.get? c=some o->(s.heap.push (Fh w)).get? c=some o:=λc o e=>Ag _ e;have ha1:=ha.keep λo e=>hk0 a o e;have hb1:=hb.keep λo e=>hk0 b o e;have hr1:CS w (s.heap.push (Fh w)) s.heap.objs.size [] (!(w.params.followText "set-order")):=kJ (AB _ rfl) rfl;have lta:a<s.heap.objs.size:=by obtain⟨o,es,ep,t,ho,-⟩:=ha;exact Ap ho
 have ltb:b<s.heap.objs.size:=by obtain⟨o,es,ep,t,ho,-⟩:=hb;exact Ap ho
 refine Aa (BV ?_);refine Aa (UI hb1.typeIs ?_);rw[if_pos rfl];refine Aa (Cd rfl ?_)
 have go:∀{c d:Av} {kc kd:List Str},c<s.heap.objs.size->d<s.heap.objs.size->kc.length+1<Bg->CS w (s.heap.push (Fh w)) c kc (!(w.params.followText "set-order"))->CS w (s.heap.push (Fh w)) d kd (!(w.params.followText "set-order"))->(∀x,x∈kc/\x∈kd↔x∈ks/\x∈ls)->kc.length<=ks.length+ls.length->∀Q2:Unit->Ar->Prop,(∀h' ms,(∀c o,s.heap.get? c=some o->h'.get? c=some o)->CS w h' s.heap.objs.size ms (!(w.params.followText "set-order"))->ms.Nodup->(∀x,x∈ms↔x∈ks/\x∈ls)->ms.length<=ks.length+ls.length->Q2 () {s with heap:=h' }) ->
   Au (AA prog w) A.in1 (do
    let was <- cG c
    let __do_lift <- OH c [d,s.heap.objs.size] (some s.heap.objs.size)
    forIn __do_lift F1 λx __s=>match x with
     |(h,x)=>do
      Gy [x] do
       let __do_lift <- PU d x h
       if __do_lift.isSome=true then do
        let _ <- Io s.heap.objs.size x h
        pure ()
       else pure ()
      BN (toString "frozenset."++toString "__and__") c was
      pure (C7 F1)
    pure ()) Q2 E { s with heap:=s.heap.push (Fh w) }:=by
  intro c d kc kd ltc ltd hcl hc hd hm hle Q2 q2;obtain⟨o,es,ep,t,ho,hex,hdd,hes,hp,hsz,hfit,hled,hpl⟩:_:=id hc;refine Aa (V4 ho hdd hfit ?_);refine Aa (wC hc hr1 (λb hb=>?_) λes' h' hes' hp' sb hr2=>?_)
  .simp only[By,AS,or_false]at hb;rcases hb with rfl|rfl
   .exact⟨_,_,hd⟩
   .exact⟨_,_,hr1⟩
  .have sb:=sb;rw[<- KY]
   have hel:es'.toList.length=kc.length:=by
    have:=hp'.length_eq;unfold GH at this;rwa[Ab]at this
   refine Aa (vz (A6 ltc) (A6 ltd) ((sb.2 c (A6 ltc)).trans ho) hdd hfit hes' (by ext) (hd.keep λo e=>(sb.2 d (A6 ltd)).trans e) hr2 λh2 sb2 hS2=>Ad ?_);refine q2 h2 _ (λe o he=>?_) hS2 (X7 _) (λx=>?_) ?_
   .have ne:=A6 (Ap he);exact(sb2.2 e ne).trans ((sb.2 e ne).trans (hk0 e o he))
   .rw[Uu,Eh,hp'.mem_iff];simp only[decide_eq_true_eq];exact hm x
   .have z1:=Uv ((GH es'.toList).filter (·∈kd));have z2:=Cu (λx=>decide (x∈kd)) (GH es'.toList);have z3:=hp'.length_eq;ext
 obtain⟨o1,es1,ep1,t1,ho1,hex1,hd1,hes1,hp1,hsz1,hfit1,-⟩:_:=id ha1;obtain⟨o2,es2,ep2,t2,ho2,hex2,hd2,hes2,hp2,hsz2,hfit2,-⟩:_:=id hb1;refine Aa (lJ ho2 hd2 hfit2 ?_);refine Aa (lJ ho1 hd1 hfit1 ?_);by_cases c:es2.size > es1.size
 .rw[if_pos c];refine go lta ltb hz ha1 hb1 (λx=>Iff.rfl) (by ext) _ λh' ms k1 k2 k3 k4 k5=>?_;exact Ad (Ad ⟨_,rfl,λe=>(by cases e),hQ h' ms k1 k2 k3 k4 k5⟩)
 .rw[if_neg c];refine go ltb lta hy hb1 ha1 (λx=>and_comm) (by ext) _ λh' ms k1 k2 k3 k4 k5=>?_;exact Ad (Ad ⟨_,rfl,λe=>(by cases e),hQ h' ms k1 k2 k3 k4 k5⟩)
theorem uE {F:Option (Dl×Array Nat)->Sem (Array (Int×Ai)×Dl)}{es:Array (Int×Ai)}{mask finger moves:Nat}{led plain:Bool}{Q:Array (Int×Ai)×Dl->Ar->Prop}(hF:∀t order,(order.filterMap (es[·]?)).size=es.size->F (some (t,order))=pure (order.filterMap (es[·]?),t))(hm:Dl.Mw (mask+1))(hl:es.size<=mask)
  (h:∀(es':Array (Int×Ai)) (t:Dl),es'.toList.Perm es.toList->es'.size=es.size->t.mask=mask->t.place.size=es.size->t.dummies=#[]->t.led=led->t.plain=plain->Q (es',t) s) :
  Au (AA prog w) A (F (Kx mask finger moves led plain (es.map (·.1)))) Q E s:=by
 obtain⟨t,order,h1,h2,h3,h4,h5,h6,h7⟩:=Dl.laid_ok2 (hs:=es.map (·.1)) hm (by rw[RH];exact hl);rw[RH]at h3 h7
 have pp:(order.filterMap (es[·]?)).toList.Perm es.toList:=by
  rw[Array.toList_filterMap];have z:=h7.filterMap (λj=>es.toList[j]?);rw[show es.size=es.toList.length by simp,uD]at z;refine(of_eq ?_).trans z;congr 1
  funext j;rw[C2]
 have sz:(order.filterMap (es[·]?)).size=es.size:=by
  have:=pp.length_eq;rwa[BE,BE]at this
 rw[h1,hF t order sz];exact Ad (h _ t pp sz h2 h3 h4 h5 h6)
theorem qx {n:Nat}(h1:21<=n*5)(h2:n<=12):Dl.Mw (EH (n*2)-1+1)/\n<=EH (n*2)-1/\EH (n*2)<=32:=by
 have:n=5\/n=6\/n=7\/n=8\/n=9\/n=10\/n=11\/n=12:=by ext
 rcases this with rfl|rfl|rfl|rfl|rfl|rfl|rfl|rfl<;>exact⟨by first|exact .inr (by decide)|exact .inl (.inr (.inl (by decide))),by decide,by decide⟩
theorem yt {r:Av}{ls:List Str}{Qv:Sem Unit}{Q:Unit->Ar->Prop}(hne:r≠a)(hb:CS w s.heap a ls (!(w.params.followText "set-order")))(hr:s.heap.get? r=some (Fh w))(h12:ls.length<=12)
    (hQ:∀h',BH r s.heap h'->CS w h' r ls (!(w.params.followText "set-order"))->Q () {s with heap:=h' }):Au (AA prog w) A (setMerge r a Qv) Q E s:=by
  obtain⟨o,es,ep,t,ho,hex,hd,hes,hp,hsz,hfit,hled,hpl⟩:_:=id hb
  have hlen:es.size=ls.length:=by
    have:=hp.length_eq;unfold GH at this;rw[Ab]at this;simpa using this
  have hf:t.place.size=es.size/\t.fill<=t.mask:=by
    unfold ED at hfit;simpa using hfit
  unfold setMerge;rw[if_neg (by simpa using hne)];refine Aa (A5 ho hd hfit ?_);dsimp only;split
  · next c=>
    have e0:es=#[]:=by simpa using c
    have l0:=AG (by rw[<- hlen,e0];rfl);refine Ad (hQ s.heap (CJ _ _) ?_);rw[l0];exact kJ hr rfl
  · next c=>
    have ne0:es.size≠0:=λz=>c (by simpa using z);have pl:=hpl ne0;have hline:Bg<=Am:=by decide
    refine Aa (BK (Q:=λ_ s'=>∃(h1:CV) (o1:Obj) (ep1:Nat) (ts:Dl),s'={s with heap:=h1}/\BH r s.heap h1/\h1.get? r=some o1/\o1.ExactSet/\o1.data=Ih #[] ep1 ts/\ts.place.size=0/\ts.dummies=#[]/\ts.led=(!(w.params.followText "set-order"))/\Dl.Mw (ts.mask+1)/\es.size<=ts.mask) ?_ ?_ λ_ _ h=>h)
    · unfold setRoomFor
      refine Aa (A5 hr rfl rfl ?_);dsimp only;by_cases c5:21<=es.size*5
      · rw [show (Ph 0 0 (!(w.params.followText "set-order"))).roomFor es.size=some (es.size*2) from by
          unfold Oc;rw [if_pos (by show (0+es.size)*5 >= 7*3;ext)];show some ((0+es.size)*2)=_;rw [EI]]
        dsimp only;obtain⟨g1,g2,g3⟩:=qx c5 (by ext);unfold setRelay;refine Aa (A5 hr rfl rfl ?_);dsimp only
        rw [if_neg (by have:(32:Nat)<=Am:=by decide
                       ext)]
        refine Aa (uE (es:=#[]) (λt order h=>?_) g1 (Ef _) λes' t' pp sz m1 m2 m3 m4 m5=>?_)
        · show(if _ then _ else _)=_
          rw[h,if_neg (by simp)]
        · dsimp only
          have ee:=JW sz;subst ee;obtain⟨o2,ho2,hex2,hd2⟩:=stored (es1:=#[]) (t2:=t') hr ⟨rfl,rfl,rfl⟩ rfl;exact DA hr rfl ⟨_,o2,_,t',rfl,Bd _ _ _,ho2,hex2,hd2,m2,m3,m4,by rw[m1];exact g1,by rw[m1];exact g2⟩ (Ef _)
      · rw [show (Ph 0 0 (!(w.params.followText "set-order"))).roomFor es.size=none from by
          unfold Oc;rw [if_neg (by show ¬ (0+es.size)*5 >= 7*3;ext)]]
        exact Ad ⟨s.heap,_,0,_,rfl,CJ _ _,hr,⟨rfl,rfl,rfl⟩,rfl,rfl,rfl,rfl,.inl (.inl rfl),by show es.size<=7;ext⟩
    · rintro - - ⟨h1,o1,ep1,ts,rfl,sb,ho1,hex1,hd1,hp0,hd0,hl1,hmw,hml⟩
      have fill0:ts.fill=0:=by unfold HW;rw[hp0,hd0];rfl
      refine Aa (A5 (s:={s with heap:=h1}) ho1 hd1 (by unfold ED;rw[fill0,hp0];simp) ?_);dsimp only
      have hroad:ts.road t=.slotForSlot\/ts.road t=.clean:=by
        unfold SetTable.road;rw[fill0];split
        · next z=>simp at z
        · split
          · exact .inl rfl
          · exact .inr rfl
      rcases hroad with e|e
      · rw[e]
        dsimp only;obtain⟨o2,ho2,hex2,hd2⟩:=stored (es1:=es) (t2:={t with finger:=ts.finger,led:=ts.led && t.led,moves:=ts.moves,plain:=ts.plain && t.plain}) ho1 hex1 hd1;refine DA (s:={s with heap:=h1}) ho1 hd1 (hQ _ (sb.trans (Bd _ _ _)) ⟨o2,_,_,_,ho2,hex2,hd2,hes,hp,hsz,hfit,?_,λ_=>?_⟩) (by ext)
        · show(ts.led && t.led)=_
          rw[hl1,hled,I0]
        · show(ts.plain && t.plain)=false
          rw[pl,DJ]
      · rw[e]
        dsimp only;refine Aa (uE (s:={s with heap:=h1}) (λt order h=>?_) hmw hml λes' t' pp sz m1 m2 m3 m4 m5=>?_)
        · show(if _ then _ else _)=_
          rw[h,if_neg (by simp)]
        · dsimp only
          obtain⟨o2,ho2,hex2,hd2⟩:=stored (es1:=es') (t2:=t') ho1 hex1 hd1;refine DA (s:={s with heap:=h1}) ho1 hd1 (hQ _ (sb.trans (Bd _ _ _)) ⟨o2,_,_,_,ho2,hex2,hd2,λe he=>hes e (pp.mem_iff.mp he),(pp.map _).trans hp,by ext,?_,?_,λ_=>?_⟩) (by ext)
          · unfold ED HW
            rw[m2,m3,sz,m1];simp;exact hml
          · rw[m4,hl1,hled,I0]
          · rw[m5,pl,DJ]
theorem uv {id:String}(har:a≠r)(ho:s.heap.get? a=some o)(hd:o.data=.set es0 ep t)(hfit:t.fits es0.size=true)(hes:IH w es)(hnd:(GH es).Nodup)(hkg:kg.Nodup)(hl:kg.length+es.length+1<Bg)(hr:CS w s.heap r kg (!(w.params.followText "set-order")))
  (hQ:∀h' ms,BH r s.heap h'->CS w h' r ms (!(w.params.followText "set-order"))->ms.Nodup->(∀x,x∈ms↔(x∈kg/\x∉GH es)\/(x∈GH es/\x∉kg))->ms.length<=kg.length+es.length->Q ⟨⟩ {s with heap:=h' }) :
  Au (AA prog w) A (forIn es F1 λx __s=>match x with
   |(h,x)=>do
    Gy [x] do
     let __do_lift <- Lu r x h
     if (!__do_lift)=true then do
      let _ <- Io r x h
      pure ()
     else pure ()
    BN id a ep
    pure (C7 F1)) Q E s:=by
 refine Qv (I:=λd s'=>∃h' ms,BH r s.heap h'/\CS w h' r ms (!(w.params.followText "set-order"))/\ms.Nodup/\(∀x,x∈ms↔(x∈kg/\x∉GH d)\/(x∈GH d/\x∉kg))/\ms.length<=kg.length+d.length/\s'={s with heap:=h' }) es ?_ es [] s Q rfl ⟨s.heap,kg,CJ _ _,hr,hkg,λx=>by simp[GH],AJ _,rfl⟩ ?_
 .rintro d ⟨k,v⟩ l s1 Q' hx ⟨h1,ms,sb,hS,nd,hm,hml,rfl⟩ hQ';obtain⟨x,tk,e⟩:=hes _ (by rw[hx];exact AU _ (AF ..));cases e;have hdl:d.length<es.length:=by rw[hx,Aq,AO];ext
  have ek:GH (d++[(Fo w x,De x tk)])=GH d++[x]:=by unfold GH;rw[AI];rfl
  have hxd:x∉GH d:=by
   rw[hx]at hnd;unfold GH at hnd;rw[AI,AR]at hnd;exact λz=>(BJ.mp hnd).2.2 x z x (AF ..) rfl
  have ua:∀{h2:CV} {Q'':Unit->Ar->Prop},BH r s.heap h2->Q'' () {s with heap:=h2}->Au (AA prog w) A (BN id a ep) Q'' E {s with heap:=h2}:=λ{h2} _ sb2 q=>wS (s:={s with heap:=h2}) ((sb2.2 a har).trans ho) hd hfit q;refine Aa (BV (Aa (ο (s:={s with heap:=h1}) hS λh2 sb2 hS2=>?_)));by_cases hxm:x∈ms
  .rw[decide_eq_true hxm,if_neg (by decide)];refine Ad (Aa (ua (sb.trans sb2) (Ad (hQ' _ ⟨h2,_,sb.trans sb2,hS2,nd.erase x,λy=>?_,?_,rfl⟩))))
   .rw[nd.mem_erase_iff,hm,ek,Di,E1];have hk:=((hm x).mp hxm).elim (λz=>z.1) λz=>absurd z.1 hxd;by_cases e:y=x
    .subst e;simp[hk,hxd]
    .simp[e]
   .have:=List.length_erase_le (a:=x) (l:=ms);rw[Aq];ext
  .rw[decide_eq_false hxm,if_pos (by decide)];rw[NA hxm]at hS2;have hk:x∉kg:=λz=>hxm ((hm x).mpr (.inl ⟨z,hxd⟩));refine Aa (kK (s:={s with heap:=h2}) hS2 (by ext) λ_ h3 sb3 hS3=>Ad ?_);rw[if_neg hxm]at hS3;refine Aa (ua ((sb.trans sb2).trans sb3) (Ad (hQ' _ ⟨h3,_,(sb.trans sb2).trans sb3,hS3,?_,λy=>?_,?_,rfl⟩)))
   .exact BJ.mpr ⟨nd,by simp,λa ha b hb=>by rw[AL.mp hb];exact λe=>hxm (e ▸ ha)⟩
   .rw[Di,E1,hm,ek,Di,E1];by_cases e:y=x
    .subst e;simp[hk,hxd]
    .simp[e]
   .rw[Aq,Aq];simp only[ES];ext
 .intro s1;ext1⟨h1,ms,sb,hS,nd,hm,hml,e1'⟩;exact hQ h1 ms sb hS nd hm hml
theorem ve {b:Av}{ks ls:List Str}{Q:Ai->Ar->Prop}(hkn:ks.Nodup)(hln:ls.Nodup)(ha:CS w s.heap a ks (!(w.params.followText "set-order")))(hb:CS w s.heap b ls (!(w.params.followText "set-order")))(h12:ls.length<=12)(hz:ls.length+ks.length+1<Bg)
  (hQ:∀h' ms,(∀c o,s.heap.get? c=some o->h'.get? c=some o)->CS w h' s.heap.objs.size ms (!(w.params.followText "set-order"))->ms.Nodup->(∀x,x∈ms↔(x∈ls/\x∉ks)\/(x∈ks/\x∉ls))->ms.length<=ls.length+ks.length->Q (.ref s.heap.objs.size) {s with heap:=h' }) :
  Au (AA prog w) A (Bt .BitXor (.ref a) (.ref b)) Q E s:=by
 refine Sl ha.typeIs hb.typeIs F.fills_set_xor F.slot_set_xor (B8 F.slot_set_xor ha.typeIs ZfX ?_ (F.args_set_xor_2 _ _));refine Aa (Cd rfl ?_);dsimp only;rw[if_neg (by decide)];dsimp only;unfold andM;refine Aa (Aa (UI ha.typeIs ?_));refine UI hb.typeIs ?_;rw[if_neg (by decide)];refine Aa (Cd rfl ?_);refine Aa ?_;refine Aa (wT ha.typeIs ?_);refine Aa ?_;unfold RC;refine Aa (wN ?_);have hk0:∀c o,s.heap.get? c=some o->(s.heap.push (Fh w)).get? c=some o:=λc o e=>Ag _ e;have lta:a<s.heap.objs.size:=by obtain⟨o,es,ep,t,ho,-⟩:=ha;exact Ap ho
 have ltb:b<s.heap.objs.size:=by obtain⟨o,es,ep,t,ho,-⟩:=hb;exact Ap ho
 have hb1:=hb.keep λo e=>hk0 b o e;refine Aa (Cd rfl ?_);refine Aa (BV ?_);unfold Hx;refine Aa (UI hb1.typeIs ?_);rw[if_pos rfl];refine Aa (Cd rfl ?_);unfold RE;obtain⟨o2,es2,ep2,t2,ho2,hex2,hd2,hes2,hp2,hsz2,hfit2,-⟩:_:=id hb1;refine Aa (V4 ho2 hd2 hfit2 ?_);refine yt (EZ ltb) hb1 (AB _ rfl) h12 λh1 sb1 hr1=>?_;have sb1:=sb1;refine Ad ?_;have hk1:∀c o,s.heap.get? c=some o->h1.get? c=some o:=λc o e=>(sb1.2 c (A6 (Ap e))).trans (hk0 c o e);have ha1:=ha.keep λo e=>hk1 a o e;refine Aa (Cd rfl ?_);refine Aa (BV ?_);unfold RB;rw[if_neg (by simpa using A6 lta)];dsimp only;refine Aa (Fj ha1.typeIs ?_);rw[if_neg (by decide)];refine Aa (UI ha1.typeIs ?_);rw[if_pos rfl];refine Aa (Ad ?_);refine Aa (Cd rfl ?_);refine Ao λG' kk'=>?_;obtain⟨o,es,ep,t,ho,hex,hd,hes,hp,hsz,hfit,-⟩:=id ha1;refine kk' ?_;clear kk';refine Aa (V4 ho hd hfit ?_);refine BV ?_;refine Aa (wC ha1 hr1 (λb hb=>?_) λes' h2 hes' hp' sb2 hr2=>?_)
 .rw[AL.mp hb];exact⟨_,_,hr1⟩
 .have sb2:=sb2;rw[<- KY]
  have hel:es'.toList.length=ks.length:=by
   have:=hp'.length_eq;unfold GH at this;rwa[Ab]at this
  refine Aa (uv (A6 lta) ((sb2.2 a (A6 lta)).trans ho) hd hfit hes' (hp'.nodup_iff.mpr hkn) hln (by ext) hr2 λh3 ms sb3 hS3 nd hm hml=>Ad (Ad (Ad ⟨_,rfl,λe=>(by cases e),hQ h3 ms (λe o he=>?_) hS3 nd (λx=>?_) (by ext)⟩)))
  .have ne:=A6 (Ap he);exact(sb3.2 e ne).trans ((sb2.2 e ne).trans (hk1 e o he))
  .rw[hm,hp'.mem_iff]
end
theorem pF (h1:zs.Perm ms)(h2:KQ zs=true)(h3:ms.Nodup)(h4:∀x,x∈ms↔x∈l):zs=Iz l:=
 sY (h1.trans ((Lg h3 (X7 l)).mpr λx=>(h4 x).trans (Uu l x).symm)) h2
noncomputable def Kz (xs ys:List Str):List Str:=Iz (xs.filter (·∈ys))
noncomputable def Lh (xs ys:List Str):List Str:=Iz (ys.filter (·∉xs)++xs.filter (·∉ys))
noncomputable def RQ (op:Nz)(xs ys:List Str):List Str:=if op=.BitAnd then Kz xs ys else Lh xs ys
section
theorem xW (hop:op=.BitAnd\/op=.BitXor)(hab:b≠a)(ha:CS w s.heap a (fm xs) (!(w.params.followText "set-order")))(hb:CS w s.heap b (fm ys) (!(w.params.followText "set-order")))(hz:(fm xs).length<=12)(hy:(fm ys).length<=12)
  (hQ:∀h' ms,(∀c o,s.heap.get? c=some o->h'.get? c=some o)->CS w h' s.heap.objs.size ms (!(w.params.followText "set-order"))->(∀zs,zs.Perm ms->KQ zs=true->zs=RQ op xs ys)->ms.length<64->Q (.ref s.heap.objs.size) {s with heap:=h' }) :
  Au (AA prog w) A (Bt op (.ref a) (.ref b)) Q E s:=by
 have sb:(30:Nat)<Bg:=by decide
 rcases hop with rfl|rfl
 .refine qy hab ha hb (by ext) (by ext) λh' ms hk hS nd hm hl=>hQ h' ms hk hS (λzs h1 h2=>?_) (by ext);unfold RQ Kz;rw[if_pos rfl];exact pF h1 h2 nd λx=>by rw[hm,Uu,Uu,Eh,decide_eq_true_eq]
 .refine ve (X7 _) (X7 _) ha hb hy (by ext) λh' ms hk hS nd hm hl=>hQ h' ms hk hS (λzs h1 h2=>?_) (by ext);unfold RQ Lh;rw[if_neg (by decide)];exact pF h1 h2 nd λx=>by rw[hm,Uu,Uu,Di,Eh,Eh,decide_eq_true_eq,decide_eq_true_eq]
def mY (K:Ac)(op:Nz)(tb:VK->Hp->Prop)(Q:VK)(x:V)(H1:Hp):Prop:=
 ∃p xs,x=.ref p/\FH K H1 p (xs.map V.str)/\xs.length+1<Bg/\(fm xs).length<=12/\tb (λy H2=>∃q ys,y=.ref q/\FH K H2 q (ys.map V.str)/\ys.length+1<Bg/\(fm ys).length<=12/\∀l,H2 l=none->Q (.ref l) (CA H2 l (.lst ((RQ op xs ys).map V.str)))) H1
def xO (K:Ac)(op:Nz)(ta tb:TE):TE:=λU H Q=>ta U H (mY K op (λQ1 H1=>tb U H1 Q1) Q)
theorem A4.more (I:A4 X Ae U H s)(hS:s.heap.objs.size<=S)(hk:∀b u,s.heap.get? b=some u->h'.get? b=some u)(ho:h'.get? S=some o)(hn:∀v,o.data≠.cell v):A4 X ((S,o)::Ae) U H {s with heap:=h',toks:=tk}:=by
 have I2:A4 X Ae U H {s with heap:=h',toks:=tk}:=I.kept hk;refine I2.pins_of λp hp=>?_;rcases A3.mp hp with rfl|hp
 .exact⟨ho,I.hok.fresh hS,λe=>absurd (I.lt) (by rw[<- e];exact cN.mpr hS),I.nofs hS,hn⟩
 .exact I2.pin p (AU _ hp)
theorem A4.less (I:A4 X (p::Ae) U H s):A4 X Ae U H s/\s.heap.get? p.1=some p.2:=
 ⟨I.pins_of λq hq=>I.pin q (AU _ (AE _ hq)),(I.pin p (AU _ (AF ..))).1⟩
theorem z7 (hop:op=.BitAnd\/op=.BitXor)(hc:X.calm=true)(ha:PE X e1 ta)(hb:PE X e2 tb)(hm1:X.mg "sorted" = none)(hm2:X.mg "set" = none)(hg1:Gl X "sorted":=by rfl)(hg2:Gl X "set":=by rfl)
  (he1:As [e1] X.env=(false,eval e1 X.env)::As [] X.env:=by rfl) (he2:As [e2] X.env=(false,eval e2 X.env)::As [] X.env:=by rfl) :
  PE X (.Call (.Name "sorted" p1) [.BinOp (.Call (.Name "set" p2) [e1] [] pos2) op (.Call (.Name "set" p3) [e2] [] pos3) p4] [] pos) (xO X.K op ta tb):=by
 intro Ae s U H Q I h;refine Cm (PK I hg1 hm1 (u:=.builtin "sorted") rfl ?_);refine EU ?_ rfl rfl;show Au _ _ (U0 ((false,eval (.BinOp (.Call (.Name "set" p2) [e1] [] pos2) op (.Call (.Name "set" p3) [e2] [] pos3) p4) X.env)::Cc pos (As [] X.env))) _ _ s;refine IW ?_;refine wpAny_BinOp ?_;refine Cm (PK I hg2 hm2 (u:=.type "set") rfl ?_);refine BB (Dp (aB ha ZW he1 pos2 Ae s U H (λvs H1=>match vs with | [x]=>mY X.K op (λQ1 H1=>tb U H1 Q1) Q x H1 | _=>False) I h) λus s1 e=>e.el λvs H1 I1 r1 q1=>?_) he1 rfl
 match vs,r1,q1 with
 |[x],r1,⟨p,xs,hx,hs,hz,h12,q⟩=>
  subst hx;obtain⟨u,rfl,ru⟩:=G8 r1;cases(show u=AC p from ru);obtain⟨Bk,rv,pl,hzz⟩:=I1.list hs
  have hl:xs.length=Bk.toArray.size:=by
   have:=rv.length;simpa using this
  refine jW (I1.ok.hd hc) pl.isList hl (λi v hi hv=>?_) (by ext) λh2 tk2 hS hk2=>?_
  .obtain⟨u,hu,ru⟩:=rv.get (i:=i) (x:=V.str xs[i]) (by rw[AH,Af hi];rfl);rw[DY]at hv;rw[hu]at hv;cases hv;exact ru
  .obtain⟨o1,es1,ep1,t1,ho1,hex1,hd1,hrest⟩:_:=id hS;have I2:=I1.more (tk:=tk2) (AJ _) hk2 ho1 (λv e=>by rw[hd1]at e;cases e);refine Cm (PK I2 hg2 hm2 (u:=.type "set") rfl ?_);refine BB (Dp (aB hb ZW he2 pos3 _ _ U H1 (λvs H2=>match vs with | [y]=>∃q ys,y=.ref q/\FH X.K H2 q (ys.map V.str)/\ys.length+1<Bg/\(fm ys).length<=12/\∀l,H2 l=none->Q (.ref l) (CA H2 l (.lst ((RQ op xs ys).map V.str))) | _=>False) I2 q) λus s3 e=>e.el λvs H3 I3 r3 q3=>?_) he2 rfl
   match vs,r3,q3 with
   |[y],r3,⟨p',ys,hy,hs',hz',h12',q'⟩=>
    subst hy;obtain⟨u,rfl,ru⟩:=G8 r3;cases(show u=AC p' from ru);obtain⟨its',rv',pl',hzz'⟩:=I3.list hs'
    have hl':ys.length=its'.toArray.size:=by
     have:=rv'.length;simpa using this
    obtain⟨I3',hp1⟩:=I3.less;have ltS:=Ap hp1;refine jW (I3.ok.hd hc) pl'.isList hl' (λi v hi hv=>?_) (by ext) λh4 tk4 hS4 hk4=>?_
    .obtain⟨u,hu,ru⟩:=rv'.get (i:=i) (x:=V.str ys[i]) (by rw[AH,Af hi];rfl);rw[DY]at hv;rw[hu]at hv;cases hv;exact ru
    .refine xW (s:={s3 with heap:=h4,toks:=tk4}) hop (EZ ltS) ⟨o1,es1,ep1,t1,hk4 _ _ hp1,hex1,hd1,hrest⟩ hS4 h12 h12' λh5 ms hk5 hS5 hu5 h64=>?_;refine Jt ?_
     have lt4:s3.heap.objs.size<h4.objs.size:=by
      obtain⟨o,es,ep,t,ho,-⟩:=hS4;exact Ap ho
     refine vS (s:={s3 with heap:=h5,toks:=tk4}) (I3.ok.hd hc) hS5 h64 λh6 d tk6 L out c zs hf hSL hL hst hp hsrt hk6=>?_;have hSL:h4.objs.size<L:=hSL;refine⟨.ref L,_,((I3'.draw d).laid (h':=h6) (t':=tk6) (a:=L) (o:=.lst (zs.map V.str)) (λb u eb=>hk6 b u (hk5 b u (hk4 b u eb))) (by show s3.heap.objs.size<=L;ext) ⟨?_,out,c,bQ hst,hL⟩),rfl,?_⟩
     .rw[Ab,hp.length_eq];have:(64:Nat)<=Am:=by decide
      ext
     .rw[hu5 zs hp hsrt];exact q' L (I3.hok.fresh (by ext))
unseal BY
def WS (op:Nz)(ta tb:DV):DV:=λτ M Q=>ta τ M λx M1=>Ck (Bf M1 x) λds=>Ck (Ev ds) λxs=>xs.length+1<Bg/\(fm xs).length<=12/\tb τ M1 λy M2=>Ck (Bf M2 y) λes=>Ck (Ev es) λys=>ys.length+1<Bg/\(fm ys).length<=12/\Q (.lst ((RQ op xs ys).map D.str)) M2
theorem XI (hop:op=.BitAnd\/op=.BitXor)(hc:X.calm=true)(hm1:X.mg "sorted" = none)(hm2:X.mg "set" = none)(ha:BY X e1 ta)(hb:BY X e2 tb)(hg1:Gl X "sorted":=by rfl)(hg2:Gl X "set":=by rfl)
  (he1:As [e1] X.env=(false,eval e1 X.env)::As [] X.env:=by rfl) (he2:As [e2] X.env=(false,eval e2 X.env)::As [] X.env:=by rfl) :
  BY X (.Call (.Name "sorted" p1) [.BinOp (.Call (.Name "set" p2) [e1] [] pos2) op (.Call (.Name "set" p3) [e2] [] pos3) p4] [] pos) (WS op ta tb):=PE.mono (z7 hop hc ha hb hm1 hm2 hg1 hg2 he1 he2) (by
 intro U H Q;ext1⟨Z,τ,M,Q2,st,hr,h,k⟩;refine ⟨Z,τ,M,_,st,hr,h,λZ1 v d H1 M1 l1 h1 a1 q1=>?_⟩;obtain ⟨ds,e1,q2⟩:=Ci q1;obtain ⟨xs,e2,hz,h64,q3⟩:=Ci q2;obtain ⟨p,vs,rfl,hs,a2⟩:=h1.rdL e1 a1;have e3:=VX e2;subst e3;have e4:=ats_strs a2;subst e4;refine ⟨p,xs,rfl,hs,hz,h64,lE.bind (st.mono l1) h1 q3 λZ2 y dy H2 M2 l2 h2 a3 q4=>?_⟩;obtain ⟨es,f1,q5⟩:=Ci q4;obtain ⟨ys,f2,hz',h64',q6⟩:=Ci q5;obtain ⟨p',vs',rfl,hs',a4⟩:=h2.rdL f1 a3;have f3:=VX f2;subst f3;have f4:=ats_strs a4;subst f4;exact ⟨p',ys,rfl,hs',hz',h64',λl hl=>(k.le (l1.trans l2)).f h2 hl (Yx _) q6⟩)
theorem cm :WS op ta tb τ M Q=(ta τ M λx M1=>Ck (Bf M1 x) λds=>Ck (Ev ds) λxs=>xs.length+1<Bg/\(fm xs).length<=12/\tb τ M1 λy M2=>Ck (Bf M2 y) λes=>Ck (Ev es) λys=>ys.length+1<Bg/\(fm ys).length<=12/\Q (.lst ((RQ op xs ys).map D.str)) M2):=rfl
unseal Gc GN
end
end L2
namespace L3
open PySem PySem.Spec PyProof.Rows L2
section
theorem xv (hkey:(BP prog w).is k key=true)(hm:s.heap.DictOf (BP prog w) d AQ)(hn:k∉AQ.map (·.1))(hsz:AQ.length<=Am)
  (hQ:∀h',h'.DictOf (BP prog w) d (AQ++[(k,x)])->BH d s.heap h'->Q x {s with heap:=h',toks:=s.toks+1}):Au (AA prog w) A (cK d key x) Q E s:=by
 obtain⟨o,es,ep,ho,hc,hd,hk,hp,nd⟩:_:=hm
 have hes:es.size<=Am:=by
  have e1:=hp.length;have e2:es.toList.length=es.size:=by simp
  ext
 have no:(es.findIdx? λe=>(BP prog w).is k e.key)=none:=by
  have e1:=hp.findIdx k;have e2:(es.findIdx? λe=>(BP prog w).is k e.key)=es.toList.findIdx? λe=>(BP prog w).is k e.key:=by obtain⟨l⟩:=es;simp
  rw[e2,e1,Gp];intro kv hkv;exact decide_eq_false λe=>hn (An.mpr ⟨kv,hkv,e⟩)
 unfold cK;refine BV ?_;refine Aa ((BP prog w).pyHash hkey ?_);refine Aa (wpAny_dictFind_of hkey ho hd hk ?_);rw[no];dsimp only;refine Aa (GP (Aa (wpAny_updateDictKeys ho hd (Ad ?_))));refine hQ _ ⟨_,_,ep+1,Ee _ ho (Obj.isFreed_of_dict (OM hd _)),hc.mapDictKeys _,OM hd _,hk.push hkey _,?_,?_⟩ (Bd ..)
 .have z:=hp.append hkey ((BP prog w).hash k) x;obtain⟨l⟩:=es;simpa using z
 .rw[AI];exact BJ.mpr ⟨nd,by simp,λa ha b hb e=>hn (by rw[show a=k from e.trans (AL.mp hb)]at ha;exact ha)⟩
end
section
theorem tq (I:A4 X Ae U H s)(e:H a=some (.dK AQ))(hl:AQ.length<Am)(ry:RelV (kV k) u)(rd:RelV d r)
  (h1:∀v w' s',FN AQ k=some v->A4 X Ae U H s'->RelV v w'->Q w' s') (h2:FN AQ k=none->∀s',A4 X Ae U (CA H a (.dK (putK AQ k d))) s'->Q r s') :
  Au (AA X.prog X.w) A (Ir (.builtin "dict.setdefault") [.ref a,u,r]) Q E s:=by
 obtain⟨z,hd,vs,rel,dd⟩:=gV I.hok e;have rv:=rel.val k;cases hv:FN AQ k with
 |some v=>
  rw[hv]at rv;cases hw:JC vs k with
  |none=>rw[hw]at rv;exact rv.elim
  |some w'=>
   rw[hw]at rv;refine call_meetsIn Ft dd.typeIs JH (Js _ _ _) (meets_dict_setdefault (BP X.prog X.w) a (Sa ry) hd r) ⟨_,dd.mapOf,?_,λv' hv'=>?_,λhn=>?_⟩
   .obtain⟨o',es',ep',ho',_,hd',_,hp',_⟩:_:=dd;intro o es ep ho hd2;rw[ho']at ho;cases ho;rw[hd']at hd2;cases hd2;have e1:=hp'.length;have e2:es'.toList.length=es'.size:=by simp
    have e3:=rel.length;ext
   .rw[hw]at hv';cases hv';exact h1 v w' _ hv (I.tok _) rv
   .rw[hw]at hn;cases hn
 |none=>
  have hn:k∉vs.map (·.1):=λhk=>by
   rw[<- rel.keys]at hk;obtain⟨kv,hkv,ek⟩:=An.mp hk;unfold FN at hv;rw[Md,EV]at hv;exact hv kv hkv (decide_eq_true ek)
  refine B8 Ft dd.typeIs JH ?_ (Js _ _ _);unfold Ek.«dict.setdefault»;refine Aa ?_;unfold Zn;refine Aa (QU dd.typeIs ?_);show Au _ _ (pure (a,u,some r)) _ _ s;refine Ad ?_;dsimp only;rw[if_neg (by rw[hd];exact Al)];refine Aa (xv (Sa ry) dd hn (by rw[<- rel.length];exact z) λh' dd' hs=>Ad ⟨r,rfl,h2 hv _ ?_⟩);have he:∃q,h'.get? a=some q:=let ⟨q,_,_,hq,_⟩:=dd';⟨q,hq⟩
  have hp:putK AQ k d=AQ++[(k,d)]:=by
   unfold putK;rw[if_neg];intro c;obtain⟨kv,hkv,ek⟩:=C4.mp c;exact hn (by rw[<- rel.keys];exact An.mpr ⟨kv,hkv,of_decide_eq_true ek⟩)
  rw[hp]
  have hst:TC vs k r=vs++[(k,r)]:=by
   unfold TC;rw[if_neg];intro c;obtain⟨kv,hkv,ek⟩:=C4.mp c;exact hn (An.mpr ⟨kv,hkv,of_decide_eq_true ek⟩)
  have rp:=rel.put k rd;rw[hp,hst]at rp;exact aF I (by rw[e];exact Ch) hs he (ZS (by rw[Aq];exact hl) hd rp dd')
end
section
unseal EK
def RL:V->List V->Hp->VK->Prop:=λx vs H Q=>∃a AQ k v,x=.ref a/\vs=[kV k,v]/\H a=some (.dK AQ)/\AQ.length<Am/\(∀v',FN AQ k=some v'->Q v' H)/\(FN AQ k=none->Q v (CA H a (.dK (putK AQ k v))))
theorem ww:Nh X "dict.setdefault" RL:=by
 intro Ae s U H x vs v us Q I rx rv;ext1⟨a,AQ,k,d,e1',e2',e,hl,q1,q2⟩;cases rx;obtain⟨u,r,rfl,ru,rr⟩:=Mu rv;exact tq I e hl ru rr (λv w' s' hv I' r'=>⟨v,H,I',r',q1 v hv⟩) λhn s' I'=>⟨d,_,I',rr,q2 hn⟩
def LJ:D->List D->Mp->El->Prop:=λx xs M Q=>JO x λp=>FF xs λy v=>Q8 y λk=>Ko (M p) λAQ=>AQ.length<Am/\(∀d,Do AQ k=some d->Q d M)/\(Do AQ k=none->Q v (put M p (.dic (Hj AQ k v))))
def WR (to:DV)(t:Kc):DV:=λτ M Q=>to τ M λx M1=>JO x λp=>Ko (M1 p) λ_=>t τ M1 λxs M2=>LJ (.ref p) xs M2 Q
theorem cn :WR to t τ M Q=(to τ M λx M1=>JO x λp=>Ko (M1 p) λ_=>t τ M1 λxs M2=>LJ (.ref p) xs M2 Q):=rfl
unseal BY Gc
theorem fY (ho:BY X o to)(ha:Gc X [e1,e2] t)
  (hbase:CF o "setdefault" X.env (eval o X.env)=eval o X.env:=by rfl)
  (hfew:((Cc cpos (As [e1,e2] X.env)).all (λx=>!x.1) && (Fq cpos (DC [] X.env)).all (λx=>x.1.isSome)
   && decide ([e1,e2].length+([]:List E5).length+(if ([]:List E5).isEmpty then 0 else 1)<30))=true:=by rfl)
  (hline:(apos.endLine == cpos.line)=true:=by rfl) (hs:As [e1,e2] X.env=(false,eval e1 X.env)::As [e2] X.env:=by rfl) (hplain:(Cc cpos (As [e2] X.env)).any (·.1)=false:=by rfl) :
  BY X (.Call (.Attribute o "setdefault" apos) [e1,e2] [] cpos) (WR to t):=PE.mono (nV PySem.F.plainAttrs_dict Ft PySem.F.type_dict_setdefault ww ho ha hbase hfew hline hs hplain) (by
 intro U H Q;ext1⟨Z,τ,M,Q2,st,hr,h,k⟩;refine lE.bind st hr h λZ1 x dx H1 M1 l1 h1 a1 q1=>?_;obtain⟨p,rfl,q2⟩:=Ib q1;obtain⟨kvs0,e0,q3⟩:=hX q2;cases(show x=V.ref p from a1);obtain⟨ks0,rd0,_⟩:=h1.rdMD e0;refine⟨.inr (.inr (.inl ⟨rfl,.inl ⟨ks0,rd0⟩⟩)),Z1,τ,M1,_,st.mono l1,h1,q3,λZ2 vs ds H2 M2 l2 h2 a2 q4=>?_⟩;obtain⟨p',e,q5⟩:=Ib q4;cases e;obtain⟨y,v,rfl,q6⟩:=MG q5;obtain⟨ky,rfl,q7⟩:=Qo q6;obtain⟨AQ,e,hl,q8,q9⟩:=hX q7;obtain⟨ks,rd,a4⟩:=h2.rdMD e;obtain⟨y',v',rfl,ay,av⟩:=O3 a2;cases VB ay;refine⟨p,ks,ky,v',rfl,rfl,rd,by rw[a4.length];exact hl,λv2 hv2=>?_,λhn=>?_⟩
 .rcases a4.val with⟨_,e2⟩|⟨d,v3,e1,e2,av3⟩
  .rw[hv2]at e2;cases e2
  .rw[hv2]at e2;cases e2;exact k Z2 _ _ _ _ (l1.trans l2) h2 av3 (q8 d e1)
 .rcases a4.val with⟨e1,_⟩|⟨d,v3,e1,e2,_⟩
  .exact k Z2 _ _ _ _ (l1.trans l2) (h2.chgD e (a4.put av)) av (q9 e1)
  .rw [hn] at e2;cases e2)
theorem rR :∀{zs:List D}{vs:List V},Dq Z vs (zs++[d])->∃us v,vs=us++[v]/\Dq Z us zs/\At Z v d
 |[],_,.cons a .nil=>⟨[],_,rfl,.nil,a⟩
 |_::zs,_,.cons a t=>by
  obtain⟨us,v,rfl,h1,h2⟩:=rR t;exact⟨_::us,v,rfl,.cons a h1,h2⟩
def Qf:D->List D->Mp->El->Prop:=λx xs M Q=>JO x λp=>xs=[]/\NU (M p) λys=>∃zs d,ys=zs++[d]/\Q d (put M p (.lst zs))
theorem kt :Qf (.ref p) [] M Q=NU (M p) λys=>∃zs d,ys=zs++[d]/\Q d (put M p (.lst zs)):=by
 unfold Qf;simp only[JO,true_and]
theorem fc:EK X "list.pop" Qf:=Nh.mono ff (by
 intro x xs H Q;ext1⟨Z,d,ds,M,Q2,hr,a,as,h,k⟩;obtain⟨p,rfl,rfl,h2⟩:=Ib h;obtain⟨ys,e,zs,d,rfl,q⟩:=hZ h2;cases(show x=V.ref p from a);have hx:xs=[]:=by cases as;rfl
 subst hx;obtain ⟨vs,r,a2⟩:=hr.rdM e;obtain ⟨us,v,rfl,a4,a5⟩:=rR a2;refine ⟨p,us++[v],v,rfl,rfl,r,by simp,?_⟩;rw [List.dropLast_concat];exact k Z _ _ _ _ (Le.refl _) (hr.chgL e a4) a5 q)
end
section
def Qb (tk1 tv1 tk2 tv2 tk3 tv3 tk4 tv4:DV):DV:=λτ M Q=>∀p,M p=none->tk1 τ (put M p (.dic [])) λx1 M1=>Gb x1 λz1=>tv1 τ M1 λy1 M2=>tk2 τ M2 λx2 M3=>Gb x2 λz2=>tv2 τ M3 λy2 M4=>tk3 τ M4 λx3 M5=>Gb x3 λz3=>tv3 τ M5 λy3 M6=>tk4 τ M6 λx4 M7=>Gb x4 λz4=>tv4 τ M7 λy4 M8=>M8 p=some (.dic [])/\[z1,z2,z3,z4].Nodup/\Q (.ref p) (put M8 p (.dic [(.inr z1,y1),(.inr z2,y2),(.inr z3,y3),(.inr z4,y4)]))
theorem og :Qb tk1 tv1 tk2 tv2 tk3 tv3 tk4 tv4 τ M Q=∀p,M p=none->tk1 τ (put M p (.dic [])) λx1 M1=>Gb x1 λz1=>tv1 τ M1 λy1 M2=>tk2 τ M2 λx2 M3=>Gb x2 λz2=>tv2 τ M3 λy2 M4=>tk3 τ M4 λx3 M5=>Gb x3 λz3=>tv3 τ M5 λy3 M6=>tk4 τ M6 λx4 M7=>Gb x4 λz4=>tv4 τ M7 λy4 M8=>M8 p=some (.dic [])/\[z1,z2,z3,z4].Nodup/\Q (.ref p) (put M8 p (.dic [(.inr z1,y1),(.inr z2,y2),(.inr z3,y3),(.inr z4,y4)])):=rfl
theorem Ue (h:[z1,z2,z3,z4].Nodup):L2.mergeK [] [((.inr z1:B4),y1),(.inr z2,y2),(.inr z3,y3),(.inr z4,y4)]=[(.inr z1,y1),(.inr z2,y2),(.inr z3,y3),(.inr z4,y4)]:=by
 simp only[Eg,By,AS,or_false,not_or]at h;obtain⟨⟨a,b,c⟩,⟨d,e⟩,f,-⟩:_:=h;simp[L2.mergeK,L2.putK,a,b,c,d,e,f]
unseal BY
theorem T5 (hk1:BY X ke1 tk1)(hv1:BY X ve1 tv1)(hk2:BY X ke2 tk2)(hv2:BY X ve2 tv2)(hk3:BY X ke3 tk3)(hv3:BY X ve3 tv3)(hk4:BY X ke4 tk4)(hv4:BY X ve4 tv4):BY X (.Dict [some ke1,some ke2,some ke3,some ke4] [ve1,ve2,ve3,ve4] pos) (Qb tk1 tv1 tk2 tv2 tk3 tv3 tk4 tv4):=PE.mono (pq (bE hk1 hv1 (bE hk2 hv2 (bE hk3 hv3 (bE hk4 hv4 m8)))) rfl rfl (by intro h;cases h) (by show 4<=15;decide)) (by
 rintro U H Q ⟨Z,τ,M,Q2,st,hr,h,k⟩ p hp;refine lE.bind st (hr.newD hp .nil) (h p (hr.fresh hp)) λZ1 v1 d1 H1 M1 l1 h1 a1 q=>?_;obtain ⟨z1,rfl,q⟩:=D4 q;refine lE.bind (st.mono l1) h1 q λZ2 v2 d2 H2 M2 g2 h2 a2 q=>?_;have l2:=l1.trans g2;refine lE.bind (st.mono l2) h2 q λZ3 v3 d3 H3 M3 g3 h3 a3 q=>?_;have l3:=l2.trans g3;have a2:=a2.mono g3;obtain ⟨z2,rfl,q⟩:=D4 q;refine lE.bind (st.mono l3) h3 q λZ4 v4 d4 H4 M4 g4 h4 a4 q=>?_;have l4:=l3.trans g4;have a2:=a2.mono g4;refine lE.bind (st.mono l4) h4 q λZ5 v5 d5 H5 M5 g5 h5 a5 q=>?_;have l5:=l4.trans g5;have a2:=a2.mono g5;have a4:=a4.mono g5;obtain ⟨z3,rfl,q⟩:=D4 q;refine lE.bind (st.mono l5) h5 q λZ6 v6 d6 H6 M6 g6 h6 a6 q=>?_;have l6:=l5.trans g6;have a2:=a2.mono g6;have a4:=a4.mono g6;refine lE.bind (st.mono l6) h6 q λZ7 v7 d7 H7 M7 g7 h7 a7 q=>?_;have l7:=l6.trans g7;have a2:=a2.mono g7;have a4:=a4.mono g7;have a6:=a6.mono g7;obtain ⟨z4,rfl,q⟩:=D4 q;refine lE.bind (st.mono l7) h7 q λZ8 v8 d8 H8 M8 g8 h8 a8 q=>?_;have l8:=l7.trans g8;have a2:=a2.mono g8;have a4:=a4.mono g8;have a6:=a6.mono g8;obtain ⟨e,hne,q⟩:=q;obtain ⟨vs,e2,ka⟩:=h8.rdMD e;cases ka;cases (show v1=V.str z1 from a1);cases (show v3=V.str z2 from a3);cases (show v5=V.str z3 from a5);cases (show v7=V.str z4 from a7);refine ⟨e2,[(.inr z1,v2),(.inr z2,v4),(.inr z3,v6),(.inr z4,v8)],rfl,by show 4<=15;decide,?_⟩;rw [Ue hne];exact k Z8 (.ref p) (.ref p) _ _ l8 (h8.chgD e (.cons ⟨rfl,a2⟩ (.cons ⟨rfl,a4⟩ (.cons ⟨rfl,a6⟩ (.cons ⟨rfl,a8⟩ .nil))))) rfl q)
end
section
variable {X:Cx}{Ae:List (Av×Obj)}{U:St}{H:Hp}{s:Ar}
theorem um (ht:IsTup s.heap p #[.int i t1,.int j t2])
  (h1:i=k->Q (.int 0 s.toks) {s with toks:=s.toks+1}) (h2:i≠k->j=k/\Q (.int 1 s.toks) {s with toks:=s.toks+1}) :
  Au (AA X.prog X.w) X.A (Ir (.builtin "tuple.index") [.ref p,.int k t]) Q X.xe s:=by
 refine B8 K3 ht.typeIs PySem.F.entry_tuple_index ?_ (PySem.F.args_tuple_index_2 _ _);unfold Ek.«tuple.index»;refine Aa ?_;show Au _ _ (pure (AC p,[DE k t])) _ _ s;refine Ad ?_;dsimp only;refine Aa (tupleItemsOf_ ht ?_);refine Aa (Ad (Aa (Ad (Aa ?_))));rw[So];simp only[Sm,AV,AO,E9,EI,Ms,KS,Nm,Vi,Nat.reduceDiv,Nat.add_one_sub_one,Zf];rw[show Ol 0 2=[0,1]from rfl];rw[GV];refine Aa ?_;show Au _ _ (eqBool (.int i t1) (.int k t) >>= _) _ _ s;refine Aa (Lq ?_);by_cases e:i=k
 .rw[beq_iff_eq.mpr e];show Au _ _ (cH _ >>= _) _ _ s;refine Aa ?_;unfold cH;refine Aa (wpAny_mkInt (Ad (Ad ?_)));refine Ad (Ad ⟨_,rfl,h1 e⟩)
 .obtain⟨e2,q⟩:=h2 e;rw[show(i == k)=false from beq_eq_false_iff_ne.mpr e];show Au _ _ (pure (C7 (none,()))) _ _ s;refine Ad ?_;show Au _ _ (forIn [1] _ _) _ _ s;rw[GV];refine Aa ?_;show Au _ _ (eqBool (.int j t2) (.int k t) >>= _) _ _ s;refine Aa (Lq ?_);rw[beq_iff_eq.mpr e2];show Au _ _ (cH _ >>= _) _ _ s;refine Aa ?_;unfold cH;refine Aa (wpAny_mkInt (Ad (Ad ?_)));refine Ad (Ad ⟨_,rfl,q⟩)
def RM:V->List V->Hp->VK->Prop:=λx vs H Q=>∃p i j k,x=.ref p/\vs=[.int k]/\H p=some (.tup [.int i,.int j])/\(i=k->Q (.int 0) H)/\(i≠k->j=k/\Q (.int 1) H)
theorem wv:Nh X "tuple.index" RM:=by
 intro Ae s U H x vs v us Q I rx rv;ext1⟨p,i,j,k,e1',e2',e,q1,q2⟩;cases(show v=AC p from rx);obtain⟨u,rfl,ru⟩:=G8 rv;obtain⟨t,rfl⟩:=ru;obtain⟨_,Bk,r,tn⟩:=(show CW X.prog X.w H s.heap p (.tup [.int i,.int j])from I.hok p _ e);obtain⟨u1,u2,e1',⟨t1,e2'⟩,⟨t2,e3'⟩⟩:_:=Mu r;exact um tn.tup (λh=>⟨.int 0,H,I.tok _,⟨_,rfl⟩,q1 h⟩) λh=>⟨(q2 h).1,.int 1,H,I.tok _,⟨_,rfl⟩,(q2 h).2⟩
def xL (r:V->List V->Hp->VK->Prop)(to:TE)(t:TA):TE:=λU H Q=>to U H λx H1=>(∃p xs,x=.ref p/\H1 p=some (.tup xs))/\t U H1 λvs H2=>r x vs H2 Q
theorem iw {id:String}(slot:cM "tuple" name id)(hty:Tq (.builtin id)=pure (.type "method_descriptor"))(hm:Nh X id r)(ho:PE X o to)(ha:PA X (e::es) t)
  (hbase:CF o name X.env (eval o X.env)=eval o X.env:=by rfl)
  (hfew:((Cc cpos (As (e::es) X.env)).all (λx=>!x.1) && (Fq cpos (DC [] X.env)).all (λx=>x.1.isSome)
   && decide ((e::es).length+([]:List E5).length+(if ([]:List E5).isEmpty then 0 else 1)<30))=true:=by rfl)
  (hline:(apos.endLine == cpos.line)=true:=by rfl) (hs:As (e::es) X.env=(false,eval e X.env)::As es X.env:=by rfl) (hplain:(Cc cpos (As es X.env)).any (·.1)=false:=by rfl) :
  PE X (.Call (.Attribute o name apos) (e::es) [] cpos) (xL r to t):=by
 intro Ae s U H Q I h;refine PQ hbase hfew hline rfl (Dp (ho Ae s U H _ I h) λv s1 e=>e.el λx H1 I1 r1 ⟨ty,q1⟩=>?_);obtain⟨p,xs,rfl,ex⟩:=ty;cases(show v=AC p from r1);obtain⟨_,Bk,_,ob,g1,g2,n,g3,g4⟩:=(show CW X.prog X.w H1 s1.heap p (.tup xs)from I1.hok p _ ex);refine⟨"tuple",id,PySem.F.plainAttrs_tuple,slot,hty,⟨ob,g1,g2⟩,λa ha=>⟨ob,by cases ha;exact g1,g4⟩,?_⟩;have hA:=ha cpos Ae s1 U H1 _ I1 q1;rw[hs]at hA ⊢;refine Hg (by show(false || (Cc cpos (As es X.env)).any (·.1))=false;rw[hplain]<;>rfl) (NE ?_);exact Dp hA λus s2 e=>e.el λvs H2 I2 r2 q2=>hm Ae s2 U H2 _ vs _ us Q I2 r1 r2 q2
def WP (to:DV)(t:Kc):DV:=λτ M Q=>to τ M λx M1=>∃i j,x=.tup [.int i,.int j]/\t τ M1 λxs M2=>GG xs λy=>EW y λk=>∃v,(v=0/\i=k\/v=1/\i≠k/\j=k)/\Q (.int v) M2
theorem cy :WP to t τ M Q=(to τ M λx M1=>∃i j,x=.tup [.int i,.int j]/\t τ M1 λxs M2=>GG xs λy=>EW y λk=>∃v,(v=0/\i=k\/v=1/\i≠k/\j=k)/\Q (.int v) M2):=rfl
unseal BY Gc
theorem fX {o e:Ca}{to:DV}{t:Kc}{apos cpos:Pos}(ho:BY X o to)(ha:Gc X [e] t)
  (hbase:CF o "index" X.env (eval o X.env)=eval o X.env:=by rfl)
  (hfew:((Cc cpos (As [e] X.env)).all (λx=>!x.1) && (Fq cpos (DC [] X.env)).all (λx=>x.1.isSome)
   && decide ([e].length+([]:List E5).length+(if ([]:List E5).isEmpty then 0 else 1)<30))=true:=by rfl)
  (hline:(apos.endLine == cpos.line)=true:=by rfl) (hs:As [e] X.env=(false,eval e X.env)::As [] X.env:=by rfl) (hplain:(Cc cpos (As [] X.env)).any (·.1)=false:=by rfl) :
  BY X (.Call (.Attribute o "index" apos) [e] [] cpos) (WP to t):=PE.mono (iw K3 PySem.F.type_tuple_index wv ho ha hbase hfew hline hs hplain) (by
 intro U H Q;ext1⟨Z,τ,M,Q2,st,hr,h,k⟩;refine lE.bind st hr h λZ1 x dx H1 M1 l1 h1 a1 q1=>?_;obtain⟨i,j,rfl,q⟩:=q1;obtain⟨p,vs,rfl,e1,_⟩:=h1.rdK rfl a1;refine⟨⟨p,vs,rfl,e1⟩,Z1,τ,M1,_,st.mono l1,h1,q,λZ2 ws ds H2 M2 l2 h2 a2 q2=>?_⟩;obtain⟨y,rfl,q3⟩:=Hk q2;obtain⟨n,rfl,v,c,q4⟩:=CU q3;obtain⟨w,rfl,aw⟩:=IF a2;cases(show w=V.int n from aw);obtain⟨p2,vs2,ep,e2,av⟩:=h2.rdK rfl (a1.mono l2);cases ep;obtain⟨v1,v2,rfl,b1,b2⟩:=O3 av;cases(show v1=V.int i from b1);cases(show v2=V.int j from b2);have q5:=k Z2 (.int v) (.int v) _ _ (l1.trans l2) h2 rfl q4;rcases c with⟨rfl,c⟩|⟨rfl,c,d⟩
 .exact⟨p,i,j,n,rfl,rfl,e2,λ_=>q5,λd=>absurd c d⟩
 .exact ⟨p,i,j,n,rfl,rfl,e2,λd=>absurd d c,λ_=>⟨d,q5⟩⟩)
end
section
open MeetsSeq MeetsSeq2 MeetsSeq3 SeqRoads2
end
unseal Cb
end L3
namespace L2
open PySem PySem.Spec PyProof.Rows L3
section
end
end L2
namespace L3
open PySem PySem.Spec PyProof.Rows L2
unseal BY HM Jl Gc Kd GN Dd Cb FP BS FC F5 KN Ho EK
section
variable {X:Cx}
theorem Dq.rev (h:Dq Z vs ds):Dq Z vs.reverse ds.reverse:=by
 induction h with
 |nil=>exact .nil
 |cons a _ ih=>rw[Gw,Gw];exact ih.append (.cons a .nil)
def Xj:D->List D->Mp->El->Prop:=λx xs M Q=>JO x λp=>xs=[]/\NU (M p) λys=>Q .non (put M p (.lst ys.reverse))
theorem vx:EK X "list.reverse" Xj:=Nh.mono yw (by
 intro x xs H Q;ext1⟨Z,d,ds,M,Q2,hr,a,as,h,k⟩;obtain ⟨p,rfl,rfl,h1⟩:=Ib h;cases (show x=V.ref p from a);cases as;obtain ⟨ys,e,q⟩:=hZ h1;obtain ⟨vs,r,a2⟩:=hr.rdM e;exact ⟨p,vs,rfl,rfl,r,k Z .non .non _ _ (Le.refl _) (hr.chgL e a2.rev) rfl q⟩)
noncomputable def Qe (ss:List Str):List Str:=ss.mergeSort O0
theorem sw (h1:ys.Perm xs)(h2:KQ ys=true):ys=Qe xs:=
 GW (λa b _ _ p q=>aS p q) (uH _ h2) (Dh UG VW _) (h1.trans (DX _ _).symm)
theorem tP {K:Ac}{f:List Str->Mp->El->Prop}(hK:X.K=K)(hf:∀{Z:Zt}{H:Hp}{M:Mp}{Q2:El}{Q:VK}{ys:List Str}{a:Av},Hs K Z Q2 Q->HR K H M Z->H a=none->f ys M Q2->Q (.ref a) (CA H a (.lst (ys.map V.str)))):BS X (.builtin "sorted") (λxs M Q=>GG xs λx=>Ck (Bf M x) λds=>Ck (Ev ds) λss=>ss.length<64/\f (Qe ss) M Q):=by
 subst hK;intro Ae s U H xs us Q I r;ext1⟨Z,ds,M,Q2,hr,a,h,k⟩;obtain⟨x,rfl,h1⟩:=Hk h;obtain⟨zs,e,h2⟩:=Ci h1;obtain⟨ss,e2,h64,q⟩:=Ci h2;obtain⟨v,rfl,av⟩:=IF a;obtain⟨p,ws,rfl,hs,a2⟩:=hr.rdL e av;obtain⟨u,rfl,ru⟩:=G8 r;cases(show u=AC p from ru);have e3:=VX e2;subst e3;have e4:=L2.ats_strs a2;subst e4;obtain⟨Bk,rv,pl,hz⟩:=I.list hs;have l1:=rv.length;rw[Ab]at l1;refine sorted_strs pl.isList (wR rv) (by ext) λout ss' b1 b2 b3=>?_;obtain⟨c,hc⟩:=sortedAll_at s.heap Bk out;have e5:=sw b2 b3;rw[<- e5]at q;refine⟨.ref _,_,I.laid (λ_ _=>sortedAll_old) (JD _) ?_,rfl,hf k hr (I.hok.fresh (JD _)) q⟩;refine⟨?_,out.toList,c,bQ b1,hc⟩;rw[Ab,b2.length_eq];have:(64:Nat)<=Am:=by decide
 ext
theorem tQ:BS X (.builtin "sorted") (λxs M Q=>GG xs λx=>Ck (Bf M x) λds=>Ck (Ev ds) λss=>ss.length<64/\Q (.lst ((Qe ss).map D.str)) M):=tP rfl λk hr ha q=>k.f hr ha (Yx _) q
theorem vk:BS X (.builtin "sorted") (λxs M Q=>GG xs λx=>Ck (Bf M x) λds=>Ck (Ev ds) λss=>ss.length<64/\∀p,M p=none->Q (.ref p) (put M p (.lst ((Qe ss).map D.str)))):=tP rfl λk hr ha q=>k.l hr ha (Yx _) q
end
end L3
set_option maxHeartbeats 4000000
namespace My
open PySem PyProof.Rows L2 L3
local macro_rules | `(nofun)=>`(Dy.mono ‹Dy _ _› (by first | decide | omega))
local macro_rules | `(tactic| walk_at "eq")=>`(tactic| simp only[List.cons.injEq,HX,D.int.injEq,D.str.injEq,D.bl.injEq,D.tup.injEq,D.lst.injEq,D.ref.injEq,true_and,and_true,exists_and_left,exists_and_right,exists_eq',exists_eq,exists_const,eq_self])
local macro_rules | `(tactic| walk_at "cap")=>`(tactic| (simp only[yP,AR,Dr,G7,G6,Pb];grind))
local macro_rules | `(tactic| right)=>`(tactic| ((try simp only[MC,Mz,MA]);grind))
local macro_rules | `(tactic| simp_arith [$xs,*])=>`(tactic| simp -failIfUnchanged only[↓yV,↓kz,↓jh,↓jg,Hn,↓Xx,↓dh,↓kq,↓yT,↓qd,↓cm,↓cn,↓cy,↓eU,↓Xw,↓eT,↓Xv,↓eS,↓fJ,↓Xu,↓XD,↓fI,↓Xs,↓XC,↓fH,↓Xr,↓XB,↓fG,↓eE,↓eQ,↓fE,↓eC,↓eO,↓fB,↓dZ,↓eJ,↓eY,↓dY,↓eI,↓eX,↓c7,↓az,↓c8,↓ba,↓c9,↓bb,↓db,↓bc,↓de,↓bd,↓df,↓be,↓mM,↓XE,↓pA,↓nw,↓Xy,↓yL,↓eV,↓zI,↓gj,↓ar,↓XF,↓fL,↓nY,↓oX,↓oF,↓jf,↓zF,↓fM,↓gm,↓sh,↓km,↓eG,↓ji,↓oE,↓zH,↓gx,↓oB,↓yY,↓yN,↓yW,↓eF,↓qa,↓qb,↓ny,↓gq,↓fN,↓yO,↓gt,↓gu,↓gr,↓lg,↓k7,↓k8,↓yS,↓k6,↓yX,↓k9,↓gY,↓gX,↓Yd,↓QB,↓BR,↓kj,↓iQ,↓yR,↓p7,↓yZ,↓zC,↓ZG,↓oA,↓XA,↓oC,↓Xz,↓nW,↓zG,↓yU,↓zA,↓zD,↓zB,↓cq,↓cr,↓gp,↓yQ,↓jd,↓oY,↓jc,↓oh,↓om,↓gy,↓fK,↓nX,↓cu,↓cw,↓zE,↓cv,↓p8,↓p9,↓si,↓cz,↓ZgA,↓Zfv,↓Zej,↓Zei,↓ZcV,↓R5,↓yC,↓yB,↓yA,↓cx,↓yM,↓nz,↓oo,↓oq,↓zJ,↓al,↓am,↓reduceIte,if_true,if_false,FS,decide_eq_true_eq,IZ,Bool.not_false,true_and,and_true,AO,E9,Ab,Aq,Ed,FI,EI,ne_eq,reduceCtorEq,not_false_eq_true,Int.reduceLT,Int.reduceLE,Int.reducePow,Int.reduceNeg,forall_const,eq_self,NF,decide_true,decide_false,FZ,List.all_nil,Fs,List.any_nil,TL,Mh,Mi,Mj,Ke,BI,decide_eq_false_iff_not,Rv,Ms,Vi,Nat.reduceMul,Int.reduceAdd,Int.reduceSub,Int.reduceMul,Wz,Rw,Int.reduceToNat,BR,gY,gX,Yd,QB,mJ,s9,jv,jw,GS,gP,gO,bj,bm,bo,bq,dI,Nat.succ_ne_zero,Rw,false_and,$xs,*])
local macro_rules | `(tactic| grind)=>`(tactic| simp_arith [true_and])
noncomputable def Dt (i:Nat):DG:=TH.main.body.getD i (.Pass ⟨0,0,0,0⟩)
noncomputable def R4 (s:DG):List DG:=match s with
 |.ClassDef _ _ _ b _ _ _ _ _ _ _=>b
 |_=>[]
abbrev tm (k j:Nat):DG:=(R4 (Dt k)).getD j (.Pass ⟨0,0,0,0⟩)
section
variable {P:Bq}{w:BM}{K:Ac}{mg:Str->Option Ai}{base:CV}
noncomputable def QK:List (Str×Int):=[("num",0),("box",0),("late",0),("door",0),("not",1),("and",2),("or",2),("xor",2),("plus",2),("minus",2),("less",2),("same",2),("pick",3),("join",2),("part",1)]
theorem Zg9:QK.lookup ("num":Str)=some 0:=by nofun
theorem Χ:QK.lookup ("box":Str)=some 0:=by nofun
theorem Zf3:QK.lookup ("late":Str)=some 0:=by nofun
theorem Zf4:QK.lookup ("door":Str)=some 0:=by nofun
theorem Ψ:QK.lookup ("not":Str)=some 1:=by nofun
theorem Zf1:QK.lookup ("pick":Str)=some 3:=by nofun
theorem Zf2:QK.lookup ("part":Str)=some 1:=by nofun
structure DF (K:Ac)(mg:Str->Option Ai)(x:Str)(st:DG)(ps:List Str) where
 f:Av
 g:DH
 d:Df K mg x st ps f g
structure DM (K:Ac)(C:Av)(m qual:Str)(st:DG)(ps:List Str) where
 f:Av
 g:DH
 d:Mf K C m qual st ps f g
set_option genInjectivity false in
set_option genSizeOf false in
structure Tx (K:Ac)(w:BM)(mg:Str->Option Ai) where
 C_Known:Av
 cl_Known:Ob K C_Known
 mgc_Known:mg "Known" = some (.ref C_Known)
 na_Known_row:D6 K C_Known "row"
 na_Known_marks:D6 K C_Known "marks"
 na_Known_spans:D6 K C_Known "spans"
 x0:DF K mg "is_width" (Dt 12) ["number"]
 x1:DF K mg "fits" (Dt 13) ["width", "number"]
 x2:DF K mg "check_width" (Dt 14) ["number"]
 x3:DF K mg "check_word" (Dt 15) ["width", "number"]
 x4:DF K mg "cut" (Dt 16) ["width", "number"]
 x5:DF K mg "bits_of" (Dt 17) ["width", "word"]
 x6:DF K mg "held_terms" (Dt 22) ["term"]
 x7:DF K mg "size_of" (Dt 23) ["T"]
 x8:DF K mg "width_of" (Dt 24) ["T", "boxes", "doors"]
 x9:DF K mg "checked_width" (Dt 25) ["term", "boxes", "doors"]
 x10:DF K mg "checked_num" (Dt 26) ["width", "word"]
 x11:DF K mg "width_named" (Dt 27) ["widths", "name"]
 x12:DF K mg "check_own" (Dt 28) ["term", "widths"]
 x13:DF K mg "check_part" (Dt 29) ["low", "many", "width"]
 x14:DF K mg "check_join" (Dt 30) ["width"]
 x15:DF K mg "check_like" (Dt 31) ["width", "other"]
 x16:DF K mg "width_over" (Dt 32) ["term", "widths"]
 x17:DF K mg "reads" (Dt 33) ["T"]
 x18:DF K mg "leaves_of" (Dt 34) ["term"]
 x19:DF K mg "names_in" (Dt 35) ["leaves", "form"]
 x20:DF K mg "marks_of" (Dt 37) ["span"]
 x21:DF K mg "unknown_span" (Dt 38) ["width"]
 x22:DF K mg "with_mark" (Dt 39) ["span", "place", "mark"]
 x23:DF K mg "span_of" (Dt 40) ["term", "spans"]
 x24:DF K mg "span_over" (Dt 41) ["term", "held"]
 x25:DF K mg "span_of_two" (Dt 42) ["form", "one", "other"]
 x26:DF K mg "doubt" (Dt 43) ["span"]
 x27:DF K mg "doubted" (Dt 44) ["width", "word", "unknown"]
 x28:DF K mg "not_span" (Dt 45) ["span"]
 x29:DF K mg "sum_span" (Dt 46) ["one", "other", "carry"]
 x30:DF K mg "less_span" (Dt 47) ["one", "other"]
 x31:DF K mg "same_span" (Dt 48) ["one", "other"]
 x32:DF K mg "pick_span" (Dt 49) ["chosen", "one", "other"]
 x33:DF K mg "join_span" (Dt 50) ["one", "other"]
 x34:DF K mg "part_span" (Dt 51) ["span", "low", "many"]
 x35:DF K mg "made" (Dt 58) ["boxes", "doors", "rules"]
 x36:DF K mg "check_many" (Dt 59) ["things", "most", "called"]
 x37:DF K mg "is_name" (Dt 60) ["text"]
 x38:DF K mg "take_name" (Dt 61) ["name", "taken"]
 x39:DF K mg "check_once" (Dt 62) ["name", "taken"]
 x40:DF K mg "checked_boxes" (Dt 63) ["boxes", "taken"]
 x41:DF K mg "checked_doors" (Dt 64) ["doors", "taken"]
 x42:DF K mg "check_rule" (Dt 65) ["rule", "taken", "box_widths", "door_widths"]
 x43:DF K mg "rule_of" (Dt 66) ["works", "name"]
 x44:DF K mg "rule_names" (Dt 67) ["works"]
 x45:DF K mg "widths_of" (Dt 68) ["works"]
 x46:DF K mg "asked_bits" (Dt 71) ["works", "one", "other"]
 x47:DF K mg "shared" (Dt 72) ["names", "others"]
 x48:DF K mg "unshared" (Dt 73) ["names", "others"]
 x49:DF K mg "bits_named" (Dt 74) ["sort", "names", "widths"]
 x50:DM K C_Known "__init__" "Known.__init__" (tm 75 0) ["self", "row"]
 mk_Known:Mk K C_Known x50.f
 x51:DM K C_Known "learn" "Known.learn" (tm 75 1) ["self", "mark"]
 x52:DM K C_Known "forget" "Known.forget" (tm 75 2) ["self"]
 x53:DM K C_Known "know" "Known.know" (tm 75 3) ["self", "many"]
 x54:DM K C_Known "go_on" "Known.go_on" (tm 75 4) ["self", "guards"]
 x55:DM K C_Known "settled_at" "Known.settled_at" (tm 75 5) ["self", "many", "guards"]
 x56:DM K C_Known "put" "Known.put" (tm 75 6) ["self", "number", "mark"]
 x57:DM K C_Known "turn" "Known.turn" (tm 75 7) ["self"]
 x58:DM K C_Known "guard_marks" "Known.guard_marks" (tm 75 8) ["self", "guards"]
 x59:DM K C_Known "guard_mark" "Known.guard_mark" (tm 75 9) ["self", "guard", "sort"]
 x60:DM K C_Known "both_words" "Known.both_words" (tm 75 10) ["self"]
 x61:DM K C_Known "low_words" "Known.low_words" (tm 75 11) ["self", "sort"]
 x62:DF K mg "never_both" (Dt 76) ["works", "one", "other"]
 x63:DF K mg "written" (Dt 78) ["works", "name"]
 x64:DF K mg "read_early" (Dt 79) ["works", "name"]
 x65:DF K mg "read_late" (Dt 80) ["works", "name"]
 x66:DF K mg "boxes_read" (Dt 81) ["rule", "number"]
 x67:DF K mg "clash" (Dt 82) ["works", "ahead", "behind"]
 x68:DF K mg "clashes_of" (Dt 84) ["works", "order"]
 x69:DF K mg "check_order" (Dt 85) ["works", "order"]
 x70:DF K mg "clashing" (Dt 86) ["works", "ahead", "names"]
 x71:DF K mg "are_paired" (Dt 87) ["pairs", "one", "other"]
 x72:DF K mg "rivals_of" (Dt 88) ["works", "clashes", "name"]
 x73:DF K mg "ahead_of" (Dt 89) ["names", "name"]
 x74:DF K mg "needs" (Dt 91) ["works", "order"]
 x75:DF K mg "needs_with" (Dt 92) ["works", "order", "clashes"]
 x76:DF K mg "needed_by" (Dt 93) ["works", "order", "clashes", "name"]
 x77:DF K mg "_law_cell_at" (Dt 95) ["script", "k"]
 x78:DF K mg "_law_whole" (Dt 96) ["found"]
 x79:DF K mg "_law_name" (Dt 97) ["number", "k"]
 x80:DF K mg "_law_leaf" (Dt 98) ["number", "want", "boxes", "doors"]
 x81:DF K mg "_law_term" (Dt 99) ["number", "want", "deep", "boxes", "doors"]
 x82:DF K mg "_law_writes" (Dt 100) ["number", "boxes", "doors"]
 x83:DF K mg "_law_things" (Dt 101) ["script", "mods", "most_doors", "most_rules"]
 x84:DF K mg "_law_order" (Dt 103) ["number", "rules"]
 x85:DF K mg "_law_read" (Dt 104) ["term", "word"]
 x86:DF K mg "_law_needs" (Dt 105) ["rules", "order", "pairs"]
 x87:DF K mg "law" (Dt 106) ["script"]
 t_WIDEST:Tok
 m_WIDEST:mg "WIDEST" = some (.int 64 t_WIDEST)
 t_MOST_PARTS:Tok
 m_MOST_PARTS:mg "MOST_PARTS" = some (.int 100 t_MOST_PARTS)
 t_MOST_DEEP:Tok
 m_MOST_DEEP:mg "MOST_DEEP" = some (.int 12 t_MOST_DEEP)
 t_MOST_BOXES:Tok
 m_MOST_BOXES:mg "MOST_BOXES" = some (.int 12 t_MOST_BOXES)
 t_MOST_DOORS:Tok
 m_MOST_DOORS:mg "MOST_DOORS" = some (.int 6 t_MOST_DOORS)
 t_MOST_RULES:Tok
 m_MOST_RULES:mg "MOST_RULES" = some (.int 8 t_MOST_RULES)
 t_MOST_WRITES:Tok
 m_MOST_WRITES:mg "MOST_WRITES" = some (.int 6 t_MOST_WRITES)
 t_LONGEST_NAME:Tok
 m_LONGEST_NAME:mg "LONGEST_NAME" = some (.int 8 t_LONGEST_NAME)
 t_MOST_CUBES:Tok
 m_MOST_CUBES:mg "MOST_CUBES" = some (.int 64 t_MOST_CUBES)
 h_HELD:Av
 m_HELD:mg "HELD" = some (.ref h_HELD)
 T_HELD:TabOk K w h_HELD QK
 B:Blt mg
abbrev Ok (P:Bq)(w:BM)(K:Ac)(mg:Str->Option Ai)(base:CV)(k:Nat)(f:Av)(fd:DH)(ps:List Str)(sp:DO):Prop:=FnOk P w K mg base CX0 k f fd ps (lSp K sp)
abbrev Tv (P:Bq)(w:BM)(K:Ac)(mg:Str->Option Ai)(base:CV):=Tx K w mg
abbrev Od (_:Tv P w K mg base){x:Str}{st:DG}{ps:List Str}(d:DF K mg x st ps)(k:Nat)(sp:DO):Prop:=Ok P w K mg base k d.f d.g ps sp
abbrev Om (_:Tv P w K mg base){C:Av}{m qual:Str}{st:DG}{ps:List Str}(d:DM K C m qual st ps)(k:Nat)(sp:DO):Prop:=Ok P w K mg base k d.f d.g ps sp
variable (T:Tv P w K mg base)
theorem yp:(("box":Str)=("num":Str))=False:=eq_false (by nofun)
theorem zi:(("late":Str)=("num":Str))=False:=eq_false (by nofun)
theorem zh:(("late":Str)=("box":Str))=False:=eq_false (by nofun)
theorem zg:(("door":Str)=("num":Str))=False:=eq_false (by nofun)
theorem zf:(("door":Str)=("box":Str))=False:=eq_false (by nofun)
theorem ς:(("door":Str)=("late":Str))=False:=eq_false (by nofun)
theorem zl:(("not":Str)=("part":Str))=False:=eq_false (by nofun)
theorem zj:(("not":Str)=("join":Str))=False:=eq_false (by nofun)
theorem zm:(("not":Str)=("pick":Str))=False:=eq_false (by nofun)
theorem zk:(("not":Str)=("less":Str))=False:=eq_false (by nofun)
theorem zn:(("not":Str)=("same":Str))=False:=eq_false (by nofun)
theorem ZgY:(("pick":Str)=("part":Str))=False:=eq_false (by nofun)
theorem ω:(("pick":Str)=("join":Str))=False:=eq_false (by nofun)
theorem Ω:(("pick":Str)=("less":Str))=False:=eq_false (by nofun)
theorem ZgX:(("pick":Str)=("same":Str))=False:=eq_false (by nofun)
theorem σ:(("part":Str)=("join":Str))=False:=eq_false (by nofun)
theorem χ:(("part":Str)=("pick":Str))=False:=eq_false (by nofun)
theorem υ:(("part":Str)=("less":Str))=False:=eq_false (by nofun)
theorem ψ:(("part":Str)=("same":Str))=False:=eq_false (by nofun)
theorem je :X3 is (.tup xs) τ k=(xs.length=is.length/\k (Gk τ is xs)):=rfl
theorem kx :Gk τ (i::is) (x::xs)=Gk (τ.set i (some x)) is xs:=by rw[Gk]
theorem ku :Gk τ [] []=τ:=by unfold Gk;rfl
theorem dg :GB 16 (x0::x1::x2::x3::x4::x5::x6::x7::x8::x9::x10::x11::x12::x13::x14::x15::some d::τ) M Q=Q d M:=rfl
theorem bf :Fz 16 te E (x0::x1::x2::x3::x4::x5::x6::x7::x8::x9::x10::x11::x12::x13::x14::x15::o::τ) M=te (x0::x1::x2::x3::x4::x5::x6::x7::x8::x9::x10::x11::x12::x13::x14::x15::o::τ) M λd M1=>E.nx (x0::x1::x2::x3::x4::x5::x6::x7::x8::x9::x10::x11::x12::x13::x14::x15::some d::τ) M1:=rfl
local macro_rules | `(tactic| simp_all_arith [$xs,*])=>`(tactic| simp_arith [Zg9,Χ,Zf3,Zf4,Ψ,Zf1,Zf2,yp,zi,zh,zg,zf,ς,zl,zj,zm,zk,zn,ZgY,ω,Ω,ZgX,σ,χ,υ,ψ,je,kx,ku,dg,bf,CD,B5,$xs,*])
local macro_rules | `(tactic| grind)=>`(tactic| simp_all_arith [true_and])
abbrev ε:DO:=λds M Q=>GG ds λx=>EW x λn=>Q (.bl (decide (1<=n/\n<=64))) M
theorem z5:Od T T.x0 1 ε:=by
 refine CI.p1 T.x0.d.F ["number"] λx M Q hr nN h1=>?_;obtain⟨n,rfl,q⟩:=CU h1;refine⟨_,(qO (CC (NR Qp Qp Aj (qv 0) (Ii T.m_WIDEST)))),?_⟩;right;refine Cz (λc=>?_) λc=>?_
 .rw[show decide (1<=n/\n<=64)=decide (n<=64) by simp[c]]at q;exact Dn.of q
 .rw[show decide (1<=n/\n<=64)=false by simp;intro h;ext]at q;exact Dn.of q
theorem rc (w:Nat)(h0:0<=n):Ej n<=w↔n<2^w:=by
 unfold Ej;by_cases hz:n=0
 .subst hz;have:(0:Int)<2^w:=PV (by decide);simp[this]
 .have hz':(n == 0)=false:=by simpa using hz
  rw[hz'];have ha:n.natAbs≠0:=by ext
  have hl:=Nat.log2_lt (n:=n.natAbs) (k:=w) ha;have e:((2^w:Nat):Int)=(2:Int)^w:=by simp
  constructor
  .intro h;have h0:n.natAbs.log2+1<=w:=by simpa using h
   have h1:=hl.mp h0;ext
  .intro h;have h1:n.natAbs<2^w:=by ext
   have h2:n.natAbs.log2+1<=w:=hl.mpr h1;simpa using h2
abbrev ql:DO:=λds M Q=>FF ds λx y=>EW x λw=>EW y λn=>0<=w/\Q (.bl (decide (0<=n/\n<2^w.toNat))) M
theorem ox:Od T T.x1 1 ql:=by
 refine CI.p2 T.x1.d.F ["width", "number"] λx y M Q hr nN h1=>?_;obtain⟨wd,rfl,h2⟩:=CU h1;obtain⟨n,rfl,hw,q⟩:=CU h2;refine⟨_,(qO (CC (RP (Jx XS (qv 1) Aj) (NQ (Jx Qp (T7 PySem.F.plainAttrs_int PySem.F.slot_int_bit_length PySem.F.type_int_bit_length e8 (qv 1)) (qv 0)))))),?_⟩;right;refine Cz (λc=>?_) λc=>?_
 .have c':0<=n:=by simpa using c
  have hb:=rc wd.toNat c'
  rw [show decide (0<=n/\n<2^wd.toNat)=decide ((Ej n:Int)<=wd) by
   rw[Dm,decide_eq_true_iff,decide_eq_true_iff];constructor
   .intro h;have:=hb.mpr h.2;ext
   .intro h;exact ⟨c',hb.mp (by ext)⟩] at q
  exact Dn.of q
 .have c':¬ 0<=n:=by simpa using c
  rw[show decide (0<=n/\n<2^wd.toNat)=false by simp;intro h;ext]at q;exact Dn.of q
abbrev Zeb:DO:=λds M Q=>GG ds λx=>EW x λw=>(1<=w/\w<=64)/\Q .non M
theorem kY:Od T T.x2 2 Zeb:=by
 refine CI.p1 T.x2.d.F ["number"] λx M Q hr nN h1=>?_;obtain⟨wd,e1',⟨a1,a2⟩,q⟩:_:=CU h1;refine⟨_,(qO (Ez (Li (GF (Ay T.x0.d (z5 T) nofun (qA (qv 0) qN)))) (qO O4) qE)),?_⟩;right;refine Cz (λc=>?_) λc=>Dn.of q;simp[a1,a2]at c
abbrev Zfe:DO:=λds M Q=>FF ds λx y=>EW x λw=>EW y λn=>(1<=w/\0<=n/\n<2^w.toNat)/\Q .non M
theorem wI:Od T T.x3 2 Zfe:=by
 refine CI.p2 T.x3.d.F ["width", "number"] λx y M Q hr nN h1=>?_;obtain⟨wd,rfl,h2⟩:=CU h1;obtain⟨n,e1',⟨a1,a3,a4⟩,q⟩:_:=CU h2;refine⟨_,(qO (Ez (Li (GF (Ay T.x1.d (ox T) nofun (qA (qv 0) (qA (qv 1) qN))))) (qO O4) qE)),?_⟩;right;refine⟨by ext,Cz (λc2=>?_) λc2=>Dn.of q⟩;simp[a3,a4]at c2
theorem m7 (h:a<=b):(2:Int)^a<=2^b:=by
 have h1:=Nat.pow_le_pow_right (n:=2) (by decide) h;have e:∀k,((2^k:Nat):Int)=(2:Int)^k:=λk=>by simp
 rw[<- e,<- e];exact WB.mpr h1
theorem V2 (w):(0:Int)<2^w:=PV (by decide)
abbrev lq:DO:=λds M Q=>FF ds λx y=>EW x λw=>EW y λn=>(0<=w/\w<=1000)/\Q (.int (n%2^w.toNat)) M
theorem Us:Od T T.x4 1 lq:=by
 refine CI.p2 T.x4.d.F ["width", "number"] λx y M Q hr nN h1=>?_;obtain⟨wd,rfl,h2⟩:=CU h1;obtain⟨n,e1',⟨h0,h64⟩,q⟩:_:=CU h2;refine⟨_,(qO (CC (BC G3 (qv 1) (BC VD Aj (Cp (nI rfl) T.B.max boot_max (qA (qv 0) (qA Aj qN))))))),?_⟩;right;rw[if_neg (by omega:¬ 0 > wd),U9];exact⟨⟨h0,by ext,by decide⟩,PV (by decide),Dn.of q⟩
noncomputable def HD (w:Nat)(x:Int):List Int:=(Bp w).map λk=>x / 2^k%2
noncomputable def weight:List Int->Int
 |[]=>0
 |b::r=>b+2*weight r
theorem tN (w:Nat)(x:Int):(HD w x).length=w:=by unfold HD;rw[Ab,B9]
theorem xm (w)(x):HD (w+1) x=x%2::HD w (x / 2):=by
 unfold HD;rw[EB,AR,Bv];congr 1
 .simp
 .apply Dj;intro k _;show x / 2^(k+1)%2=x / 2 / 2^k%2;rw[FV,WC,Int.ediv_ediv_of_nonneg (by decide)]
theorem xl (w:Nat)(x:Int):HD (w+1) x=HD w x++[x / 2^w%2]:=by
 unfold HD;rw[Rx,AI];rfl
abbrev xw:DO:=λds M Q=>FF ds λx y=>EW x λw=>EW y λn=>(0<=w/\w<=64)/\∀p,M p=none->Q (.ref p) (put M p (.lst ((HD w.toNat n).map D.int)))
theorem vG:Od T T.x5 1 xw:=by
 refine CI.p2 T.x5.d.F ["width", "word"] λx y M Q hr nN h1=>?_;obtain⟨wd,rfl,h2⟩:=CU h1;obtain⟨n,e1',⟨h0,h64⟩,q⟩:_:=CU h2;refine⟨_,(qO (CC (XH (caps:=[("word",1)]) ⟨rfl,by rfl,by rfl,by rfl,rfl,by rfl,by nofun⟩ rfl (bB T.B.range (qA (qv 0) qN)) (λ_ _ _ _ _ _=>(BC Td (BC hV (qv 1) (qv 0)) Aj))))),?_⟩;right;refine⟨by ext,by rw[VT];exact GD (by ext),λi ys M'=>M'=M/\ys=(HD i n).map D.int,⟨rfl,rfl⟩,?_,?_,?_⟩
 .rintro i ys M' ⟨rfl,rfl⟩;exact⟨trivial,by rw[Ab,tN];exact AJ _⟩
 .rintro i x ys M' hx ⟨rfl,rfl⟩;obtain⟨hi,rfl⟩:=Yl hx;walk_at "cap";refine⟨by ext,?_⟩;rw[xl,AI]
  have e:AD (n / 2^((0:Int)+(i:Int)).toNat) 1=n / 2^i%2:=by
   rw[show((0:Int)+(i:Int)).toNat=i by ext];exact PySem.W.kbt_mask (n / 2^i) 1
  rw[e];rfl
 .rintro ys M' ⟨rfl,rfl⟩ p hp;rw[VT];exact Dn.of (q p hp)
inductive Gd where
 |and | or | xor | plus | minus | less | same | join
noncomputable def Gd.nm:Gd->Str
 |.and=>"and" |.or=>"or" |.xor=>"xor" |.plus=>"plus" |.minus=>"minus" |.less=>"less" |.same=>"same" |.join=>"join"
inductive Tm where
 |num (w n:Int) | box (x:Str) | late (x:Str) | door (x:Str)
 |not (t:Tm) | bin (o:Gd) (t u:Tm) | pick (c t u:Tm) | part (t:Tm) (lo many:Int)
noncomputable def Tm.D:Tm->D
 |.num w n=>.tup [.str "num",.int w,.int n]
 |.box x=>.tup [.str "box",.str x]
 |.late x=>.tup [.str "late",.str x]
 |.door x=>.tup [.str "door",.str x]
 |.not t=>.tup [.str "not",t.D]
 |.bin o t u=>.tup [.str o.nm,t.D,u.D]
 |.pick c t u=>.tup [.str "pick",c.D,t.D,u.D]
 |.part t lo many=>.tup [.str "part",t.D,.int lo,.int many]
noncomputable def Tm.kids:Tm->List Tm
 |.not t=>[t]
 |.bin _ t u=>[t,u]
 |.pick c t u=>[c,t,u]
 |.part t _ _=>[t]
 |_=>[]
noncomputable def Tm.parts:Tm->Nat
 |.not t=>t.parts+1
 |.bin _ t u=>t.parts+u.parts+1
 |.pick c t u=>c.parts+t.parts+u.parts+1
 |.part t _ _=>t.parts+1
 |_=>1
noncomputable def Tm.deep:Tm->Nat
 |.not t=>t.deep+1
 |.bin _ t u=>max t.deep u.deep+1
 |.pick c t u=>max c.deep (max t.deep u.deep)+1
 |.part t _ _=>t.deep+1
 |_=>1
theorem Gd.nm_inj {a b:Gd}(h:a.nm=b.nm):a=b:=by
 cases a<;>cases b<;>first | rfl | exact absurd h (by nofun)
theorem Gd.nm_ne {o:Gd}:o.nm≠"num"/\o.nm≠"box"/\o.nm≠"late"/\o.nm≠"door"/\o.nm≠"not"/\o.nm≠"pick"/\o.nm≠"part":=by cases o<;>nofun
theorem Tm.D_inj:∀{t u:Tm},t.D=u.D->t=u
 |.num a b,.num c d,h=>by simp[Tm.D]at h;rw[h.1,h.2]
 |.box x,.box y,h=>by simp[Tm.D]at h;rw[h]
 |.late x,.late y,h=>by simp[Tm.D]at h;rw[h]
 |.door x,.door y,h=>by simp[Tm.D]at h;rw[h]
 |.not t,.not u,h=>by simp[Tm.D]at h;rw[Tm.D_inj h]
 |.bin o t u,.bin o' t' u',h=>by simp[Tm.D]at h;rw[Gd.nm_inj h.1,Tm.D_inj h.2.1,Tm.D_inj h.2.2]
 |.pick c t u,.pick c' t' u',h=>by simp[Tm.D]at h;rw[Tm.D_inj h.1,Tm.D_inj h.2.1,Tm.D_inj h.2.2]
 |.part t a b,.part t' a' b',h=>by simp[Tm.D]at h;rw[Tm.D_inj h.1,h.2.1,h.2.2]
 |.num _ _,.box _,h | .num _ _,.late _,h | .num _ _,.door _,h | .num _ _,.not _,h | .num _ _,.pick _ _ _,h | .num _ _,.part _ _ _,h=>by simp[Tm.D]at h
 |.num _ _,.bin o _ _,h=>by simp[Tm.D]at h;exact absurd h.1.symm Gd.nm_ne.1
 |.box _,.num _ _,h | .box _,.bin _ _ _,h | .box _,.pick _ _ _,h | .box _,.part _ _ _,h=>by simp[Tm.D]at h
 |.late _,.num _ _,h | .late _,.bin _ _ _,h | .late _,.pick _ _ _,h | .late _,.part _ _ _,h=>by simp[Tm.D]at h
 |.door _,.num _ _,h | .door _,.bin _ _ _,h | .door _,.pick _ _ _,h | .door _,.part _ _ _,h=>by simp[Tm.D]at h
 |.box _,.not _,h | .late _,.not _,h | .door _,.not _,h | .box _,.late _,h | .box _,.door _,h | .late _,.box _,h | .late _,.door _,h | .door _,.box _,h | .door _,.late _,h=>by simp[Tm.D]at h;exact absurd h.1 (by nofun)
 |.not _,.num _ _,h | .not _,.bin _ _ _,h | .not _,.pick _ _ _,h | .not _,.part _ _ _,h=>by simp[Tm.D]at h
 |.not _,.box _,h | .not _,.late _,h | .not _,.door _,h=>by simp[Tm.D]at h;exact absurd h.1 (by nofun)
 |.bin o _ _,.num _ _,h=>by simp[Tm.D]at h;exact absurd h.1 Gd.nm_ne.1
 |.bin _ _ _,.box _,h | .bin _ _ _,.late _,h | .bin _ _ _,.door _,h | .bin _ _ _,.not _,h | .bin _ _ _,.pick _ _ _,h | .bin _ _ _,.part _ _ _,h=>by simp[Tm.D]at h
 |.pick _ _ _,.num _ _,h | .pick _ _ _,.box _,h | .pick _ _ _,.late _,h | .pick _ _ _,.door _,h | .pick _ _ _,.not _,h | .pick _ _ _,.bin _ _ _,h=>by simp[Tm.D]at h
 |.pick _ _ _,.part _ _ _,h=>by simp[Tm.D]at h;exact absurd h.1 (by nofun)
 |.part _ _ _,.num _ _,h | .part _ _ _,.box _,h | .part _ _ _,.late _,h | .part _ _ _,.door _,h | .part _ _ _,.not _,h | .part _ _ _,.bin _ _ _,h=>by simp[Tm.D]at h
 |.part _ _ _,.pick _ _ _,h=>by simp[Tm.D]at h;exact absurd h.1 (by nofun)
open Classical in
noncomputable def Iy (x:D):Option Tm:=if h:∃t,t.D=x then some h.choose else none
theorem VJ (t):Iy t.D=some t:=by
 have h:∃u:Tm,u.D=t.D:=⟨t,rfl⟩;unfold Iy;rw[dif_pos h,Tm.D_inj h.choose_spec]
theorem qt (h:Iy x=some t):x=t.D:=by
 unfold Iy at h;split at h
 .next e=>cases h;exact e.choose_spec.symm
 .cases h
theorem N4 {x:D}{k:Tm->Prop}(h:Ck (Iy x) k):∃t,x=t.D/\k t:=by
 obtain⟨t,e,q⟩:=Ci h;exact⟨t,qt e,q⟩
theorem Tm.deep_pos (t:Tm):1<=t.deep:=by cases t<;>simp[Tm.deep]
theorem Tm.deep_kid {t k:Tm}(h:k∈t.kids):k.deep+1<=t.deep:=by
 cases t<;>simp[Tm.kids]at h<;>simp only[Tm.deep]
 .subst h;ext
 .rcases h with rfl|rfl<;>ext
 .rcases h with rfl|rfl|rfl<;>ext
 .subst h;ext
noncomputable def EX:List Tm->Nat
 |[]=>0
 |t::r=>t.parts+EX r
noncomputable def FA:List Tm->Nat
 |[]=>0
 |t::r=>max t.deep (FA r)
theorem wL (t:Tm):∀l,EX (l++[t])=EX l+t.parts
 |[]=>by simp[EX]
 |x::r=>by rw[Ed,EX,EX,wL t r];ext
theorem wO (t:Tm):∀l,FA (l++[t])=max (FA l) t.deep
 |[]=>by simp[FA]
 |x::r=>by rw[Ed,FA,FA,wO t r];ext
theorem Tm.parts_eq (t:Tm):t.parts=1+EX t.kids:=by cases t<;>simp[Tm.parts,Tm.kids,EX]<;>ext
theorem Tm.deep_eq (t:Tm):t.deep=FA t.kids+1:=by cases t<;>simp[Tm.deep,Tm.kids,FA]<;>ext
theorem UH (o:Gd):QK.lookup o.nm=some 2:=by cases o<;>nofun
abbrev Zfc:DO:=λds M Q=>GG ds λx=>Ck (Iy x) λt=>Q (.tup (t.kids.map Tm.D)) M
theorem bU:Od T T.x6 1 Zfc:=by
 refine CI.p1 T.x6.d.F ["term"] λx M Q hr nN h1=>?_;obtain⟨t,rfl,q⟩:=N4 h1;refine⟨_,(qO (CC (IA oH (qv 0) (Tg Aj) (Tg (BC Hl Aj (Be (pU T.T_HELD) (Ql T.m_HELD) (Be BA (qv 0) Aj))))))),?_⟩;cases t<;>simp only[Tm.D]<;>right<;>(try simp only[UH])<;>(try grind)<;>exact Dn.of q
abbrev bJ (n:Nat)(ds:List D)(M:Mp)(Q:El):Prop:=GG ds λx=>Ck (Iy x) λt=>t.deep<=n/\Q (.tup [.int t.parts,.int t.deep]) M
local macro_rules | `(tactic| simp_all_arith! [$xs,*])=>`(tactic| simp_all_arith [VJ,UH,$xs,*])
local macro_rules | `(tactic| grind)=>`(tactic| simp_all_arith! [true_and])
theorem ZgI {n:Nat}(G_size_of:Od T T.x7 (n+3) (bJ n)):Od T T.x7 (n+4) (bJ (n+1)):=by
 refine CI.p1 T.x7.d.F ["T", "parts", "deepest", "inner", "size"] λx M Q hr nN h1=>?_;obtain⟨t,rfl,hd,q⟩:=N4 h1;refine⟨_,(qC (Cw 1 nN Aj) (qC (Cw 2 nN Aj) (EO (KG AK rfl (QD (Ay T.x6.d (bU T) nofun (qA (qv 0) qN))) (MM (i:=3) nN rfl (BX rfl)) (qC (Cw 4 nN (Ay T.x7.d G_size_of nofun (qA (qv 3) qN))) (qC (Cw 1 nN (BC Hl (qv 1) (Be BA (qv 4) Aj))) (qO (Cw 2 nN (Cp (nI rfl) T.B.max boot_max (qA (qv 2) (qA (Be BA (qv 4) Aj) qN)))))))) (qO (CC (CB (qA (qv 1) (qA (BC Hl (qv 2) Aj) qN)))))))),?_⟩;right;refine⟨λτ M'=>M'=M/\∃v3 v4,τ=[some t.D,some (.int t.parts),some (.int (t.deep-1)),v3,v4],?_,?_⟩
 .grind;refine⟨λk τ M'=>M'=M/\∃v3 v4,τ=[some t.D,some (.int (1+EX (t.kids.take k):Nat)),some (.int (FA (t.kids.take k):Nat)),v3,v4],⟨rfl,none,none,rfl⟩,λ_ _ _ _=>trivial,?_,?_⟩
  .intro k y τ M' hy;ext1⟨e1',v3,v4,e2'⟩;obtain⟨u,hu,rfl⟩:=LW hy;have du:=Tm.deep_kid (Aw hu);have e1:t.kids.take (k+1)=t.kids.take k++[u]:=by rw[A8,hu];rfl
   grind;rw[e1,wL,wO];refine⟨by ext,?_⟩;walk_at "eq";exact⟨by ext,by split<;>ext⟩
  .intro τ M';ext1⟨e1',v3,v4,e2'⟩;refine⟨rfl,v3,v4,?_⟩;rw[Ab,Bc,<- Tm.parts_eq];have:=Tm.deep_eq t;congr 4
   simp only[D.int.injEq,HX];ext
 .intro τ M';ext1⟨e1',v3,v4,e2'⟩;grind;rw[show(t.deep:Int)-1+1=t.deep by ext];exact Dn.of q
theorem vI (T:Tv P w K mg base):∀n,Od T T.x7 (n+3) (bJ n)
 |0=>by
  have no:∀ds M Q,¬bJ 0 ds M Q:=λds M Q h=>by
   obtain⟨x,rfl,h1⟩:=Hk h;obtain⟨t,rfl,hd,q⟩:=N4 h1;have:=t.deep_pos;ext
  exact V0 no
 |n+1=>ZgI T (vI T n)
abbrev Zfg:DO:=λds M Q=>Je ds λx y z=>EW x λlo=>EW y λmany=>EW z λw=>(0<=lo/\1<=many/\lo+many<=w)/\Q .non M
theorem ZfG:Od T T.x13 1 Zfg:=by
 refine CI.p3 T.x13.d.F ["low", "many", "width"] λx y z M Q hr nN h1=>?_;obtain⟨lo,rfl,h2⟩:=CU h1;obtain⟨many,rfl,h3⟩:=CU h2;obtain⟨wd,e1',⟨a1,a2,a3⟩,q⟩:_:=CU h3;refine⟨_,(qO (Ez ((Tf (AX La (qv 0) Aj) (Tf (AX La (qv 1) Aj) (VF (AX Lb (BC Hl (qv 0) (qv 1)) (qv 2)))))).pt (qO O4) qE)),?_⟩;right;refine Cz (λc=>?_) λc=>Cz (λc=>?_) λc=>Cz (λc=>?_) λc=>Dn.of q
 .ext
 .ext
 .ext
abbrev Zfk:DO:=λds M Q=>GG ds λx=>EW x λw=>w<=64/\Q .non M
theorem ZfH:Od T T.x14 1 Zfk:=by
 refine CI.p1 T.x14.d.F ["width"] λx M Q hr nN h1=>?_;obtain⟨wd,rfl,a1,q⟩:=CU h1;refine⟨_,(qO (Ez (AX Lb (qv 0) (Ii T.m_WIDEST)) (qO O4) qE)),?_⟩;right;refine Cz (λc=>?_) λc=>Dn.of q;ext
abbrev Zfj:DO:=λds M Q=>FF ds λx y=>EW x λw=>EW y λv=>w=v/\Q .non M
theorem YD:Od T T.x15 1 Zfj:=by
 refine CI.p2 T.x15.d.F ["width", "other"] λx y M Q hr nN h1=>?_;obtain⟨wd,rfl,h2⟩:=CU h1;obtain⟨v,rfl,e,q⟩:=CU h2;subst e;refine⟨_,(qO (Ez (AX XR (qv 0) (qv 1)) (qO O4) qE)),?_⟩;right;exact Dn.of q
noncomputable def l1 (f:Int->Option Int)(l:List Int):Option Int:=if l.length=1 then f (l.headD 0)else none
noncomputable def l2 (f:Int->Int->Option Int)(l:List Int):Option Int:=if l.length=2 then f (l.headD 0) (l.tail.headD 0)else none
noncomputable def l3 (f:Int->Int->Int->Option Int)(l:List Int):Option Int:=if l.length=3 then f (l.headD 0) (l.tail.headD 0) (l.tail.tail.headD 0)else none
@[simp] theorem XY :l1 f [a]=f a:=rfl
@[simp] theorem XX :l2 f [a,b]=f a b:=rfl
@[simp] theorem XW :l3 f [a,b,c]=f a b c:=rfl
noncomputable def Gd.ov (o:Gd)(a b:Int):Option Int:=if o.nm = "join" then(if a+b<=64 then some (a+b)else none)else if a=b then some (if o.nm = "less"\/o.nm = "same" then 1 else a)else none
@[simp] theorem rK :Gd.ov .join a b=if a+b<=64 then some (a+b)else none:=rfl
@[simp] theorem rL :Gd.ov .less a b=if a=b then some 1 else none:=rfl
@[simp] theorem rM :Gd.ov .same a b=if a=b then some 1 else none:=rfl
theorem aa {o:Gd}{a b:Int}(h1:o≠.join)(h2:o≠.less)(h3:o≠.same):o.ov a b=if a=b then some a else none:=by
 cases o<;>first | rfl | exact absurd rfl h1 | exact absurd rfl h2 | exact absurd rfl h3
@[simp] theorem Zt6 :Gd.ov .and a b=if a=b then some a else none:=rfl
@[simp] theorem Zt7 :Gd.ov .or a b=if a=b then some a else none:=rfl
@[simp] theorem Zt5 :Gd.ov .xor a b=if a=b then some a else none:=rfl
@[simp] theorem ZsI :Gd.ov .plus a b=if a=b then some a else none:=rfl
@[simp] theorem ZrD :Gd.ov .minus a b=if a=b then some a else none:=rfl
noncomputable def Tm.over:Tm->List Int->Option Int
 |.not _=>l1 some
 |.bin o _ _=>l2 o.ov
 |.pick _ _ _=>l3 λc a b=>if c=1/\a=b then some a else none
 |.part _ lo many=>l1 λa=>if 0<=lo/\1<=many/\lo+many<=a then some many else none
 |.num _ _=>λ_=>none
 |.box _=>λ_=>none
 |.late _=>λ_=>none
 |.door _=>λ_=>none
theorem jX {t u:Tm}{a b w:Int}(h:(Tm.bin .join t u).over [a,b]=some w):a+b<=64/\w=a+b:=by
 simp[Tm.over]at h;ext
theorem Yw {o:Gd}{t u:Tm}{a b w:Int}(ho:o=.less\/o=.same)(h:(Tm.bin o t u).over [a,b]=some w):a=b/\w=1:=by
 rcases ho with rfl|rfl<;>simp[Tm.over]at h<;>ext
theorem UD {o:Gd}{t u:Tm}{a b w:Int}(h1:o≠.join)(h2:o≠.less)(h3:o≠.same)(h:(Tm.bin o t u).over [a,b]=some w):a=b/\w=a:=by
 simp[Tm.over,aa h1 h2 h3]at h;ext
theorem jY {c t u:Tm}{d a b w:Int}(h:(Tm.pick c t u).over [d,a,b]=some w):d=1/\a=b/\w=a:=by
 simp[Tm.over]at h;ext
theorem bA {t:Tm}{lo many a w:Int}(h:(Tm.part t lo many).over [a]=some w):(0<=lo/\1<=many/\lo+many<=a)/\w=many:=by
 simp[Tm.over]at h;ext
theorem ZM {p:Prop}[Decidable p]{x:Option Int}{w:Int}(h:(if p then x else none)=some w):p:=Classical.byContradiction λc=>by rw[if_neg c]at h;cases h
theorem Tm.over_len {t:Tm}{ws:List Int}{w:Int}(h:t.over ws=some w):ws.length=t.kids.length/\t.kids≠[]:=by
 cases t with
 |not _=>exact⟨ZM h,λz=>nomatch z⟩
 |bin _ _ _=>exact⟨ZM h,λz=>nomatch z⟩
 |pick _ _ _=>exact⟨ZM h,λz=>nomatch z⟩
 |part _ _ _=>exact⟨ZM h,λz=>nomatch z⟩
 |_=>cases h
theorem Yt (o:Gd):(o.nm = "part")=False:=eq_false Gd.nm_ne.2.2.2.2.2.2
theorem Yu (o:Gd):(o.nm = "pick")=False:=eq_false Gd.nm_ne.2.2.2.2.2.1
abbrev Η:DO:=λds M Q=>FF ds λx y=>Ck (Iy x) λt=>OW M y λws=>(t.over ws).isSome/\Q .non M
local macro_rules | `(tactic| simp_all_arith! [$xs,*])=>`(tactic| simp_all_arith [VJ,UH,Yt,Yu,$xs,*])
theorem ZgR:Od T T.x12 2 Η:=by
 refine CI.p2 T.x12.d.F ["term", "widths", "form"] λx y M Q hr nN h1=>?_;obtain⟨t,rfl,h2⟩:=N4 h1;obtain⟨ws,hl,hs,ho,q⟩:_:=hW h2;obtain⟨w,hw⟩:=Lf.mp ho;obtain⟨hz,hne⟩:=Tm.over_len hw;refine⟨_,(qC (Cw 2 nN (Be BA (qv 0) Aj)) (qO (Ez (AX CO (qv 2) BQ) (qO (E3 (Ay T.x13.d (ZfG T) nofun (qA (Be BA (qv 0) Aj) (qA (Be BA (qv 0) Aj) (qA (Be Hr (qv 1) Aj) qN)))))) (qO (Ez (AX CO (qv 2) BQ) (qO (E3 (Ay T.x14.d (ZfH T) nofun (qA (BC Hl (Be Hr (qv 1) Aj) (Be Hr (qv 1) Aj)) qN)))) (qO (Ez (AX CO (qv 2) BQ) (qC (E3 (Ay T.x15.d (YD T) nofun (qA (Be Hr (qv 1) Aj) (qA Aj qN)))) (qO (E3 (Ay T.x15.d (YD T) nofun (qA (Be Hr (qv 1) Aj) (qA (Be Hr (qv 1) Aj) qN)))))) (qO (Ez (AX CO (Be (pU T.T_HELD) (Ql T.m_HELD) (qv 2)) Aj) (qO (E3 (Ay T.x15.d (YD T) nofun (qA (Be Hr (qv 1) Aj) (qA (Be Hr (qv 1) Aj) qN))))) qE))))))))),?_⟩;cases t with
 |num _ _=>exact absurd rfl hne
 |box _=>exact absurd rfl hne
 |late _=>exact absurd rfl hne
 |door _=>exact absurd rfl hne
 |not t=>simp only[Tm.D];right;exact Dn.of q
 |bin o t u=>
  obtain⟨a,b,rfl⟩:∃a b,ws=[a,b]:=by
   match ws,hz with
   |[a,b],_=>exact⟨a,b,rfl⟩
  simp only[Tm.D];right;simp only[hl,AR,Dr];grind;refine Cz (λc=>?_) λc=>?_
  .cases Gd.nm_inj (b:=.join) c;exact⟨(jX hw).1,Dn.of q⟩
  .have cj:o≠.join:=λe=>c (by rw[e];rfl);refine⟨?_,Dn.of q⟩;by_cases c1:o=.less\/o=.same
   .exact(Yw c1 hw).1
   .exact(UD cj (λe=>c1 (.inl e)) (λe=>c1 (.inr e)) hw).1
 |pick c t u=>
  obtain⟨d,a,b,rfl⟩:∃d a b,ws=[d,a,b]:=by
   match ws,hz with
   |[d,a,b],_=>exact⟨d,a,b,rfl⟩
  obtain⟨e1,e2,rfl⟩:=jY hw;simp only[Tm.D];right;simp only[hl,AR,Dr];grind;exact⟨e1,e2,Dn.of q⟩
 |part t lo many=>
  obtain⟨a,rfl⟩:∃a,ws=[a]:=by
   match ws,hz with
   |[a],_=>exact⟨a,rfl⟩
  obtain⟨e1,rfl⟩:=bA hw;simp only[Tm.D];right;simp only[hl,AR,Dr];grind;exact⟨e1,Dn.of q⟩
abbrev Zf7:DO:=λds M Q=>FF ds λx y=>Ck (Iy x) λt=>OW M y λws=>Ck (t.over ws) λw=>Q (.int w) M
theorem ZfB:Od T T.x16 1 Zf7:=by
 refine CI.p2 T.x16.d.F ["term", "widths", "form"] λx y M Q hr nN h1=>?_;obtain⟨t,rfl,h2⟩:=N4 h1;obtain⟨ws,hl,hs,ho⟩:=hW h2;obtain⟨w,hw,q⟩:=Ci ho;obtain⟨hz,hne⟩:=Tm.over_len hw;refine⟨_,(qC (Cw 2 nN (Be BA (qv 0) Aj)) (qC (Ez ((Tf (AX CO (qv 2) BQ) (VF (AX CO (qv 2) BQ)))).pt (qO (CC Aj)) qE) (qC (Ez (AX CO (qv 2) BQ) (qO (CC (Be Hr (qv 1) Aj))) qE) (qC (Ez (AX CO (qv 2) BQ) (qO (CC (BC Hl (Be Hr (qv 1) Aj) (Be Hr (qv 1) Aj)))) qE) (qC (Ez (AX CO (qv 2) BQ) (qO (CC (Be BA (qv 0) Aj))) qE) (qO (CC (Be Hr (qv 1) Aj)))))))),?_⟩;cases t with
 |num _ _=>exact absurd rfl hne
 |box _=>exact absurd rfl hne
 |late _=>exact absurd rfl hne
 |door _=>exact absurd rfl hne
 |not t=>
  obtain⟨a,rfl⟩:∃a,ws=[a]:=by
   match ws,hz with
   |[a],_=>exact⟨a,rfl⟩
  have e:a=w:=by simpa[Tm.over]using hw
  subst e;simp only[Tm.D];right;simp only[hl,AR,Dr];grind;exact Dn.of q
 |bin o t u=>
  obtain⟨a,b,rfl⟩:∃a b,ws=[a,b]:=by
   match ws,hz with
   |[a,b],_=>exact⟨a,b,rfl⟩
  simp only[Tm.D];right;simp only[hl,AR,Dr];grind;refine Cz (λc=>?_) λc=>Cz (λc2=>?_) λc2=>Cz (λc3=>?_) λc3=>?_
  .cases Gd.nm_inj (b:=.less) c;cases(Yw (.inl rfl) hw).2;exact Dn.of q
  .cases Gd.nm_inj (b:=.same) c2;cases(Yw (.inr rfl) hw).2;exact Dn.of q
  .cases Gd.nm_inj (b:=.join) c3;cases(jX hw).2;exact Dn.of q
  .cases(UD (λe=>c3 (by rw[e];rfl)) (λe=>c (by rw[e];rfl)) (λe=>c2 (by rw[e];rfl)) hw).2;exact Dn.of q
 |pick c t u=>
  obtain⟨d,a,b,rfl⟩:∃d a b,ws=[d,a,b]:=by
   match ws,hz with
   |[d,a,b],_=>exact⟨d,a,b,rfl⟩
  obtain⟨e1,e2,rfl⟩:=jY hw;simp only[Tm.D];right;simp only[hl,AR,Dr];grind;exact Dn.of q
 |part t lo many=>
  obtain⟨a,rfl⟩:∃a,ws=[a]:=by
   match ws,hz with
   |[a],_=>exact⟨a,rfl⟩
  obtain⟨e1,rfl⟩:=bA hw;simp only[Tm.D];right;exact Dn.of q
abbrev Zea:DO:=λds M Q=>FF ds λx y=>EW x λw=>EW y λn=>(1<=w/\w<=64/\0<=n/\n<2^w.toNat)/\Q (.int w) M
theorem Zem:Od T T.x10 3 Zea:=by
 refine CI.p2 T.x10.d.F ["width", "word"] λx y M Q hr nN h1=>?_;obtain⟨wd,rfl,h2⟩:=CU h1;obtain⟨n,e1',⟨a1,a2,a3,a4⟩,q⟩:_:=CU h2;refine⟨_,(qC (E3 (Ay T.x2.d (kY T) nofun (qA (qv 0) qN))) (qC (E3 (Ay T.x3.d (wI T) nofun (qA (qv 0) (qA (qv 1) qN)))) (qO (CC (qv 0))))),?_⟩;right;refine⟨⟨a1,a2⟩,⟨a1,a3,a4⟩,?_⟩;exact Dn.of q
noncomputable def Fd (ws:List (Str×Int)):List (B4×D):=ws.map λp=>(.inr p.1,.int p.2)
noncomputable def Mt:List (B4×D)->Option (List (Str×Int))
 |[]=>some []
 |(.inr z,.int n)::r=>(Mt r).map ((z,n)::·)
 |_::_=>none
theorem iN:∀ws,Mt (Fd ws)=some ws
 |[]=>rfl
 |(z,n)::r=>by
  show(Mt (Fd r)).map ((z,n)::·)=_;rw[iN r];rfl
theorem jO:∀{AQ:List (B4×D)}{ws:List (Str×Int)},Mt AQ=some ws->AQ=Fd ws
 |[],ws,h=>by cases h;rfl
 |(.inr z,.int n)::r,ws,h=>by
  change(Mt r).map ((z,n)::·)=_ at h;cases e:Mt r with
  |none=>rw[e]at h;cases h
  |some us=>rw[e]at h;cases h;rw[jO e];rfl
 |(.inl z,_)::r,ws,h=>by cases h
 |(.inr z,.str _)::r,ws,h=>by cases h
 |(.inr z,.bl _)::r,ws,h=>by cases h
 |(.inr z,.non)::r,ws,h=>by cases h
 |(.inr z,.tup _)::r,ws,h=>by cases h
 |(.inr z,.lst _)::r,ws,h=>by cases h
 |(.inr z,.dic _)::r,ws,h=>by cases h
 |(.inr z,.ref _)::r,ws,h=>by cases h
theorem jN (z:Str):∀ws,Do (Fd ws) (.inr z)=(ws.lookup z).map D.int
 |[]=>rfl
 |(y,n)::r=>by
  by_cases h:y=z
  .subst h;simp[Do,Fd,BG]
  .have h2:(z == y)=false:=by simpa using λe=>h e.symm
   have h3:Do (Fd ((y,n)::r)) (.inr z)=Do (Fd r) (.inr z):=by simp[Do,Fd,Cn,h]
   rw[h3,jN z r,BG,h2]
def Jy (M:Mp)(x:D)(k:List (Str×Int)->Prop):Prop:=Ck (D5 M x) λAQ=>Ck (Mt AQ) k
theorem Up {M:Mp}{x:D}{k:List (Str×Int)->Prop}(h:Jy M x k):∃ws,D5 M x=some (Fd ws)/\k ws:=by
 obtain⟨AQ,e,h1⟩:=Ci h;obtain⟨ws,e2,q⟩:=Ci h1;rw[jO e2]at e;exact⟨ws,e,q⟩
theorem X9 {M:Mp}{x:D}{ws:List (Str×Int)}{k:List (Str×Int)->Prop}(e:D5 M x=some (Fd ws)):Jy M x k=k ws:=by unfold Jy;rw[e,BR,iN,BR]
theorem aE :Jy M (.dic (Fd ws)) k=k ws:=X9 rfl
abbrev Ze8:DO:=λds M Q=>FF ds λx y=>Jy M x λws=>Gb y λz=>Ck (ws.lookup z) λn=>Q (.int n) M
theorem kZ:Od T T.x11 1 Ze8:=by
 refine CI.p2 T.x11.d.F ["widths", "name"] λx y M Q hr nN h1=>?_;obtain⟨ws,hx,h2⟩:=Up h1;obtain⟨z,rfl,h3⟩:=D4 h2;obtain⟨n,hz,q⟩:=Ci h3;refine⟨_,(qC (Ez (AX (ue (J2 hr)) (qv 1) (qv 0) (by with_unfolding_all rfl)) (qO O4) qE) (qO (CC (Fg (J2 hr) (qv 0) (qv 1) (λ_ _=>rfl))))),?_⟩;right;simp only[hx,BR,iQ,jN,hz,GS,Og,if_true,IZ,FS,if_false];exact Dn.of q
inductive Wd (bs ds:List (Str×Int)):Tm->Int->Prop
 |num {w n:Int}:(1<=w/\w<=64/\0<=n/\n<2^w.toNat)->Wd bs ds (.num w n) w
 |box {x:Str} {w:Int}:bs.lookup x=some w->Wd bs ds (.box x) w
 |late {x:Str} {w:Int}:bs.lookup x=some w->Wd bs ds (.late x) w
 |door {x:Str} {w:Int}:ds.lookup x=some w->Wd bs ds (.door x) w
 |over {t:Tm} {ws:List Int} {w:Int}:(∀(i:Nat) (k:Tm) (a:Int),t.kids[i]? = some k->ws[i]? = some a->Wd bs ds k a)->t.over ws=some w->Wd bs ds t w
noncomputable def Tm.form:Tm->Str
 |.num _ _=>"num" |.box _=>"box" |.late _=>"late" |.door _=>"door" |.not _=>"not" |.bin o _ _=>o.nm | .pick _ _ _=>"pick" |.part _ _ _=>"part"
theorem VG (t:Tm){M:Mp}{Q:El}:LK t.D (.int 0) M Q=Q (.str t.form) M:=by cases t<;>rfl
theorem Tm.form_ne {t:Tm}(h:t.kids≠[]):t.form≠"num"/\t.form≠"box"/\t.form≠"late"/\t.form≠"door":=by
 cases t with
 |num _ _=>exact absurd rfl h
 |box _=>exact absurd rfl h
 |late _=>exact absurd rfl h
 |door _=>exact absurd rfl h
 |bin o _ _=>exact⟨Gd.nm_ne.1,Gd.nm_ne.2.1,Gd.nm_ne.2.2.1,Gd.nm_ne.2.2.2.1⟩
 |_=>refine⟨?_,?_,?_,?_⟩<;>dsimp only[Tm.form]<;>nofun
theorem Tm.kids_le (t:Tm):t.kids.length<=3:=by cases t<;>simp[Tm.kids]
abbrev bR (n:Nat)(ds:List D)(M:Mp)(Q:El):Prop:=Je ds λx y z=>Ck (Iy x) λt=>Jy M y λbs=>Jy M z λds=>t.deep<=n/\∃w,Wd bs ds t w/\Q (.int w) M
local macro_rules | `(tactic| simp_all_arith! [$xs,*])=>`(tactic| simp_all_arith [VJ,UH,Yt,Yu,aE,VG,$xs,*])
theorem Zdy {n:Nat}(G_checked_width:Od T T.x9 (n+4) (bR n)):Od T T.x9 (n+5) (bR (n+1)):=by
 refine CI.p3 T.x9.d.F ["term", "boxes", "doors", "form", "widths"] λx y z M Q hr nN h1=>?_;obtain⟨t,rfl,h2⟩:=N4 h1;obtain⟨bs,hb,h3⟩:=Up h2;obtain⟨ds,hd,hn,wd,hw,q⟩:_:=Up h3;have bW:∀{k:List (Str×Int)->Prop},Jy M y k=k bs:=X9 hb;have dW:∀{k:List (Str×Int)->Prop},Jy M z k=k ds:=X9 hd;refine⟨_,(qC (Cw 3 nN (Be BA (qv 0) Aj)) (qC (Ez (AX CO (qv 3) BQ) (qO (CC (Ay T.x10.d (Zem T) nofun (qA (Be BA (qv 0) Aj) (qA (Be BA (qv 0) Aj) qN))))) qE) (qC (Ez ((Tf (AX CO (qv 3) BQ) (VF (AX CO (qv 3) BQ)))).pt (qO (CC (Ay T.x11.d (kZ T) nofun (qA (qv 1) (qA (Be BA (qv 0) Aj) qN))))) qE) (qC (Ez (AX CO (qv 3) BQ) (qO (CC (Ay T.x11.d (kZ T) nofun (qA (qv 2) (qA (Be BA (qv 0) Aj) qN))))) qE) (qC (sR (caps:=[("boxes",1),("doors",2)]) (i:=4) nN rfl rfl ⟨rfl,by rfl,by rfl,by rfl,rfl,by rfl,by nofun⟩ rfl (QD (Ay T.x6.d (bU T) nofun (qA (qv 0) qN))) (λ_ _ _ _ _ _=>(Ay T.x9.d G_checked_width nofun (qA (qv 0) (qA (qv 1) (qA (qv 2) qN)))))) (qC (E3 (Ay T.x12.d (ZgR T) nofun (qA (qv 0) (qA (qv 4) qN)))) (qO (CC (Ay T.x16.d (ZfB T) nofun (qA (qv 0) (qA (qv 4) qN))))))))))),?_⟩;cases hw with
 |num a=>simp only[Tm.D];right;exact⟨a,Dn.of q⟩
 |box a=>simp only[Tm.D];right;simp only[bW,a,BR,Yd];exact Dn.of q
 |late a=>simp only[Tm.D];right;simp only[bW,a,BR,Yd];exact Dn.of q
 |door a=>simp only[Tm.D];right;simp only[dW,a,BR,Yd];exact Dn.of q
 | @over _ ws _ kid ho=>
  obtain⟨hz,hne⟩:=Tm.over_len ho;obtain⟨n1,n2,n3,n4⟩:=Tm.form_ne hne;have n1':=eq_false n1;have n2':=eq_false n2;have n3':=eq_false n3;have n4':=eq_false n4;right;simp only[VG,n1',n2',n3',n4'];grind;refine⟨GD (by rw[Ab,<- hz];have:=Tm.kids_le t;ext),λi ys M'=>M'=M/\ys=(ws.take i).map D.int,⟨rfl,rfl⟩,?_,?_,?_⟩
  .rintro i ys M' ⟨rfl,rfl⟩;exact⟨trivial,by rw[Ab,AY];ext⟩
  .rintro i x ys M' hx ⟨rfl,rfl⟩;obtain⟨k,hk,rfl⟩:=LW hx;have hi:i<ws.length:=by rw[hz];exact(Ah.mp hk).1
   have hwi:=Af hi;have dk:=Tm.deep_kid (Aw hk);walk_at "cap";simp only[bW,dW];refine⟨by ext,ws[i],kid i k _ hk hwi,?_⟩;rw[A8,hwi,AI];rfl
  .rintro ys M' ⟨rfl,rfl⟩;rw[Ab,<- hz,Bc];grind;simp only[ho];exact⟨rfl,Dn.of q⟩
theorem wV (T:Tv P w K mg base):∀n,Od T T.x9 (n+4) (bR n)
 |0=>by
  have no:∀ds M Q,¬bR 0 ds M Q:=λds M Q h=>by
   obtain⟨x,y,z,e1',h1⟩:_:=RV h;obtain⟨t,rfl,h2⟩:=N4 h1;obtain⟨bs,hb,h3⟩:=Up h2;obtain⟨ds,hd,hn,_⟩:=Up h3;have:=t.deep_pos;ext
  exact V0 no
 |n+1=>Zdy T (wV T n)
abbrev ν:DO:=λds M Q=>Je ds λx y z=>Ck (Iy x) λt=>Jy M y λbs=>Jy M z λds=>(t.parts<=100/\t.deep<=12)/\∃w,Wd bs ds t w/\Q (.int w) M
theorem vR:Od T T.x8 17 ν:=by
 refine CI.p3 T.x8.d.F ["T", "boxes", "doors", "size"] λx y z M Q hr nN h1=>?_;obtain⟨t,rfl,h2⟩:=N4 h1;obtain⟨bs,hb,h3⟩:=Up h2;obtain⟨ds,hd,⟨hp,hn⟩,wd,hw,q⟩:_:=Up h3;have bW:∀{k:List (Str×Int)->Prop},Jy M y k=k bs:=X9 hb;have dW:∀{k:List (Str×Int)->Prop},Jy M z k=k ds:=X9 hd;refine⟨_,(qC (Cw 3 nN (Ay T.x7.d (vI T 12) nofun (qA (qv 0) qN))) (qC (Ez (AX Lb (Be BA (qv 3) Aj) (Ii T.m_MOST_PARTS)) (qO O4) qE) (qC (Ez (AX Lb (Be BA (qv 3) Aj) (Ii T.m_MOST_DEEP)) (qO O4) qE) (qO (CC (Ay T.x9.d (wV T 12) nofun (qA (qv 0) (qA (qv 1) (qA (qv 2) qN))))))))),?_⟩;right;refine⟨hn,Cz (λc=>by ext) λc=>Cz (λc=>by ext) λc2=>?_⟩;simp only[bW,dW];exact⟨hn,wd,hw,Dn.of q⟩
noncomputable def Tm.leaves:Tm->List Tm
 |.not t=>t.leaves
 |.bin _ t u=>t.leaves++u.leaves
 |.pick c t u=>c.leaves++t.leaves++u.leaves
 |.part t _ _=>t.leaves
 |t=>[t]
noncomputable def B7:List Tm->List Tm
 |[]=>[]
 |t::r=>t.leaves++B7 r
theorem kX (t:Tm):∀l:List Tm,B7 (l++[t])=B7 l++t.leaves
 |[]=>by simp[B7]
 |x::r=>by rw[Ed,B7,B7,kX t r,Bo]
theorem wU:∀a b:List Tm,B7 (a++b)=B7 a++B7 b
 |[],b=>rfl
 |x::r,b=>by rw[Ed,B7,B7,wU r b,Bo]
theorem Tm.parts_of_kid {t k:Tm}(h:k∈t.kids):k.parts+1<=t.parts:=by
 cases t<;>simp[Tm.kids]at h<;>simp only[Tm.parts]
 .subst h;ext
 .rcases h with rfl|rfl<;>ext
 .rcases h with rfl|rfl|rfl<;>ext
 .subst h;ext
theorem Tm.leaves_eq {t:Tm}(h:t.kids≠[]):t.leaves=B7 t.kids:=by
 cases t<;>first | exact absurd rfl h | simp[Tm.leaves,Tm.kids,B7]
theorem Tm.leaves_leaf {t:Tm}(h:t.kids=[]):t.leaves=[t]:=by
 cases t<;>first | rfl | exact absurd h (by simp[Tm.kids])
theorem Tm.leaves_len:∀t:Tm,t.leaves.length<=t.parts
 |.not t=>by have:=t.leaves_len;simp only[Tm.leaves,Tm.parts];ext
 |.bin _ t u=>by have:=t.leaves_len;have:=u.leaves_len;simp only[Tm.leaves,Tm.parts,Aq];ext
 |.pick c t u=>by have:=c.leaves_len;have:=t.leaves_len;have:=u.leaves_len;simp only[Tm.leaves,Tm.parts,Aq];ext
 |.part t _ _=>by have:=t.leaves_len;simp only[Tm.leaves,Tm.parts];ext
 |.num _ _ | .box _ | .late _ | .door _=>by simp[Tm.leaves,Tm.parts]
abbrev bP (n:Nat)(ds:List D)(M:Mp)(Q:El):Prop:=GG ds λx=>Ck (Iy x) λt=>t.deep<=n/\t.parts<=1000/\∀p,M p=none->Q (.ref p) (put M p (.lst (t.leaves.map Tm.D)))
theorem Zel (G_leaves_of:Od T T.x18 (n+3) (bP n)):Od T T.x18 (n+4) (bP (n+1)):=by
 refine CI.p1 T.x18.d.F ["term", "inner_terms", "leaves", "inner"] λx M Q hr nN h1=>?_;obtain⟨t,e1',hd,hp,q⟩:_:=N4 h1;refine⟨_,(qC (Cw 1 nN (Ay T.x6.d (bU T) nofun (qA (qv 0) qN))) (qC (Ez (AX CO (Cp LU T.B.len CG (qA (qv 1) qN)) Aj) (qO (CC (Jv (qA (qv 0) qN)))) qE) (qC (Cw 2 nN (Jv qN)) (EO (KG AK rfl (QD (qv 1)) (MM (i:=3) nN rfl (BX rfl)) (qO (E3 (JX AN Ct Cr Se (qv 2) (qA (K9 (Ay T.x18.d G_leaves_of nofun (qA (qv 3) qN))) qN))))) (qO (CC (qv 2))))))),?_⟩;right;by_cases hk:t.kids=[]
 .rw[hk,if_pos (by simp)];rw[Tm.leaves_leaf hk]at q;intro p hp;exact Dn.of (q p hp)
 rw[if_neg (by simpa using hk)];intro p hM;have hl:=t.leaves_len;rw[Tm.leaves_eq hk]at q hl;refine⟨λτ M'=>M'=put M p (.lst ((B7 t.kids).map Tm.D))/\∃v3,τ=[some t.D,some (.tup (t.kids.map Tm.D)),some (.ref p),v3],?_,?_⟩
 .grind;refine⟨λk τ M'=>M'=put M p (.lst ((B7 (t.kids.take k)).map Tm.D))/\∃v3,τ=[some t.D,some (.tup (t.kids.map Tm.D)),some (.ref p),v3],⟨rfl,none,rfl⟩,λ_ _ _ _=>trivial,?_,?_⟩
  .rintro k y τ M' hy ⟨rfl,v3,rfl⟩;obtain⟨u,hu,rfl⟩:=LW hy;have du:=Tm.deep_kid (Aw hu);have e1:t.kids.take (k+1)=t.kids.take k++[u]:=by rw[A8,hu];rfl
   grind;have pu:=Tm.parts_of_kid (Aw hu);refine⟨by ext,by ext,λp1 hp1=>?_⟩
   have e2:B7 t.kids=B7 (t.kids.take k)++u.leaves++B7 (t.kids.drop (k+1)):=by
    rw[<- kX,<- e1,<- wU,HI]
   rw[e2]at hl;simp only[Aq]at hl;rw[C8];dsimp only;rw[VO hp1,gW];refine⟨by rw[Ab,Ab];exact GD (by ext),?_,_,rfl⟩;rw[e1,kX,AI]
  .rintro τ M' ⟨rfl,v3,rfl⟩;refine⟨?_,v3,rfl⟩;rw[Ab,Bc]
 .rintro τ M' ⟨rfl,v3,rfl⟩;grind;exact Dn.of (q p hM)
theorem wQ (T:Tv P w K mg base):∀n:Nat,Od T T.x18 (n+3) (bP n)
 |0=>by
  have no:∀ds M Q,¬bP 0 ds M Q:=λds M Q h=>by
   obtain⟨x,rfl,h1⟩:=Hk h;obtain⟨t,e1',hd,hp,q⟩:_:=N4 h1;have:=t.deep_pos;ext
  exact V0 no
 |n+1=>Zel T (wQ T n)
theorem EL.fil {α:Type}{ks:List α}{g:α->D}{f:α->Option D}{S:Mp->Prop}{caps:List (Str×Nat)}{tt:KH}{te:DV}{τ:Gu}{M:Mp}{Q:List D->Mp->Prop}(hz:ks.length<=Am)(hS:S M)
  (h:∀k∈ks,∀R:Bool->Mp->Prop,R (f k).isSome M->tt (LS τ caps (some (g k))) M R) (h2:∀k∈ks,∀d,f k=some d->∀R:El,R d M->te (LS τ caps (some (g k))) M R) (q:Q (ks.filterMap f) M):EL (ks.map g) S caps tt te τ M Q:=by
 refine⟨by rw[Ab];exact hz,λi ys M'=>M'=M/\ys=(ks.take i).filterMap f,⟨rfl,rfl⟩,?_,?_,?_⟩
 .rintro i ys M' ⟨rfl,rfl⟩;exact⟨hS,AZ (DS _ _) (by rw[AY];ext)⟩
 .rintro i x ys M' hx ⟨rfl,rfl⟩;rw[AH]at hx;cases e:ks[i]? with
  |none=>rw[e]at hx;cases hx
  |some k=>
   rw[e]at hx;cases hx;have et:ks.take (i+1)=ks.take i++[k]:=by rw[A8,e];rfl
   refine h k (Aw e) _ ?_;cases fk:f k with
   |none=>rw[if_neg (by simp)];refine⟨rfl,?_⟩;rw[et,HJ];simp[fk]
   |some d=>rw[if_pos (by rfl)];refine h2 k (Aw e) d fk _ ⟨rfl,?_⟩;rw[et,HJ];simp[fk]
 .rintro ys M' ⟨rfl,rfl⟩;rw[Ab,Bc];exact q
theorem vW:((Ak "box":Str)=Ak "late")=False:=eq_false (by nofun)
theorem kM:((Ak "box":Str)=Ak "door")=False:=eq_false (by nofun)
theorem vE:((Ak "box":Str)=Ak "num")=False:=eq_false (by nofun)
theorem vY:((Ak "late":Str)=Ak "box")=False:=eq_false (by nofun)
theorem lD:((Ak "late":Str)=Ak "door")=False:=eq_false (by nofun)
theorem vZ:((Ak "late":Str)=Ak "num")=False:=eq_false (by nofun)
theorem kN:((Ak "door":Str)=Ak "box")=False:=eq_false (by nofun)
theorem lB:((Ak "door":Str)=Ak "late")=False:=eq_false (by nofun)
theorem vX:((Ak "door":Str)=Ak "num")=False:=eq_false (by nofun)
theorem vF:((Ak "num":Str)=Ak "box")=False:=eq_false (by nofun)
theorem wB:((Ak "num":Str)=Ak "late")=False:=eq_false (by nofun)
theorem wA:((Ak "num":Str)=Ak "door")=False:=eq_false (by nofun)
noncomputable def Tm.nameOf (form:Str):Tm->Option Str
 |.box x=>if form = "box" then some x else none
 |.late x=>if form = "late" then some x else none
 |.door x=>if form = "door" then some x else none
 |_=>none
theorem O5:∀ss:List Str,Ev (ss.map D.str)=some ss
 |[]=>rfl
 |s::ss=>by rw[AR,Ev,O5 ss];rfl
def HF (f:Str):Prop:=f = "box"\/f = "late"\/f = "door"
abbrev η:DO:=λds M Q=>FF ds λx f=>∃ls:List Tm,(∀l∈ls,l.kids=[])/\x=.lst (ls.map Tm.D)/\ls.length<=1000/\Gb f λform=>HF form/\(fm (ls.filterMap (Tm.nameOf form))).length<64/\∀p,M p=none->Q (.ref p) (put M p (.lst ((Iz (ls.filterMap (Tm.nameOf form))).map D.str)))
theorem kO:Od T T.x19 1 η:=by
 refine CI.p2 T.x19.d.F ["leaves", "form"] λx f M Q hr nN h=>?_;obtain⟨ls,hk,e1',hl,h2⟩:_:=h;obtain⟨form,e1',hn,h64,q⟩:_:=D4 h2;refine⟨_,(qO (CC (mP rfl T.B.sorted T.B.set (Jc (caps:=[("form",1)]) ⟨rfl,by rfl,by rfl,by rfl,rfl,by rfl,by nofun⟩ rfl (JP (qv 0)) (λ_ _ _ _ _ _=>(Be BA (qv 0) Aj)) (λ_ _ _ _ _ _=>(AX CO (Be BA (qv 0) Aj) (qv 1))))))),?_⟩;right;refine EL.fil (f:=λl=>(Tm.nameOf form l).map D.str) (GD hl) trivial ?_ ?_ ?_
 .intro k hkm R hR;have hkk:=hk k hkm;cases k<;>(try (simp[Tm.kids]at hkk;done))
  all_goals
   simp only[Tm.D];walk_at "cap";rcases hn with rfl|rfl|rfl<;>simpa[Tm.nameOf,vW,kM,vE,vY,lD,vZ,kN,lB,vX,vF,wB,wA]using hR
 .intro k hkm d hd R hR;have hkk:=hk k hkm;cases k<;>(try (simp[Tm.kids]at hkk;done))
  all_goals
   simp only[Tm.D];walk_at "cap";rcases hn with rfl|rfl|rfl<;>simp[Tm.nameOf,vW,kM,vE,vY,lD,vZ,kN,lB,vX,vF,wB,wA]at hd<;>(try (subst hd))<;>(try exact hR)
 .have e1:(ls.filterMap λl=>(Tm.nameOf form l).map D.str)=(ls.filterMap (Tm.nameOf form)).map D.str:=by
   rw[Pr]
  rw[e1,O5];have:=DS (Tm.nameOf form) ls;refine⟨by unfold Bg;ext,h64,?_⟩;intro p hp;exact Dn.of (q p hp)
theorem Tm.leaves_kids:∀(t:Tm),∀l∈t.leaves,l.kids=[]
 |.not t,l,h=>t.leaves_kids l h
 |.bin _ t u,l,h=>(AT.mp h).elim (t.leaves_kids l) (u.leaves_kids l)
 |.pick c t u,l,h=>(AT.mp h).elim (λh=>(AT.mp h).elim (c.leaves_kids l) (t.leaves_kids l)) (u.leaves_kids l)
 |.part t _ _,l,h=>t.leaves_kids l h
 |.num _ _,l,h | .box _,l,h | .late _,l,h | .door _,l,h=>by cases AL.mp h;rfl
noncomputable def Tm.names (form:Str)(t:Tm):List Str:=t.leaves.filterMap (Tm.nameOf form)
noncomputable def Mm (form:Str)(t:Tm):MO:=.lst ((Iz (t.names form)).map D.str)
abbrev uj:DO:=λds M Q=>GG ds λx=>Ck (Iy x) λt=>t.deep<=12/\t.parts<=1000/\(∀f,HF f->(fm (t.names f)).length<64) /\
 ∀p0 p1 p2,M p0=none->M p1=none->M p2=none->p1≠p0->p2≠p0->p2≠p1->Q (.tup [.ref p0,.ref p1,.ref p2]) (put (put (put M p0 (Mm "box" t)) p1 (Mm "late" t)) p2 (Mm "door" t))
theorem bC:Od T T.x17 16 uj:=by
 refine CI.p1 T.x17.d.F ["T", "leaves"] λx M Q hr nN h1=>?_;obtain⟨t,e1',hd,hp,h64,q⟩:_:=N4 h1;refine⟨_,(qC (Cw 1 nN (K9 (Ay T.x18.d (wQ T 12) nofun (qA (qv 0) qN)))) (qO (CC (CB (qA (Ay T.x19.d (kO T) nofun (qA (qv 1) (qA BQ qN))) (qA (Ay T.x19.d (kO T) nofun (qA (qv 1) (qA BQ qN))) (qA (Ay T.x19.d (kO T) nofun (qA (qv 1) (qA BQ qN))) qN))))))),?_⟩;right;have hl:=AZ t.leaves_len hp;refine⟨hd,hp,λp hM=>?_⟩;rw[C8,VO hM];dsimp only;refine⟨t.leaves,t.leaves_kids,rfl,hl,.inl rfl,h64 _ (.inl rfl),λp0 m0=>?_⟩;refine⟨t.leaves,t.leaves_kids,rfl,hl,.inr (.inl rfl),h64 _ (.inr (.inl rfl)),λp1 m1=>?_⟩;refine⟨t.leaves,t.leaves_kids,rfl,hl,.inr (.inr rfl),h64 _ (.inr (.inr rfl)),λp2 m2=>?_⟩;have n1:p1≠p0:=λe=>by rw[e,C8]at m1;cases m1
 have n2:p2≠p1:=λe=>by rw[e,C8]at m2;cases m2
 have m2':=jR m2;have n3:p2≠p0:=λe=>by rw[e,C8]at m2';cases m2'
 (try grind)
 exact Dn.of (q p0 p1 p2 m0 (jR m1) (jR m2') n1 n3 n2)
theorem aL (ha:0<=a)(hb:0<=b):AD a b=2*AD (a / 2) (b / 2)+(a%2)*(b%2):=by
 obtain⟨m,rfl⟩:∃m:Nat,a=(m:Int):=⟨a.toNat,by ext⟩;obtain⟨n,rfl⟩:∃n:Nat,b=(n:Int):=⟨b.toNat,by ext⟩;rw[HV ha hb,HV (by ext) (by ext)];have e1:((m:Int) / 2).toNat=m / 2:=by ext
 have e2:((n:Int) / 2).toNat=n / 2:=by ext
 rw[e1,e2,BD,BD];have h1:(m &&& n) / 2=m / 2 &&& n / 2:=Nat.and_div_two;have h2:(m &&& n)%2=(m%2) &&& (n%2):=by have:=Nat.and_mod_two_pow (a:=m) (b:=n) (n:=1);simpa using this
 have h3:((m%2) &&& (n%2):Nat)=(m%2)*(n%2):=by
  have a1:m%2=0\/m%2=1:=by ext
  have a2:n%2=0\/n%2=1:=by ext
  rcases a1 with a1|a1<;>rcases a2 with a2|a2<;>rw[a1,a2]<;>rfl
 have h4:(m &&& n)=2*(m / 2 &&& n / 2)+(m%2)*(n%2):=by
  have:=Nat.div_add_mod (m &&& n) 2;rw[h1,h2,h3]at this;ext
 rw[h4]
 push_cast
 rfl
theorem NW (a:Int):a%2=0\/a%2=1:=by ext
theorem xi (ha:0<=a)(hb:0<=b):AD a b%2=(a%2)*(b%2)/\AD a b / 2=AD (a / 2) (b / 2):=by
 have h:=aL ha hb;rcases NW a with e|e<;>rcases NW b with e' | e'<;>rw[e,e']at h<;>rw[e,e']<;>ext
theorem w5 (ha:0<=a)(hb:0<=b):AM a b%2=max (a%2) (b%2)/\AM a b / 2=AM (a / 2) (b / 2):=by
 have h:=aL ha hb;rw[FK,FK];rcases NW a with e|e<;>rcases NW b with e' | e'<;>rw[e,e']at h<;>rw[e,e']<;>ext
theorem ye (ha:0<=a)(hb:0<=b):Bb a b%2=(a%2+b%2)%2/\Bb a b / 2=Bb (a / 2) (b / 2):=by
 have h:=aL ha hb;unfold Bb;rw[FK,FK];rcases NW a with e|e<;>rcases NW b with e' | e'<;>rw[e,e']at h<;>rw[e,e']<;>ext
theorem bN {f:Int->Int->Int}(hf0:f 0 0=0)(h:∀a b,0<=a->0<=b->f a b / 2=f (a / 2) (b / 2)):∀w a b,0<=a->a<2^w->0<=b->b<2^w->0<=f a b/\f a b<2^w
 |0,a,b,ha,ha2,hb,hb2=>by
  have e1:a=0:=by simp at ha2;ext
  have e2:b=0:=by simp at hb2;ext
  rw[e1,e2,hf0];simp
 |w+1,a,b,ha,ha2,hb,hb2=>by
  rw[FV]at ha2 hb2 ⊢;have:=bN hf0 h w (a / 2) (b / 2) (by ext) (by ext) (by ext) (by ext);rw[<- h a b ha hb]at this;ext
noncomputable def KC:List Int->Int
 |[]=>0
 |m::ms=>(if m=1 then 1 else 0)+2*KC ms
noncomputable def Ln:List Int->Int
 |[]=>0
 |m::ms=>(if m=0 then 0 else 1)+2*Ln ms
def Mk (m:Int):Prop:=m=0\/m=1\/m=2
def Ld (ms:List Int):Prop:=∀m∈ms,Mk m
theorem Tc:∀ms,0<=KC ms
 |[]=>Zi _
 |m::ms=>by
  have:=Tc ms;unfold KC;split<;>ext
theorem Tb:∀ms,0<=Ln ms
 |[]=>Zi _
 |m::ms=>by
  have:=Tb ms;unfold Ln;split<;>ext
theorem nT:∀ms,KC ms<2^ms.length
 |[]=>by decide
 |m::ms=>by
  have:=nT ms;rw[AO,FV];unfold KC;split<;>ext
theorem nP:∀ms,Ln ms<2^ms.length
 |[]=>by decide
 |m::ms=>by
  have:=nP ms;rw[AO,FV];unfold Ln;split<;>ext
theorem me (m:Int)(ms:List Int):KC (m::ms)=(if m=1 then 1 else 0)+2*KC ms:=rfl
theorem j5 (m:Int)(ms:List Int):Ln (m::ms)=(if m=0 then 0 else 1)+2*Ln ms:=rfl
noncomputable def andM (a b:Int):Int:=if a=0\/b=0 then 0 else if a=1/\b=1 then 1 else 2
noncomputable def orM (a b:Int):Int:=if a=1\/b=1 then 1 else if a=0/\b=0 then 0 else 2
theorem qS {b x:Int}(h:b=0\/b=1):(b+2*x)%2=b:=by rcases h with rfl | rfl<;>ext
theorem qR {b x:Int}(h:b=0\/b=1):(b+2*x) / 2=x:=by rcases h with rfl | rfl<;>ext
theorem xZ {c:Prop}[Decidable c]:(if c then(1:Int)else 0)=0\/(if c then(1:Int)else 0)=1:=by split<;>simp
theorem xY {c:Prop}[Decidable c]:(if c then(0:Int)else 1)=0\/(if c then(0:Int)else 1)=1:=by split<;>simp
theorem qM {a b x y:Int}(ha:a=0\/a=1)(hb:b=0\/b=1)(hx:0<=x)(hy:0<=y):AD (a+2*x) (b+2*y)=a*b+2*AD x y:=by
 have h:=aL (a:=a+2*x) (b:=b+2*y) (by rcases ha with rfl | rfl<;>ext) (by rcases hb with rfl | rfl<;>ext);rw[qS ha,qS hb,qR ha,qR hb]at h;ext
theorem Yg (ha:a=0\/a=1)(hb:b=0\/b=1)(hx:0<=x)(hy:0<=y):AM (a+2*x) (b+2*y)=(a+b-a*b)+2*AM x y:=by
 rw[FK,FK,qM ha hb hx hy];ext
theorem R8 {w u:Int}(hw:0<=w)(hu:0<=u):AD w (-u-1)=w-AD w u:=by
 unfold AD;rw[decide_eq_true hw,decide_eq_false (show¬ 0<=-u-1 by ext),decide_eq_true hu];show w-((w.toNat &&& (Ei (-u-1)).toNat:Nat):Int)=w-((w.toNat &&& u.toNat:Nat):Int);rw[show Ei (-u-1)=u by unfold Ei;ext]
theorem aM {a b x y:Int}(ha:a=0\/a=1)(hb:b=0\/b=1)(hx:0<=x)(hy:0<=y):AD (a+2*x) (-(b+2*y)-1)=(a-a*b)+2*AD x (-y-1):=by
 rw[R8 (by rcases ha with rfl | rfl<;>ext) (by rcases hb with rfl | rfl<;>ext),qM ha hb hx hy,R8 hx hy];ext
theorem pK (hx:0<=x)(hy:0<=y):0<=AD x y:=by
 unfold AD;rw[decide_eq_true hx,decide_eq_true hy];exact Int.ofNat_nonneg _
theorem Z0 (hx:0<=x)(hy:0<=y):AD x y<=y:=by
 obtain⟨m,rfl⟩:∃m:Nat,x=(m:Int):=⟨x.toNat,by ext⟩;obtain⟨n,rfl⟩:∃n:Nat,y=(n:Int):=⟨y.toNat,by ext⟩;unfold AD;rw[decide_eq_true hx,decide_eq_true hy];show((m &&& n:Nat):Int)<=n;exact WB.mpr Nat.and_le_right
theorem j7 {x:Int}{w:Nat}(h0:0<=x)(h1:x<2^w):(-x-1)%2^w=2^w-1-x:=by
 rw[<- Int.add_emod_right (-x-1) (2^w)];rw[show -x-1+2^w=2^w-1-x by ext];exact Int.emod_eq_of_lt (by ext) (by ext)
noncomputable def bl (m:Int):Int:=if m=1 then 1 else 0
noncomputable def bh (m:Int):Int:=if m=0 then 0 else 1
theorem Qw (m):bl m=0\/bl m=1:=xZ
theorem Qx (m):bh m=0\/bh m=1:=xY
theorem Sd (m:Int)(ms:List Int):KC (m::ms)=bl m+2*KC ms:=rfl
theorem Sc (m:Int)(ms:List Int):Ln (m::ms)=bh m+2*Ln ms:=rfl
noncomputable def sl (x y c:Int):Int:=(bl x+bl y+bl c)%2
noncomputable def ob (a b:Int):Int:=a+b-a*b
noncomputable def b2 (m:Int):Int:=if m=2 then 1 else 0
theorem mQ:Mk 1:=.inr (.inl rfl)
theorem jP (hx:0<=x):∀n {y:Int},0<=y->y<2^n->AM (x*2^n) y=y+2^n*x
 |0,y,h0,h1=>by
  have:y=0:=by rw[WA]at h1;ext
  subst this;rw[FK,Ze,WA];ext
 |n+1,y,h0,h1=>by
  have e1:x*2^(n+1)=0+2*(x*2^n):=by rw[FV,<- Vj];ext
  have e2:y=y%2+2*(y / 2):=by ext
  have hp:=V2 n;rw[FV]at h1;have ih:=jP hx n (y:=y / 2) (by ext) (by ext);conv=>lhs;rw[e1,e2]
  rw[Yg (.inl rfl) (NW y) (TK hx (by ext)) (by ext),ih,FV,WC (2^n) 2,Vj];ext
noncomputable def Na (ms:List Int):D:=.tup [.int ms.length,.int (KC ms),.int (Ln ms)]
def YG (ms:List Int):Prop:=Ld ms/\1<=ms.length/\ms.length<=64
theorem ZH :LK (Na ms) (.int 0) M Q=Q (.int ms.length) M:=rfl
theorem ZI :LK (Na ms) (.int 1) M Q=Q (.int (KC ms)) M:=rfl
theorem ZJ :LK (Na ms) (.int 2) M Q=Q (.int (Ln ms)) M:=rfl
theorem bn (x):Ei x=-x-1:=by unfold Ei;ext
theorem gC (hx:0<=x):AM x 0=x:=by
 have:=jP hx 0 (y:=0) (by decide) (by decide);simpa using this
theorem Qy {x:Int}(hx:0<=x):AD x (-0-1)=x:=by
 rw[R8 hx (by decide)];have h:=Z0 hx (show(0:Int)<=0 by decide);have h2:=pK hx (show(0:Int)<=0 by decide);ext
theorem ZN (p):(0:Int)<=2^p:=ND (V2 p)
theorem aD (p):(2:Int)^(p+1)=0+2*2^p:=by rw[FV];ext
theorem qU:∀(ms:List Int) (p:Nat),p<ms.length->KC (ms.set p 1)=AM (KC ms) (2^p)
 |m::ms,0,_=>by
  rw[CD,Sd,Sd,show(2:Int)^0=1+2*0 by decide,Yg (Qw m) (.inr rfl) (Tc ms) (by decide),gC (Tc ms)];show(1:Int)+2*KC ms=_;rcases Qw m with e|e<;>rw[e]<;>ext
 |m::ms,p+1,h=>by
  rw[B5,Sd,Sd,aD,Yg (Qw m) (.inl rfl) (Tc ms) (ZN p),qU ms p (Dk h)];ext
theorem iY (hv:v≠0):∀(ms:List Int) (p:Nat),p<ms.length->Ln (ms.set p v)=AM (Ln ms) (2^p)
 |m::ms,0,_=>by
  rw[CD,Sc,Sc,show(2:Int)^0=1+2*0 by decide,Yg (Qx m) (.inr rfl) (Tb ms) (by decide),gC (Tb ms),show bh v=1 from if_neg hv];rcases Qx m with e|e<;>rw[e]<;>ext
 |m::ms,p+1,h=>by
  rw[B5,Sc,Sc,aD,Yg (Qx m) (.inl rfl) (Tb ms) (ZN p),iY hv ms p (Dk h)];ext
theorem jB (hv:v≠1):∀(ms:List Int) (p:Nat),p<ms.length->KC (ms.set p v)=AD (KC ms) (-(2^p)-1)
 |m::ms,0,_=>by
  rw[CD,Sd,Sd,show(2:Int)^0=1+2*0 by decide,aM (Qw m) (.inr rfl) (Tc ms) (by decide),Qy (Tc ms),show bl v=0 from if_neg hv];ext
 |m::ms,p+1,h=>by
  rw[B5,Sd,Sd,aD,aM (Qw m) (.inl rfl) (Tc ms) (ZN p),jB hv ms p (Dk h)];ext
theorem qI:∀(ms:List Int) (p:Nat),p<ms.length->Ln (ms.set p 0)=AD (Ln ms) (-(2^p)-1)
 |m::ms,0,_=>by
  rw[CD,Sc,Sc,show(2:Int)^0=1+2*0 by decide,aM (Qx m) (.inr rfl) (Tb ms) (by decide),Qy (Tb ms)];show(0:Int)+2*Ln ms=_;ext
 |m::ms,p+1,h=>by
  rw[B5,Sc,Sc,aD,aM (Qx m) (.inl rfl) (Tb ms) (ZN p),qI ms p (Dk h)];ext
theorem oO:∀n,KC (Ax n 2)=0
 |0=>rfl
 |n+1=>by rw[CY,Sd,oO n];rfl
theorem pT:∀n,Ln (Ax n 2)=2^n-1
 |0=>rfl
 |n+1=>by
  rw[CY,Sc,pT n,FV];show(1:Int)+_=_;ext
abbrev Sn:=Int×Int×Int
noncomputable def G9 (s:Sn):L3.D:=.tup [.int s.1,.int s.2.1,.int s.2.2]
theorem iA :LK (G9 s) (.int 0) M Q=Q (.int s.1) M:=rfl
theorem iB :LK (G9 s) (.int 1) M Q=Q (.int s.2.1) M:=rfl
theorem iC :LK (G9 s) (.int 2) M Q=Q (.int s.2.2) M:=rfl
noncomputable def OC (a:Sn):Int:=Bb a.2.1 a.2.2
noncomputable def Vu (w x u:Int):Sn:=(w,AD x (-u-1),AM x u)
noncomputable def NV (s:Sn):Sn:=(s.1,(-s.2.2-1)%2^s.1.toNat,(-s.2.1-1)%2^s.1.toNat)
noncomputable def OV (a b:Sn)(c:Int):Sn:=Vu a.1 ((a.2.1+b.2.1+c)%2^a.1.toNat) (AM (AM (OC a) (OC b)) (Bb (Bb (Bb (a.2.1+b.2.1+c) a.2.1) b.2.1) (Bb (Bb (a.2.2+b.2.2+c) a.2.2) b.2.2))%2^a.1.toNat)
noncomputable def MI (a b:Sn):Sn:=(1,if a.2.2<b.2.1 then 1 else 0,if a.2.1<b.2.2 then 1 else 0)
noncomputable def I9 (a b:Sn):Sn:=if AD (Bb a.2.1 b.2.1) (-(AM (OC a) (OC b))-1)=0 then(1,if AM (OC a) (OC b)=0 then 1 else 0,1)else(1,0,0)
noncomputable def Jd (c a b:Sn):Sn:=if c.2.1=1 then a else if c.2.2=0 then b else(a.1,AD a.2.1 b.2.1,AM a.2.2 b.2.2)
noncomputable def MJ (a b:Sn):Sn:=(a.1+b.1,AM (a.2.1*2^b.1.toNat) b.2.1,AM (a.2.2*2^b.1.toNat) b.2.2)
noncomputable def MF (s:Sn)(lo m:Int):Sn:=(m,s.2.1 / 2^lo.toNat%2^m.toNat,s.2.2 / 2^lo.toNat%2^m.toNat)
def JB (w:Int)(x:Int):Prop:=0<=x/\x<2^w.toNat
structure Rg (s:Sn):Prop where
 w:1<=s.1/\s.1<=64
 l:JB s.1 s.2.1
 h:JB s.1 s.2.2
theorem ZQ {w x y:Int}(hx:JB w x)(hy:JB w y):JB w (AD x y):=bN (by decide) (λa b ha hb=>(xi ha hb).2) w.toNat x y hx.1 hx.2 hy.1 hy.2
theorem Yb {w x y:Int}(hx:JB w x)(hy:JB w y):JB w (AM x y):=bN (by decide) (λa b ha hb=>(w5 ha hb).2) w.toNat x y hx.1 hx.2 hy.1 hy.2
theorem pZ {w x y:Int}(hx:JB w x)(hy:JB w y):JB w (Bb x y):=bN (by decide) (λa b ha hb=>(ye ha hb).2) w.toNat x y hx.1 hx.2 hy.1 hy.2
theorem Ut (w x:Int):JB w (x%2^w.toNat):=⟨Ce _ (by have:=V2 w.toNat;ext),BL _ (V2 _)⟩
theorem nM {w x u:Int}(hw:1<=w/\w<=64)(hx:JB w x)(hu:JB w u):Rg (Vu w x u):=by
 refine⟨hw,?_,Yb hx hu⟩;have a1:=pK hx.1 hu.1;have a2:=ZQ hx hu;have e:=R8 hx.1 hu.1
 have a3:AD x u<=x:=by
  have:=Z0 hu.1 hx.1;rw[show AD x u=AD u x by rw[HV hx.1 hu.1,HV hu.1 hx.1,Wv]];exact this
 have:=hx.2;show JB w (AD x (-u-1));rw[e];exact⟨by ext,by ext⟩
theorem oR (h:Rg s):Rg (NV s):=⟨h.w,Ut _ _,Ut _ _⟩
theorem nJ (h:Rg s):JB s.1 (OC s):=pZ h.l h.h
theorem pH (ha:Rg a)(c:Int):Rg (OV a b c):=nM ha.w (Ut _ _) (Ut _ _)
theorem iG (c:Prop)[Decidable c]:JB 1 (if c then 1 else 0):=by split<;>exact⟨by decide,by decide⟩
theorem ma (a b:Sn):Rg (MI a b):=⟨⟨by show(1:Int)<=1;decide,by show(1:Int)<=64;decide⟩,iG _,iG _⟩
theorem qg (a b:Sn):Rg (I9 a b):=by
 unfold I9;split
 .exact⟨⟨by show(1:Int)<=1;decide,by show(1:Int)<=64;decide⟩,iG _,⟨by show(0:Int)<=1;decide,by show(1:Int)<2^(1:Int).toNat;decide⟩⟩
 .exact⟨⟨by show(1:Int)<=1;decide,by show(1:Int)<=64;decide⟩,⟨by show(0:Int)<=0;decide,by show(0:Int)<2^(1:Int).toNat;decide⟩,⟨by show(0:Int)<=0;decide,by show(0:Int)<2^(1:Int).toNat;decide⟩⟩
theorem iL (e:a.1=b.1)(ha:Rg a)(hb:Rg b){f g:Int->Int->Int}(hf:∀{w x y:Int},JB w x->JB w y->JB w (f x y))(hg:∀{w x y:Int},JB w x->JB w y->JB w (g x y)):Rg (a.1,f a.2.1 b.2.1,g a.2.2 b.2.2):=⟨ha.w,hf ha.l (e ▸ hb.l),hg ha.h (e ▸ hb.h)⟩
theorem mx (e:a.1=b.1)(ha:Rg a)(hb:Rg b):Rg (Jd c a b):=by
 unfold Jd;split
 .exact ha
 .split
  .exact hb
  .exact iL e ha hb ZQ Yb
theorem qK {v w x y:Int}(hv:1<=v)(hw:1<=w)(hx:JB v x)(hy:JB w y):JB (v+w) (AM (x*2^w.toNat) y):=by
 rw[jP hx.1 _ hy.1 hy.2];have p:=V2 w.toNat
 have e:(2:Int)^(v+w).toNat=2^w.toNat*2^v.toNat:=by rw[show(v+w).toNat=w.toNat+v.toNat by ext,Int.pow_add]
 have m0:=TK (ND p) hx.1;have m1:=Int.mul_le_mul_of_nonneg_left (show x+1<=2^v.toNat by have:=hx.2;ext) (ND p);rw[Int.mul_add,Zh]at m1;have:=hy.1;have:=hy.2;refine⟨by ext,?_⟩;rw[e];ext
theorem ki {a b:Sn}(ha:Rg a)(hb:Rg b)(h:a.1+b.1<=64):Rg (MJ a b):=⟨⟨by show 1<=a.1+b.1;have:=ha.w;have:=hb.w;ext,h⟩,qK ha.w.1 hb.w.1 ha.l hb.l,qK ha.w.1 hb.w.1 ha.h hb.h⟩
theorem pb {lo m:Int}(h:1<=m/\m<=64):Rg (MF s lo m):=⟨h,Ut _ _,Ut _ _⟩
def GO (s:Sn):Prop:=s.2.1=s.2.2
theorem tF (h:0<=x):Bb x x=0:=by
 have e:AD x x=x:=by rw[HV h h,Nat.and_self];ext
 unfold Bb;rw[FK,e];ext
theorem Vy (h:Rg s)(k:GO s):OC s=0:=by unfold OC;rw[<- k];exact tF h.l.1
theorem nK {w x:Int}(h:0<=x):GO (Vu w x 0):=by
 show AD x (-0-1)=AM x 0;rw[Qy h,gC h]
theorem oQ (k:GO s):GO (NV s):=by unfold GO NV at *;rw[k]
theorem pG (ha:Rg a)(hb:Rg b)(hc:0<=c)(ka:GO a)(kb:GO b):GO (OV a b c):=by
 unfold OV;rw[Vy ha ka,Vy hb kb,<- ka,<- kb]
 have nn:∀{x y:Int},0<=x->0<=y->0<=Bb x y:=λ{x y} hx hy=>by
  unfold Bb;have h1:=FK x y;have h2:=Z0 hx hy;have h3:=Z0 hy hx;rw[show AD y x=AD x y by rw[HV hx hy,HV hy hx,Wv]]at h3;rw[h1];ext
 have n0:0<=a.2.1+b.2.1+c:=by have:=ha.l.1;have:=hb.l.1;ext
 rw[tF (nn (nn n0 ha.l.1) hb.l.1),show AM (AM 0 0) 0%2^a.1.toNat=0 by rw[show AM (AM 0 0) 0=(0:Int) by decide,Int.zero_emod]];exact nK (Ut _ _).1
theorem ly (ka:GO a)(kb:GO b):GO (MI a b):=by
 show(if a.2.2<b.2.1 then(1:Int)else 0)=if a.2.1<b.2.2 then 1 else 0
 rw[ka,kb]
theorem qf (ha:Rg a)(hb:Rg b)(ka:GO a)(kb:GO b):GO (I9 a b):=by
 unfold I9;rw[Vy ha ka,Vy hb kb,show AM 0 0=(0:Int) by decide];split
 .rfl
 .rfl
theorem mw (hc:Rg c)(h1:c.1=1)(kc:GO c)(ka:GO a)(kb:GO b):GO (Jd c a b):=by
 unfold Jd;split
 .exact ka
 .next n1=>
  rw[if_pos]
  .exact kb
  .have h:=hc.l;rw[h1]at h;have:c.2.1<2:=h.2;have:=h.1;rw[<- kc];ext
theorem kh (ka:GO a)(kb:GO b):GO (MJ a b):=by unfold GO MJ at *;dsimp only;rw[ka,kb]
theorem o9 (k:GO s)(lo m:Int):GO (MF s lo m):=by unfold GO MF at *;dsimp only;rw[k]
noncomputable def RI (o:Gd)(a b:Sn):Sn:=match o with
 |.and=>(a.1,AD a.2.1 b.2.1,AD a.2.2 b.2.2)
 |.or=>(a.1,AM a.2.1 b.2.1,AM a.2.2 b.2.2)
 |.xor=>Vu a.1 (Bb a.2.1 b.2.1) (AM (OC a) (OC b))
 |.plus=>OV a b 0
 |.minus=>OV a (NV b) 1
 |.less=>MI a b
 |.same=>I9 a b
 |.join=>MJ a b
noncomputable def n0:Sn:=(1,0,0)
noncomputable def Tm.rv (t:Tm)(hs:List Sn):Sn:=match t with
 |.not _=>NV (hs.headD n0)
 |.bin o _ _=>RI o (hs.headD n0) (hs.tail.headD n0)
 |.pick _ _ _=>Jd (hs.headD n0) (hs.tail.headD n0) (hs.tail.tail.headD n0)
 |.part _ lo m=>MF (hs.headD n0) lo m
 |_=>n0
structure YH where
 b:Str->Sn
 l:Str->Sn
 d:Str->Sn
noncomputable def Tm.rs (e:YH):Tm->Sn
 |.num w n=>(w,n,n)
 |.box x=>e.b x
 |.late x=>e.l x
 |.door x=>e.d x
 |.not t=>(Tm.not t).rv [t.rs e]
 |.bin o t u=>(Tm.bin o t u).rv [t.rs e,u.rs e]
 |.pick c t u=>(Tm.pick c t u).rv [c.rs e,t.rs e,u.rs e]
 |.part t lo m=>(Tm.part t lo m).rv [t.rs e]
theorem Tm.rs_kids {t:Tm}(h:t.kids≠[]):t.rs e=t.rv (t.kids.map (Tm.rs e)):=by cases t<;>first | exact absurd rfl h | rfl
theorem Ou (h:l.length=n+1):∃a r,l=a::r/\r.length=n:=by cases l with
 |nil=>cases h
 |cons a r=>exact⟨a,r,rfl,GJ h⟩
theorem di {t:Tm}{w:Int}(ho:t.over (hs.map (·.1))=some w)(hall:∀s∈hs,Rg s):(Rg (t.rv hs)/\(t.rv hs).1=w)/\((∀s∈hs,GO s)->GO (t.rv hs)):=by
 obtain⟨hl,-⟩:=Tm.over_len ho;rw[Ab]at hl;cases t with
 |not u=>
  obtain⟨a,r,rfl,e0⟩:=Ou hl;cases AG e0;have ha:=hall a (by simp);have e:a.1=w:=by simpa[Tm.over]using ho
  exact⟨⟨oR ha,e⟩,λk=>oQ (k a (by simp))⟩
 |part u lo m=>obtain⟨a,r,rfl,e0⟩:=Ou hl;cases AG e0;have ha:=(hall a (by simp)).w;obtain⟨⟨b1,b2,b3⟩,e⟩:=bA ho;have b3:lo+m<=a.1:=b3;exact⟨⟨pb ⟨b2,by ext⟩,e.symm⟩,λk=>o9 (k a (by simp)) _ _⟩
 |pick c u v=>
  obtain⟨c,r,rfl,e0⟩:=Ou hl;obtain⟨a,r,rfl,e1⟩:=Ou e0;obtain⟨b,r,rfl,e2⟩:=Ou e1;cases AG e2;obtain⟨q1,q2,q3⟩:=jY ho;have q2:a.1=b.1:=q2;have q3:w=a.1:=q3;refine⟨⟨mx q2 (hall a (by simp)) (hall b (by simp)),?_⟩,λk=>mw (hall c (by simp)) q1 (k c (by simp)) (k a (by simp)) (k b (by simp))⟩;show(Jd c a b).1=w;unfold Jd;split
  .exact q3.symm
  .split
   .rw[<- q2];exact q3.symm
   .exact q3.symm
 |bin o u v=>
  obtain⟨a,r,rfl,e0⟩:=Ou hl;obtain⟨b,r,rfl,e1⟩:=Ou e0;cases AG e1;have ha:=hall a (by simp);have hb:=hall b (by simp);show(Rg (RI o a b)/\(RI o a b).1=w)/\_;have kk:∀{P:Prop},(GO a->GO b->P)->(∀s∈[a,b],GO s)->P:=λf k=>f (k a (by simp)) (k b (by simp));cases o with
  |join=>obtain⟨q1,q2⟩:=jX ho;exact⟨⟨ki ha hb q1,q2.symm⟩,kk kh⟩
  |less=>obtain⟨-,q2⟩:=Yw (.inl rfl) ho;exact⟨⟨ma a b,q2.symm⟩,kk ly⟩
  |same=>obtain⟨-,q2⟩:=Yw (.inr rfl) ho;refine⟨⟨qg a b,?_⟩,kk (qf ha hb)⟩;show(I9 a b).1=w;unfold I9;split<;>exact q2.symm
  |and=>obtain⟨q1,q2⟩:=UD (by simp) (by simp) (by simp) ho;exact⟨⟨iL q1 ha hb ZQ ZQ,q2.symm⟩,kk λk1 k2=>by show AD a.2.1 b.2.1=AD a.2.2 b.2.2;rw[k1,k2]⟩
  |or=>obtain⟨q1,q2⟩:=UD (by simp) (by simp) (by simp) ho;exact⟨⟨iL q1 ha hb Yb Yb,q2.symm⟩,kk λk1 k2=>by show AM a.2.1 b.2.1=AM a.2.2 b.2.2;rw[k1,k2]⟩
  |xor=>obtain⟨q1,q2⟩:=UD (by simp) (by simp) (by simp) ho;have q1:a.1=b.1:=q1;have x:=pZ ha.l (q1 ▸ hb.l);refine⟨⟨nM ha.w x (Yb (nJ ha) (q1 ▸ nJ hb)),q2.symm⟩,kk λk1 k2=>?_⟩;show GO (Vu a.1 (Bb a.2.1 b.2.1) (AM (OC a) (OC b)));rw[Vy ha k1,Vy hb k2,show AM 0 0=(0:Int) by decide];exact nK x.1
  |plus=>obtain⟨q1,q2⟩:=UD (by simp) (by simp) (by simp) ho;exact⟨⟨pH ha 0,q2.symm⟩,kk λk1 k2=>pG ha hb (by decide) k1 k2⟩
  |minus=>obtain⟨q1,q2⟩:=UD (by simp) (by simp) (by simp) ho;exact⟨⟨pH ha 1,q2.symm⟩,kk λk1 k2=>pG ha (oR hb) (by decide) k1 (oQ k2)⟩
 |_=>cases ho
noncomputable def gD (lo hi:Int):Int:=if lo%2=hi%2 then lo%2 else 2
theorem Ti (h:M p=none):JA (put M p o) p=M:=by
 funext b;unfold JA put;by_cases e:b=p
 .simp[e,h]
 .simp[e]
abbrev ζ:DO:=λds M Q=>GG ds λx=>∃s:Sn,x=G9 s/\s.1=1/\∀p,M p=none->Q (.ref p) (put M p (.lst [.int (gD s.2.1 s.2.2)]))
local macro_rules | `(tactic| simp_all_arith! [$xs,*])=>`(tactic| simp_all_arith [VJ,UH,Yt,Yu,aE,VG,↓ZH,↓ZI,↓ZJ,bn,↓iA,↓iB,↓iC,$xs,*])
theorem z6:Od T T.x20 2 ζ:=by
 refine CI.p1 T.x20.d.F ["span", "lows", "highs"] λx M Q hr nN h=>?_;obtain⟨s,rfl,hs,q⟩:=h;refine⟨_,(qC (Cw 1 nN (K9 (Ay T.x5.d (vG T) nofun (qA (Be BA (qv 0) Aj) (qA (Be BA (qv 0) Aj) qN))))) (qC (Cw 2 nN (K9 (Ay T.x5.d (vG T) nofun (qA (Be BA (qv 0) Aj) (qA (Be BA (qv 0) Aj) qN))))) (qO (CC (T6 (ns:=["high"]) (caps:=[]) ⟨⟨rfl,by rfl,by rfl,by rfl,rfl,by rfl,by nofun⟩,by rfl,by nofun⟩ rfl (gh T.B.zip (qA (qv 1) (qA (qv 2) qN))) (λ_ _ _ _ _ _=>(Jw (AX CO (qv 0) (qv 1)) (qv 0) Aj)) (λ_ _ _ _ _ _=>(MN (LX (show(["low", "high"]:List Str).Nodup by nofun) rfl (BX rfl)) (MN (LX (show(["low", "high"]:List Str).Nodup by nofun) rfl (BX rfl)) UB)))))))),?_⟩;right;rw[hs];refine⟨by decide,λp hp=>?_⟩;rw[C8];dsimp only;rw[Ti hp];refine⟨by decide,λp' hp'=>?_⟩;rw[C8];dsimp only;rw[Ti hp'];refine Lp.ints (λx y=>if x=y then x else 2) (GD (by rw[tN];decide)) trivial (λx y hxy R r=>?_) ?_
 .simp only[capT,AR,Dr,Ed,FI];grind;split at r
  .next h=>rw[if_pos h];exact r
  .next h=>rw[if_neg h];exact r
 .intro p2 hp2;have e2:∀x,HD (1:Int).toNat x=[x%2]:=λx=>by rw[show(1:Int).toNat=0+1 from rfl,xm];rfl
  rw[e2,e2];exact Dn.of (q p2 hp2)
abbrev Zdf:DO:=λds M Q=>GG ds λx=>EW x λn=>(1<=n/\n<=64)/\Q (Na (Ax n.toNat 2)) M
theorem Zds:Od T T.x21 2 Zdf:=by
 refine CI.p1 T.x21.d.F ["width"] λx M Q hr nN h1=>?_;obtain⟨n,e1',⟨n1,n64⟩,q⟩:_:=CU h1;refine⟨_,(qO (CC (CB (qA (qv 0) (qA Aj (qA (Ay T.x4.d (Us T) nofun (qA (qv 0) (qA (Q6 ZP Aj) qN))) qN)))))),?_⟩;unfold Na at q;rw[oO,pT,Bn,show((n.toNat:Nat):Int)=n by ext]at q;right;refine⟨⟨by ext,by ext⟩,?_⟩;have e:=j7 (x:=0) (w:=n.toNat) (by decide) (V2 _);rw[show(-1:Int)=-0-1 by decide,e,Int.sub_zero];exact Dn.of q
abbrev Φ:DO:=λds M Q=>Je ds λx y z=>∃(ms:List Int) (p:Nat) (m:Int),x=Na ms/\y=.int p/\z=.int m/\YG ms/\p<ms.length/\Mk m/\Q (Na (ms.set p m)) M
theorem ZgF:Od T T.x22 1 Φ:=by
 refine CI.p3 T.x22.d.F ["span", "place", "mark", "bit", "low", "high"] λx y z M Q hr nN h=>?_;obtain⟨ms,p,m,e1',e2',e3',hs,hp,hm,q⟩:_:=h;refine⟨_,(qC (Cw 3 nN (BC VD Aj (qv 1))) (qC (Cw 4 nN (Jw (AX CO (qv 2) Aj) (BC JY (Be BA (qv 0) Aj) (qv 3)) (BC Td (Be BA (qv 0) Aj) (Q6 Vx (qv 3))))) (qC (Cw 5 nN (Jw (AX CO (qv 2) Aj) (BC Td (Be BA (qv 0) Aj) (Q6 Vx (qv 3))) (BC JY (Be BA (qv 0) Aj) (qv 3)))) (qO (CC (CB (qA (Be BA (qv 0) Aj) (qA (qv 4) (qA (qv 5) qN))))))))),?_⟩;unfold Na at q;rw[List.length_set]at q;have p64:p<64:=by have:=hs.2.2;ext
 have cp:O7 1 (p:Int):=⟨by ext,by ext,by decide⟩;rcases hm with rfl|rfl|rfl<;>(simp only[MC,Mz,MA];simp -implicitDefEqProofs only[↓oE,↓XD,↓XE,↓mM,↓Xw,↓XA,↓XC,↓XF,↓pA,↓Xv,↓nW,↓gX,Wz,decide_false,FS,↓reduceIte,↓Xx,↓ZI,↓Xy,↓Xu,↓Xz,↓oC,↓XB,decide_true,↓ZJ,↓oB,↓oF,↓oX,↓ZH,↓Xs,↓Xr,↓nY,bn,AO,E9,EI,Ms,Rv,mJ,true_and];rw[U9,BD])
 .rw[jB (by decide) ms p hp,qI ms p hp]at q;exact⟨cp,Dn.of q⟩
 .rw[qU ms p hp,iY (by decide) ms p hp]at q;exact⟨cp,Dn.of q⟩
 .rw[jB (by decide) ms p hp,iY (by decide) ms p hp]at q;exact⟨cp,Dn.of q⟩
abbrev uh:DO:=λds M Q=>GG ds λx=>∃s,x=G9 s/\Q (.int (OC s)) M
theorem V1:Od T T.x26 1 uh:=by
 refine CI.p1 T.x26.d.F ["span"] λx M Q hr nN h=>?_;obtain⟨s,rfl,q⟩:=h;refine⟨_,(qO (CC (BC Te (Be BA (qv 0) Aj) (Be BA (qv 0) Aj)))),?_⟩;right;exact Dn.of q
abbrev Ο:DO:=λds M Q=>FF ds λx y=>∃a b,x=G9 a/\y=G9 b/\Q (G9 (I9 a b)) M
theorem ZgJ:Od T T.x31 2 Ο:=by
 refine CI.p2 T.x31.d.F ["one", "other", "unknown"] λx y M Q hr nN h=>?_;obtain⟨a,b,e1',e2',q⟩:_:=h;refine⟨_,(qC (Cw 2 nN (BC JY (Ay T.x26.d (V1 T) nofun (qA (qv 0) qN)) (Ay T.x26.d (V1 T) nofun (qA (qv 1) qN)))) (qC (Ez (AX XR (BC Td (BC Te (Be BA (qv 0) Aj) (Be BA (qv 1) Aj)) (Q6 Vx (qv 2))) Aj) (qO (CC (CB (Yc (.int (.int (.int .nil))))))) qE) (qO (CC (CB (qA Aj (qA (Jw (AX CO (qv 2) Aj) Aj Aj) (qA Aj qN)))))))),?_⟩;right;refine⟨a,rfl,b,rfl,?_⟩
 (try grind)
 unfold I9 at q;refine Cz (λc=>?_) λc=>?_
 .rw[if_neg c]at q;exact Dn.of q
 .rw[if_pos (Decidable.not_not.mp c)]at q;refine Cz (λd=>?_) λd=>?_
  .rw[if_pos d]at q;exact Dn.of q
  .rw[if_neg d]at q;exact Dn.of q
abbrev xx:DO:=λds M Q=>Je ds λx y z=>∃i a b:Int,x=.int i/\y=.int a/\z=.int b/\Q (G9 (Vu i a b)) M
theorem vH:Od T T.x27 1 xx:=by
 refine CI.p3 T.x27.d.F ["width", "word", "unknown"] λx y z M Q hr nN h=>?_;obtain⟨i,a,b,e1',e2',e3',q⟩:_:=h;refine⟨_,(qO (CC (CB (qA (qv 0) (qA (BC Td (qv 1) (Q6 Vx (qv 2))) (qA (BC JY (qv 1) (qv 2)) qN)))))),?_⟩;right;exact Dn.of q
abbrev ι:DO:=λds M Q=>Je ds λx y z=>∃(a b:Sn) (c:Int),x=G9 a/\y=G9 b/\z=.int c/\(1<=a.1/\a.1<=64)/\Q (G9 (OV a b c)) M
theorem vO:Od T T.x29 2 ι:=by
 refine CI.p3 T.x29.d.F ["one", "other", "carry", "low", "high", "low_carries", "high_carries", "unknown"] λx y z M Q hr nN h=>?_;obtain⟨a,b,c,e1',e2',e3',hw,q⟩:_:=h;refine⟨_,(qC (Cw 3 nN (BC Hl (BC Hl (Be BA (qv 0) Aj) (Be BA (qv 1) Aj)) (qv 2))) (qC (Cw 4 nN (BC Hl (BC Hl (Be BA (qv 0) Aj) (Be BA (qv 1) Aj)) (qv 2))) (qC (Cw 5 nN (BC Te (BC Te (qv 3) (Be BA (qv 0) Aj)) (Be BA (qv 1) Aj))) (qC (Cw 6 nN (BC Te (BC Te (qv 4) (Be BA (qv 0) Aj)) (Be BA (qv 1) Aj))) (qC (Cw 7 nN (BC JY (BC JY (Ay T.x26.d (V1 T) nofun (qA (qv 0) qN)) (Ay T.x26.d (V1 T) nofun (qA (qv 1) qN))) (BC Te (qv 5) (qv 6)))) (qO (CC (Ay T.x27.d (vH T) nofun (qA (Be BA (qv 0) Aj) (qA (Ay T.x4.d (Us T) nofun (qA (Be BA (qv 0) Aj) (qA (qv 3) qN))) (qA (Ay T.x4.d (Us T) nofun (qA (Be BA (qv 0) Aj) (qA (qv 7) qN))) qN))))))))))),?_⟩;right;refine⟨a,rfl,b,rfl,?_⟩
 (try grind)
 exact⟨⟨by ext,by ext⟩,⟨by ext,by ext⟩,_,_,_,rfl,rfl,rfl,Dn.of q⟩
abbrev Ι:DO:=λds M Q=>FF ds λx y=>∃a b,x=G9 a/\y=G9 b/\Q (G9 (MI a b)) M
theorem ZgP:Od T T.x30 1 Ι:=by
 refine CI.p2 T.x30.d.F ["one", "other"] λx y M Q hr nN h=>?_;obtain⟨a,b,e1',e2',q⟩:_:=h;refine⟨_,(qO (CC (CB (qA Aj (qA (Jw (AX La (Be BA (qv 0) Aj) (Be BA (qv 1) Aj)) Aj Aj) (qA (Jw (AX La (Be BA (qv 0) Aj) (Be BA (qv 1) Aj)) Aj Aj) qN)))))),?_⟩;right;unfold MI G9 at q;by_cases c1:a.2.2<b.2.1<;>by_cases c2:a.2.1<b.2.2<;>simp only[c1,c2,if_true,if_false]at q ⊢<;>exact Dn.of q
abbrev θ:DO:=λds M Q=>GG ds λx=>∃s:Sn,x=G9 s/\(1<=s.1/\s.1<=64)/\Q (G9 (NV s)) M
theorem vN:Od T T.x28 2 θ:=by
 refine CI.p1 T.x28.d.F ["span"] λx M Q hr nN h=>?_;obtain⟨s,rfl,hw,q⟩:=h;refine⟨_,(qO (CC (CB (qA (Be BA (qv 0) Aj) (qA (Ay T.x4.d (Us T) nofun (qA (Be BA (qv 0) Aj) (qA (Q6 Vx (Be BA (qv 0) Aj)) qN))) (qA (Ay T.x4.d (Us T) nofun (qA (Be BA (qv 0) Aj) (qA (Q6 Vx (Be BA (qv 0) Aj)) qN))) qN)))))),?_⟩;right;exact⟨⟨by ext,by ext⟩,⟨by ext,by ext⟩,Dn.of q⟩
abbrev Ze9:DO:=λds M Q=>Je ds λx y z=>∃(o:Gd) (a b:Sn),x=.str o.nm/\y=G9 a/\z=G9 b/\(1<=a.1/\a.1<=64)/\(1<=b.1/\b.1<=64)/\o≠.join/\Q (G9 (RI o a b)) M
theorem Zek:Od T T.x25 3 Ze9:=by
 refine CI.p3 T.x25.d.F ["form", "one", "other"] λx y z M Q hr nN h=>?_;obtain⟨o,a,b,e1',e2',e3',ha,hb,hj,q⟩:_:=h;refine⟨_,(qC (Ez (AX CO (qv 0) BQ) (qO (CC (CB (qA (Be BA (qv 1) Aj) (qA (BC Td (Be BA (qv 1) Aj) (Be BA (qv 2) Aj)) (qA (BC Td (Be BA (qv 1) Aj) (Be BA (qv 2) Aj)) qN)))))) qE) (qC (Ez (AX CO (qv 0) BQ) (qO (CC (CB (qA (Be BA (qv 1) Aj) (qA (BC JY (Be BA (qv 1) Aj) (Be BA (qv 2) Aj)) (qA (BC JY (Be BA (qv 1) Aj) (Be BA (qv 2) Aj)) qN)))))) qE) (qC (Ez (AX CO (qv 0) BQ) (qO (CC (Ay T.x27.d (vH T) nofun (qA (Be BA (qv 1) Aj) (qA (BC Te (Be BA (qv 1) Aj) (Be BA (qv 2) Aj)) (qA (BC JY (Ay T.x26.d (V1 T) nofun (qA (qv 1) qN)) (Ay T.x26.d (V1 T) nofun (qA (qv 2) qN))) qN)))))) qE) (qC (Ez (AX CO (qv 0) BQ) (qO (CC (Ay T.x29.d (vO T) nofun (qA (qv 1) (qA (qv 2) (qA Aj qN)))))) qE) (qC (Ez (AX CO (qv 0) BQ) (qO (CC (Ay T.x29.d (vO T) nofun (qA (qv 1) (qA (Ay T.x28.d (vN T) nofun (qA (qv 2) qN)) (qA Aj qN)))))) qE) (qC (Ez (AX CO (qv 0) BQ) (qO (CC (Ay T.x30.d (ZgP T) nofun (qA (qv 1) (qA (qv 2) qN))))) qE) (qO (CC (Ay T.x31.d (ZgJ T) nofun (qA (qv 1) (qA (qv 2) qN))))))))))),?_⟩;cases o<;>simp only[Gd.nm]
 case and=>
  right;exact Dn.of q
 case or=>
  right;exact Dn.of q
 case xor=>
  right;rw[if_neg (by nofun),if_neg (by nofun)];exact⟨a,rfl,b,rfl,_,_,_,rfl,rfl,rfl,Dn.of q⟩
 case plus=>
  right;exact⟨a,b,0,rfl,rfl,rfl,ha,Dn.of q⟩
 case minus=>
  right;exact⟨b,rfl,hb,a,NV b,1,rfl,rfl,rfl,ha,Dn.of q⟩
 case less=>
  right;exact⟨a,b,rfl,rfl,Dn.of q⟩
 case same=>
  right;exact⟨a,b,rfl,rfl,Dn.of q⟩
 case join=>exact absurd rfl hj
abbrev Λ:DO:=λds M Q=>Je ds λx y z=>∃(s:Sn) (lo m:Int),x=G9 s/\y=.int lo/\z=.int m/\(0<=lo/\1<=m/\m<=64)/\Q (G9 (MF s lo m)) M
theorem ZgN:Od T T.x34 2 Λ:=by
 refine CI.p3 T.x34.d.F ["span", "low", "many"] λx y z M Q hr nN h=>?_;obtain⟨ms,lo,m,e1',e2',e3',⟨h0,h1,h2⟩,q⟩:_:=h;refine⟨_,(qO (CC (CB (qA (qv 2) (qA (Ay T.x4.d (Us T) nofun (qA (qv 2) (qA (BC hV (Be BA (qv 0) Aj) (qv 1)) qN))) (qA (Ay T.x4.d (Us T) nofun (qA (qv 2) (qA (BC hV (Be BA (qv 0) Aj) (qv 1)) qN))) qN)))))),?_⟩;right;exact⟨h0,⟨by ext,by ext⟩,h0,⟨by ext,by ext⟩,Dn.of q⟩
abbrev Μ:DO:=λds M Q=>Je ds λx y z=>∃c a b,x=G9 c/\y=G9 a/\z=G9 b/\Q (G9 (Jd c a b)) M
theorem ZgM:Od T T.x32 1 Μ:=by
 refine CI.p3 T.x32.d.F ["chosen", "one", "other"] λx y z M Q hr nN h=>?_;obtain⟨c,a,b,e1',e2',e3',q⟩:_:=h;refine⟨_,(qC (Ez (AX CO (Be BA (qv 0) Aj) Aj) (qO (CC (qv 1))) qE) (qC (Ez (AX CO (Be BA (qv 0) Aj) Aj) (qO (CC (qv 2))) qE) (qO (CC (CB (qA (Be BA (qv 1) Aj) (qA (BC Td (Be BA (qv 1) Aj) (Be BA (qv 2) Aj)) (qA (BC JY (Be BA (qv 1) Aj) (Be BA (qv 2) Aj)) qN)))))))),?_⟩;right;unfold Jd at q;refine Cz (λd=>?_) λd=>Cz (λd2=>?_) λd2=>?_
 .rw[if_pos d]at q;exact Dn.of q
 .rw[if_neg d,if_pos d2]at q;exact Dn.of q
 .rw[if_neg d,if_neg d2]at q;exact Dn.of q
abbrev Θ:DO:=λds M Q=>FF ds λx y=>∃a b,x=G9 a/\y=G9 b/\Rg a/\Rg b/\Q (G9 (MJ a b)) M
theorem ZgQ:Od T T.x33 1 Θ:=by
 refine CI.p2 T.x33.d.F ["one", "other"] λx y M Q hr nN h=>?_;obtain⟨a,b,e1',e2',ha,hb,q⟩:_:=h;refine⟨_,(qO (CC (CB (qA (BC Hl (Be BA (qv 0) Aj) (Be BA (qv 1) Aj)) (qA (BC JY (BC VD (Be BA (qv 0) Aj) (Be BA (qv 1) Aj)) (Be BA (qv 1) Aj)) (qA (BC JY (BC VD (Be BA (qv 0) Aj) (Be BA (qv 1) Aj)) (Be BA (qv 1) Aj)) qN)))))),?_⟩;right;have wb:=hb.w
 have c1:∀{x:Int},JB a.1 x->O7 x b.1:=λ{x} h=>by
  have h2:(2:Int)^a.1.toNat<=2^64:=m7 (by have:=ha.w;ext);have h3:=Int.lt_of_lt_of_le h.2 h2;have:=h.1;exact⟨by ext,by ext,by ext⟩
 exact⟨c1 ha.l,c1 ha.h,Dn.of q⟩
abbrev Ρ:DO:=λds M Q=>FF ds λx y=>∃(t:Tm) (hs:List Sn) (w:Int),x=t.D/\y=.lst (hs.map G9)/\t.over (hs.map (·.1))=some w/\(∀h∈hs,Rg h)/\Q (G9 (t.rv hs)) M
theorem ZgH:Od T T.x24 4 Ρ:=by
 refine CI.p2 T.x24.d.F ["term", "held", "form"] λx y M Q hr nN h=>?_;obtain⟨t,hs,wd,e1',e2',ho,hall,q⟩:_:=h;refine⟨_,(qC (Cw 2 nN (Be BA (qv 0) Aj)) (qC (Ez (AX CO (qv 2) BQ) (qO (CC (Ay T.x28.d (vN T) nofun (qA (Be Hr (qv 1) Aj) qN)))) qE) (qC (Ez (AX CO (qv 2) BQ) (qO (CC (Ay T.x34.d (ZgN T) nofun (qA (Be Hr (qv 1) Aj) (qA (Be BA (qv 0) Aj) (qA (Be BA (qv 0) Aj) qN)))))) qE) (qC (Ez (AX CO (qv 2) BQ) (qO (CC (Ay T.x32.d (ZgM T) nofun (qA (Be Hr (qv 1) Aj) (qA (Be Hr (qv 1) Aj) (qA (Be Hr (qv 1) Aj) qN)))))) qE) (qC (Ez (AX CO (qv 2) BQ) (qO (CC (Ay T.x33.d (ZgQ T) nofun (qA (Be Hr (qv 1) Aj) (qA (Be Hr (qv 1) Aj) qN))))) qE) (qO (CC (Ay T.x25.d (Zek T) nofun (qA (qv 2) (qA (Be Hr (qv 1) Aj) (qA (Be Hr (qv 1) Aj) qN))))))))))),?_⟩;obtain⟨hz,hne⟩:=Tm.over_len ho;rw[Ab]at hz;cases t with
 |num _ _=>exact absurd rfl hne
 |box _=>exact absurd rfl hne
 |late _=>exact absurd rfl hne
 |door _=>exact absurd rfl hne
 |not t=>obtain⟨a,r,rfl,e0⟩:=Ou hz;cases AG e0;simp only[Tm.D,AR,Dr];right;exact⟨a,rfl,(hall a (by simp)).w,Dn.of q⟩
 |part t lo many=>obtain⟨a,r,rfl,e0⟩:=Ou hz;cases AG e0;obtain⟨⟨b1,b2,b3⟩,_⟩:=bA ho;have b3:lo+many<=a.1:=b3;have h64:=(hall a (by simp)).w;simp only[Tm.D,AR,Dr];right;exact⟨a,lo,many,rfl,rfl,rfl,⟨b1,b2,by ext⟩,Dn.of q⟩
 |pick c t u=>obtain⟨c,r,rfl,e0⟩:=Ou hz;obtain⟨a,r,rfl,e1⟩:=Ou e0;obtain⟨b,r,rfl,e2⟩:=Ou e1;cases AG e2;simp only[Tm.D,AR,Dr];right;exact⟨c,a,b,rfl,rfl,rfl,Dn.of q⟩
 |bin o t u=>
  obtain⟨a,r,rfl,e0⟩:=Ou hz;obtain⟨b,r,rfl,e1⟩:=Ou e0;cases AG e1;have hA:=hall a (by simp);have hB:=hall b (by simp);simp only[Tm.D,AR,Dr];right;have hn:=Gd.nm_ne (o:=o)
  (try rw[if_neg hn.2.2.2.2.1])
  (try rw[if_neg hn.2.2.2.2.2.2])
  (try rw[if_neg hn.2.2.2.2.2.1])
  by_cases hj:o=.join
  .subst hj;rw[if_pos (show Gd.join.nm=Ak "join" from rfl)];exact⟨a,b,rfl,rfl,hA,hB,Dn.of q⟩
  .rw[if_neg (show¬o.nm=Ak "join" from λe=>hj (Gd.nm_inj e))];exact⟨o,a,b,rfl,rfl,rfl,hA.w,hB.w,hj,Dn.of q⟩
theorem Tm.kid_leaf {t k l:Tm}(hk:k∈t.kids)(h:l∈k.leaves):l∈t.leaves:=by
 cases t<;>simp[Tm.kids,Tm.leaves]at hk ⊢
 .subst hk;exact h
 .rcases hk with rfl|rfl
  .exact .inl h
  .exact .inr h
 .rcases hk with rfl|rfl|rfl
  .exact .inl h
  .exact .inr (.inl h)
  .exact .inr (.inr h)
 .subst hk;exact h
structure DT (k0 k1 k2:List (B4×D))(bs es:List (Str×Int))(e:YH)(t:Tm):Prop where
 b:∀x,Tm.box x∈t.leaves->∃w,bs.lookup x=some w/\(Rg (e.b x)/\(e.b x).1=w)/\Do k0 (.inr x)=some (G9 (e.b x))
 l:∀x,Tm.late x∈t.leaves->∃w,bs.lookup x=some w/\(Rg (e.l x)/\(e.l x).1=w)/\Do k1 (.inr x)=some (G9 (e.l x))
 d:∀x,Tm.door x∈t.leaves->∃w,es.lookup x=some w/\(Rg (e.d x)/\(e.d x).1=w)/\Do k2 (.inr x)=some (G9 (e.d x))
theorem DT.kid {k0 k1 k2:List (B4×D)}{bs es:List (Str×Int)}{e:YH}{t k:Tm}(h:DT k0 k1 k2 bs es e t)(hk:k∈t.kids):DT k0 k1 k2 bs es e k:=⟨λx m=>h.b x (Tm.kid_leaf hk m),λx m=>h.l x (Tm.kid_leaf hk m),λx m=>h.d x (Tm.kid_leaf hk m)⟩
theorem tY {ks:List Tm}{ws:List Int}(hl:ws.length=ks.length)(h:∀(i:Nat) (k:Tm) (a:Int),ks[i]? = some k->ws[i]? = some a->(k.rs e).1=a):(ks.map (Tm.rs e)).map (·.1)=ws:=by
 apply Fp;intro i;rw[AH,AH];cases q:ks[i]? with
 |none=>have:=EF.mp q;rw[EF.mpr (by ext)];rfl
 |some k=>have hi:=(Ah.mp q).1;have e1:=Af (by omega:i<ws.length);rw[e1];simp only[GS];rw[h i k _ q e1]
theorem iD {k0 k1 k2:List (B4×D)}{bs es:List (Str×Int)}{e:YH}{t:Tm}{w:Int}(hw:Wd bs es t w):DT k0 k1 k2 bs es e t->(Rg (t.rs e)/\(t.rs e).1=w)/\((∀x,GO (e.b x)/\GO (e.l x)/\GO (e.d x))->GO (t.rs e)):=by
 induction hw with
 |num c=>exact λ_=>⟨⟨⟨⟨c.1,c.2.1⟩,c.2.2,c.2.2⟩,rfl⟩,λ_=>rfl⟩
 | @box x w c=>intro h;obtain⟨w',a1,a2,_⟩:=h.b x (AL.mpr rfl);rw[c]at a1;cases a1;exact⟨a2,λk=>(k x).1⟩
 | @late x w c=>intro h;obtain⟨w',a1,a2,_⟩:=h.l x (AL.mpr rfl);rw[c]at a1;cases a1;exact⟨a2,λk=>(k x).2.1⟩
 | @door x w c=>intro h;obtain⟨w',a1,a2,_⟩:=h.d x (AL.mpr rfl);rw[c]at a1;cases a1;exact⟨a2,λk=>(k x).2.2⟩
 | @over t ws w kid ho ih=>
  intro h;obtain⟨hl,hne⟩:=Tm.over_len ho;have e1:=tY hl λi k a h1 h2=>(ih i k a h1 h2 (h.kid (Aw h1))).1.2
  have hm:∀s∈t.kids.map (Tm.rs e),Rg s/\((∀x,GO (e.b x)/\GO (e.l x)/\GO (e.d x))->GO s):=λs hs=>by
   obtain⟨k,hk,rfl⟩:=An.mp hs;obtain⟨i,hi⟩:=Bm.mp hk;have hi':=(Ah.mp hi).1;have z:=ih i k _ hi (Af (by omega:i<ws.length)) (h.kid hk);exact⟨z.1.1,z.2⟩
  rw[Tm.rs_kids hne];obtain⟨r1,r2⟩:=di (by rw[e1];exact ho) λs hs=>(hm s hs).1;exact⟨r1,λk=>r2 λs hs=>(hm s hs).2 k⟩
abbrev bK (n:Nat)(ds:List D)(M:Mp)(Q:El):Prop:=FF ds λx y=>Ck (Iy x) λt=>∃d0 d1 d2 k0 k1 k2 bs es e,y=.tup [d0,d1,d2]/\(D5 M d0=some k0/\D5 M d1=some k1/\D5 M d2=some k2)/\t.deep<=n/\(∃w,Wd bs es t w)/\DT k0 k1 k2 bs es e t/\Q (G9 (t.rs e)) M
theorem Zdv {n:Nat}(G_span_of:Od T T.x23 (n+5) (bK n)):Od T T.x23 (n+6) (bK (n+1)):=by
 refine CI.p2 T.x23.d.F ["term", "spans", "form"] λx y M Q hr nN h1=>?_;obtain⟨t,e1',d0,d1,d2,k0,k1,k2,bs,es,e,e2',⟨c0,c1,c2⟩,hn,⟨wd,hw⟩,dt,q⟩:_:=N4 h1;refine⟨_,(qC (Cw 2 nN (Be BA (qv 0) Aj)) (qC (Ez (AX CO (qv 2) BQ) (qO (CC (CB (qA (Be BA (qv 0) Aj) (qA (Be BA (qv 0) Aj) (qA (Be BA (qv 0) Aj) qN)))))) qE) (qC (Ez (AX CO (qv 2) BQ) (qO (CC (Fg (J2 hr) (Be BA (qv 1) Aj) (Be BA (qv 0) Aj) (λ_ _=>rfl)))) qE) (qC (Ez (AX CO (qv 2) BQ) (qO (CC (Fg (J2 hr) (Be BA (qv 1) Aj) (Be BA (qv 0) Aj) (λ_ _=>rfl)))) qE) (qC (Ez (AX CO (qv 2) BQ) (qO (CC (Fg (J2 hr) (Be BA (qv 1) Aj) (Be BA (qv 0) Aj) (λ_ _=>rfl)))) qE) (qO (CC (Ay T.x24.d (ZgH T) nofun (qA (qv 0) (qA (Gm (caps:=[("spans",1)]) ⟨rfl,by rfl,by rfl,by rfl,rfl,by rfl,by nofun⟩ rfl (QD (Ay T.x6.d (bU T) nofun (qA (qv 0) qN))) (λ_ _ _ _ _ _=>(Ay T.x23.d G_span_of nofun (qA (qv 0) (qA (qv 1) qN))))) qN)))))))))),?_⟩;by_cases hk:t.kids=[]
 .cases hw with
  |num c=>simp only[Tm.D];right;exact Dn.of q
  | @box x _ c=>obtain⟨w',a1,a2,a5⟩:=dt.b x (AL.mpr rfl);simp only[Tm.D];right;rw[c0,BR,a5];exact Dn.of q
  | @late x _ c=>obtain⟨w',a1,a2,a5⟩:=dt.l x (AL.mpr rfl);simp only[Tm.D];right;rw[c1,BR,a5];exact Dn.of q
  | @door x _ c=>obtain⟨w',a1,a2,a5⟩:=dt.d x (AL.mpr rfl);simp only[Tm.D];right;rw[c2,BR,a5];exact Dn.of q
  |over _ ho=>exact absurd hk (Tm.over_len ho).2
 .cases hw with
  |num c=>exact absurd rfl hk
  |box c=>exact absurd rfl hk
  |late c=>exact absurd rfl hk
  |door c=>exact absurd rfl hk
  | @over _ ws _ kid ho=>
   obtain⟨n1,n2,n3,n4⟩:=Tm.form_ne hk;have n1':=eq_false n1;have n2':=eq_false n2;have n3':=eq_false n3;have n4':=eq_false n4;have hk3:=Tm.kids_le t;obtain⟨hl,hne⟩:=Tm.over_len ho;have kd:∀i (k:Tm) (a:Int),t.kids[i]? = some k->ws[i]? = some a->Rg (k.rs e)/\(k.rs e).1=a:=λi k a h1 h2=>(iD (kid i k a h1 h2) (dt.kid (Aw h1))).1;have e1:=tY (e:=e) hl λi k a h1 h2=>(kd i k a h1 h2).2
   have kw:∀k∈t.kids,Rg (k.rs e)/\∃w,Wd bs es k w:=λk hkm=>by
    obtain⟨i,hi⟩:=Bm.mp hkm;have hi':=(Ah.mp hi).1;have e2:=Af (by omega:i<ws.length);exact⟨(kd i k _ hi e2).1,_,kid i k _ hi e2⟩
   rw[Tm.rs_kids hne]at q;right;simp only[VG,n1',n2',n3',n4'];grind;refine EL.of (f:=λk=>G9 (k.rs e)) (GD (by ext)) trivial (λk hkm R r=>?_) ?_
   .have dk:=Tm.deep_kid hkm;walk_at "cap";exact⟨d0,d1,d2,k0,k1,k2,bs,es,e,rfl,⟨c0,c1,c2⟩,by ext,(kw k hkm).2,dt.kid hkm,r⟩
   (try grind)
   refine⟨t,t.kids.map (Tm.rs e),wd,rfl,by rw[Bv];rfl,by rw[e1];exact ho,λm hm=>?_,Dn.of q⟩;obtain⟨k,hkm,rfl⟩:=An.mp hm;exact(kw k hkm).1
theorem vJ (T:Tv P w K mg base):∀n,Od T T.x23 (n+5) (bK n)
 |0=>by
  have no:∀ds M Q,¬bK 0 ds M Q:=λds M Q h=>by
   obtain⟨x,y,rfl,h1⟩:=MG h;obtain⟨t,e1',d0,d1,d2,k0,k1,k2,bs,es,e,e2',_,hn,_⟩:_:=N4 h1;have:=t.deep_pos;ext
  exact V0 no
 |n+1=>Zdv T (vJ T n)
theorem ZO {M:Mp}{x:D}{xs:List D}(h:Bf M x=some xs):Hz M x=some xs:=by
 cases x with
 |tup _=>cases h
 |_=>exact h
abbrev Zfi:DO:=λds M Q=>Je ds λx y _=>Ck (Bf M x) λxs=>EW y λn=>(xs.length:Int)<=n/\Q .non M
theorem bT:Od T T.x36 1 Zfi:=by
 refine CI.p3 T.x36.d.F ["things", "most", "called"] λx y z M Q hr nN h1=>?_;obtain⟨xs,hl,h2⟩:=Ci h1;obtain⟨n,rfl,hn,q⟩:=CU h2;refine⟨_,(qO (Ez (AX Lb (Cp LU T.B.len CG (qA (qv 0) qN)) (qv 1)) (qO O4) qE)),?_⟩;right;rw[ZO hl,BR];exact Cz (λc=>absurd c (by ext)) λ_=>Dn.of q
noncomputable def Gj (ts:List Str):List (B4×D):=ts.map λz=>(.inr z,.bl true)
noncomputable def Mv:List (B4×D)->Option (List Str)
 |[]=>some []
 |(.inr z,.bl true)::r=>(Mv r).map (z::·)
 |_::_=>none
theorem iK:∀ts,Mv (Gj ts)=some ts
 |[]=>rfl
 |z::r=>by
  show(Mv (Gj r)).map (z::·)=_;rw[iK r];rfl
theorem jM:∀{AQ:List (B4×D)}{ts:List Str},Mv AQ=some ts->AQ=Gj ts
 |[],ts,h=>by cases h;rfl
 |(.inr z,.bl true)::r,ts,h=>by
  change(Mv r).map (z::·)=_ at h;cases e:Mv r with
  |none=>rw[e]at h;cases h
  |some us=>rw[e]at h;cases h;rw[jM e];rfl
 |(.inl z,_)::r,ts,h=>by cases h
 |(.inr z,.bl false)::r,ts,h=>by cases h
 |(.inr z,.str _)::r,ts,h=>by cases h
 |(.inr z,.int _)::r,ts,h=>by cases h
 |(.inr z,.non)::r,ts,h=>by cases h
 |(.inr z,.tup _)::r,ts,h=>by cases h
 |(.inr z,.lst _)::r,ts,h=>by cases h
 |(.inr z,.dic _)::r,ts,h=>by cases h
 |(.inr z,.ref _)::r,ts,h=>by cases h
theorem pI (z:Str):∀ts,((Gj ts).any λkv=>decide (kv.1=.inr z))=decide (z∈ts)
 |[]=>rfl
 |y::r=>by
  show(decide ((Fx y:B4)=.inr z) || (Gj r).any λkv=>decide (kv.1=.inr z))=_;rw[pI z r];by_cases e:y=z
  .subst e;simp
  .have e':¬z=y:=λq=>e q.symm;simp[e,e']
theorem pW (z:Str):∀ts,(Do (Gj ts) (.inr z)).isSome=decide (z∈ts)
 |[]=>rfl
 |y::r=>by
  by_cases e:y=z
  .subst e;simp[Do,Gj]
  .have h3:Do (Gj (y::r)) (.inr z)=Do (Gj r) (.inr z):=by simp[Do,Gj,Cn,e]
   have e':¬z=y:=λq=>e q.symm;rw[h3,pW z r];simp[e']
theorem pJ {z:Str}{ts:List Str}(h:z∉ts):Hj (Gj ts) (.inr z) (.bl true)=Gj (ts++[z]):=by
 unfold Hj;rw[pI,decide_eq_false h];simp[Gj]
theorem rF (ts:List Str):(Gj ts).length=ts.length:=by unfold Gj;rw[Ab]
def RT (M:Mp)(x:D)(k:List Str->Prop):Prop:=Ck (D5 M x) λAQ=>Ck (Mv AQ) k
theorem zS (h:RT M x k):∃ts,D5 M x=some (Gj ts)/\k ts:=by
 obtain⟨AQ,e,h1⟩:=Ci h;obtain⟨ts,e2,q⟩:=Ci h1;rw[jM e2]at e;exact⟨ts,e,q⟩
theorem nZ {M:Mp}{x:D}{ts:List Str}{k:List Str->Prop}(e:D5 M x=some (Gj ts)):RT M x k=k ts:=by unfold RT;rw[e,BR,iK,BR]
def NS (M:Mp)(x:D)(k:Av->List Str->Prop):Prop:=JO x λp=>Ko (M p) λAQ=>Ck (Mv AQ) λts=>k p ts
theorem ZL {M:Mp}{x:D}{k:Av->List Str->Prop}(h:NS M x k):∃p ts,x=.ref p/\M p=some (.dic (Gj ts))/\k p ts:=by
 obtain⟨p,rfl,h1⟩:=Ib h;cases e:M p with
 |none=>rw[e]at h1;exact h1.elim
 |some o=>
  cases o with
  |lst _=>rw[e]at h1;exact h1.elim
  |dct _=>rw[e]at h1;exact h1.elim
  |obj _ _=>rw[e]at h1;exact h1.elim
  |dic AQ=>rw[e]at h1;obtain⟨ts,e2,q⟩:=Ci h1;rw[jM e2]at e;exact⟨p,ts,rfl,e,q⟩
theorem Vw {M:Mp}{p:Av}{ts:List Str}{k:Av->List Str->Prop}(e:M p=some (.dic (Gj ts))):NS M (.ref p) k=k p ts:=by
 unfold NS;rw[QB,e,VH,iK,BR]
abbrev Zfh:DO:=λds M Q=>FF ds λx y=>Gb x λz=>RT M y λts=>z∉ts/\Q .non M
theorem wH:Od T T.x39 1 Zfh:=by
 refine CI.p2 T.x39.d.F ["name", "taken"] λx y M Q hr nN h1=>?_;obtain⟨z,rfl,h2⟩:=D4 h1;obtain⟨ts,ht,hz,q⟩:=zS h2;refine⟨_,(qO (Ez (AX (zQ (J2 hr)) (qv 0) (qv 1) (by with_unfolding_all rfl)) (qO O4) qE)),?_⟩;right;simp only[ht,BR,iQ,pW,decide_eq_false hz];exact Dn.of q
noncomputable def small (c:Nat):Bool:=decide (97<=c/\c<=122)
noncomputable def Gn (z:Str):Bool:=decide (1<=z.length/\z.length<=8) && z.cps.toList.all small
def ZF (z:Str):Prop:=(z.cps.all λc=>decide (c<128))=true
abbrev xy:DO:=λds M Q=>GG ds λx=>Gb x λz=>(ZF z/\z.length<=1000)/\Q (.bl (Gn z)) M
theorem yz:Od T T.x37 1 xy:=by
 refine CI.p1 T.x37.d.F ["text"] λx M Q hr nN h1=>?_;obtain⟨z,e1',⟨ha,hz⟩,q⟩:_:=D4 h1;refine⟨_,(qO (CC (RP (NR Qp Qp Aj (Cp vj T.B.len CG (qA (qv 0) qN)) (Ii T.m_LONGEST_NAME)) (NQ (Cp (yE rfl) T.B.all boot_all (qA (Gm (caps:=[]) ⟨rfl,by rfl,by rfl,by rfl,rfl,by rfl,by nofun⟩ rfl (gg (qv 0)) (λ_ _ _ _ _ _=>(NR sM sM BQ (qv 0) BQ))) qN)))))),?_⟩;right;refine⟨GD hz,Cz (λc1=>Cz (λc2=>⟨ha,?_⟩) λc2=>?_) λc1=>?_⟩
 .unfold Kl;refine EL.of (f:=λc=>.bl (small c)) (GD (by rw[BE];exact hz)) trivial (λc hc R r=>?_) ?_
  .walk_at "cap";rw[show(Ak "a").cps.toList=[97] by nofun,show(Ak "z").cps.toList=[122] by nofun];have l1:([c] < ([97]:List Nat))↔c<97:=by simp[NC]
   have l2:(([122]:List Nat) < [c])↔122<c:=by simp[NC]
   refine Cz (λh=>?_) λh=>?_
   .rw[l1]at h;rw[show small c=!decide (([122]:List Nat) < [c]) by unfold small;rw[Dm];simp only[l2,decide_eq_true_eq,NF,IZ,decide_eq_false_iff_not];ext]at r;exact r
   .rw[l1]at h;rw[show small c=false by unfold small;rw[decide_eq_false_iff_not];ext]at r;exact r
  .rw[show(z.cps.toList.map λc=>D.bl (small c))=(z.cps.toList.map small).map D.bl by rw[Bv];rfl,uQ,BR];refine Dn.of ?_;rw[Vb];rw[show Gn z=z.cps.toList.all small by unfold Gn;rw[decide_eq_true (by ext),Mh]]at q;exact q
 .rw[show Gn z=false by unfold Gn;rw[decide_eq_false (by ext),E6]]at q;exact Dn.of q
 .rw[show Gn z=false by unfold Gn;rw[decide_eq_false (by ext),E6]]at q;exact Dn.of q
abbrev Τ:DO:=λds M Q=>FF ds λx y=>Gb x λz=>NS M y λp ts=>((ZF z/\z.length<=1000)/\Gn z=true/\z∉ts/\ts.length<=100)/\Q .non (put M p (.dic (Gj (ts++[z]))))
theorem kS:Od T T.x38 2 Τ:=by
 refine CI.p2 T.x38.d.F ["name", "taken"] λx y M Q hr nN h1=>?_;obtain⟨z,rfl,h2⟩:=D4 h1;obtain⟨p,ts,e1',ht,⟨ha,hn,hz,hl⟩,q⟩:_:=ZL h2;refine⟨_,(qC (Ez (Li (GF (Ay T.x37.d (yz T) nofun (qA (qv 0) qN)))) (qO O4) qE) (qC (E3 (Ay T.x39.d (wH T) nofun (qA (qv 0) (qA (qv 1) qN)))) (qO (VQ (J2 hr) (qv 1) (qv 0) T8 rfl)))),?_⟩;right;refine⟨ha,Cz (λc=>by rw[hn]at c;cases c) λ_=>?_⟩;rw[nZ (mW ht),ht,VH,pJ hz,rF];exact⟨hz,BU (by ext),Dn.of q⟩
noncomputable def E2 (b:Str×Int×Int):D:=.tup [.str b.1,.int b.2.1,.int b.2.2]
noncomputable def G1 (d:Str×Int):D:=.tup [.str d.1,.int d.2]
def J3 (z:Str):Prop:=(ZF z/\z.length<=1000)/\Gn z=true
theorem UA {M:Mp}{p:Av}{o:MO}{x:D}{xs:List D}(hp:∀ys,M p≠some (.lst ys))(h:Bf M x=some xs):Bf (put M p o) x=some xs:=by
 cases x with
 |ref q=>
  have hq:q≠p:=λe=>by
   subst e;cases e2:M q with
   |none=>simp[Bf,e2]at h
   |some u=>
    cases u with
    |lst ys=>exact hp ys e2
    |_=>simp[Bf,e2]at h
  unfold Bf at h ⊢;simp only[Ds hq];exact h
 |_=>exact h
theorem XJ {M:Mp}{p q:Av}{a b c d:MO}(h:q≠p):put (put (put (put M p a) q b) p c) q d=put (put M p c) q d:=by
 funext r;unfold put;by_cases e:r=q<;>by_cases e':r=p<;>simp[e,e']
theorem oS {ws:List (Str×Int)}{z:Str}{n:Int}(h:z∉ws.map (·.1)):Hj (Fd ws) (.inr z) (.int n)=Fd (ws++[(z,n)]):=by
 have e:((Fd ws).any λkv=>decide (kv.1=.inr z))=false:=by
  rw[P7];intro kv hkv;obtain⟨p,hp,rfl⟩:=An.mp hkv;simp only[decide_eq_true_eq,Sum.inr.injEq];intro e;exact h (by rw[<- e];exact GR hp)
 unfold Hj;rw[e];simp[Fd]
theorem bI {α:Type}{f:α->Str}{ts:List Str}{bs:List α}{k:Nat}{b:α}(h:(ts++bs.map f).Nodup)(hb:bs[k]? = some b):f b∉ts++(bs.take k).map f:=by
 obtain⟨hk,e⟩:=Ah.mp hb
 have e2:bs=bs.take k++b::bs.drop (k+1):=by
  rw[<- e,<- Gq hk,HI]
 rw[e2,AI,AR,<- Bo]at h;intro hm;have e3:(bs.take k++b::bs.drop (k+1)).take k=bs.take k:=by rw[<- e2]
 exact(BJ.mp h).2.2 _ hm _ AF rfl
def lY (ts:List Str)(bs:List (Str×Int×Int)):Prop:=ts.length+bs.length<=100/\(∀b∈bs,J3 b.1/\1<=b.2.1/\b.2.1<=64/\0<=b.2.2/\b.2.2<2^b.2.1.toNat)/\(ts++bs.map (·.1)).Nodup
abbrev ZcT:DO:=λds M Q=>FF ds λx y=>∃bs:List (Str×Int×Int),Bf M x=some (bs.map E2)/\NS M y λp ts=>lY ts bs/\∀q,M q=none->Q (.ref q) (put (put M p (.dic (Gj (ts++bs.map (·.1))))) q (.dic (Fd (bs.map λb=>(b.1,b.2.1)))))
theorem ZcX:Od T T.x40 3 ZcT:=by
 refine CI.p2 T.x40.d.F ["boxes", "taken", "widths", "name", "width", "first"] λx y M Q hr nN h=>?_;obtain⟨bs,hl,h1⟩:=h;obtain⟨p,ts,e1',ht,⟨hb,hall,hnd⟩,q⟩:_:=ZL h1;refine⟨_,(qC (Cw 2 nN Jb) (EO (KG AK rfl (JP (qv 0)) (VN (is:=[3,4,5]) rfl (MN (LX nN rfl (BX rfl)) (MN (LX nN rfl (BX rfl)) (MN (LX nN rfl (BX rfl)) UB)))) (qC (E3 (Ay T.x38.d (kS T) nofun (qA (qv 3) (qA (qv 1) qN)))) (qC (E3 (Ay T.x2.d (kY T) nofun (qA (qv 4) qN))) (qC (E3 (Ay T.x3.d (wI T) nofun (qA (qv 4) (qA (qv 5) qN)))) (qO (VQ (J2 hr) (qv 2) (qv 3) (qv 4) rfl)))))) (qO (CC (qv 2))))),?_⟩;right;intro a ha;have hap:a≠p:=λe=>by rw[e,ht]at ha;cases ha
 have hlM:∀o o',Bf (put (put M p o) a o') x=some (bs.map E2):=λo o'=>UA (λys e=>by rw[Ds hap,ha]at e;cases e) (UA (λys e=>by rw[ht]at e;cases e) hl)
 have e0:put M a (.dic [])=put (put M p (.dic (Gj ts))) a (.dic []):=by
  funext r;unfold put;by_cases e:r=a<;>by_cases e':r=p<;>simp[e,e',ht]
 rw[e0];refine⟨λτ M'=>∃v3 v4 v5,τ=[some x,some (.ref p),some (.ref a),v3,v4,v5]/\M'=put (put M p (.dic (Gj (ts++bs.map (·.1))))) a (.dic (Fd (bs.map λb=>(b.1,b.2.1)))),?_,?_⟩
 .grind;simp only[hlM,BR];refine⟨λk τ M'=>∃v3 v4 v5,τ=[some x,some (.ref p),some (.ref a),v3,v4,v5]/\M'=put (put M p (.dic (Gj (ts++(bs.take k).map (·.1))))) a (.dic (Fd ((bs.take k).map λb=>(b.1,b.2.1)))),⟨none,none,none,rfl,by simp[Fd]⟩,?_,?_,?_⟩
  .intro k τ M';ext1⟨v3,v4,v5,e1',e2'⟩;exact hlM _ _
  .intro k d τ M' hd;ext1⟨v3,v4,v5,e1',e2'⟩;obtain⟨b,hbk,rfl⟩:=LW hd;obtain⟨⟨nm1,nm2⟩,w1,w2,f1,f2⟩:_:=hall b (Aw hbk);have et:bs.take (k+1)=bs.take k++[b]:=by rw[A8,hbk];rfl
   have hk:(bs.take k).length<=bs.length:=by rw[AY];ext
   simp only[E2];grind;have hnot:=bI hnd hbk;rw[Vw (by rw[Ds (λe=>hap e.symm),C8])];refine⟨⟨nm1,nm2,hnot,by rw[Aq,Ab];ext⟩,⟨w1,w2⟩,⟨w1,f1,f2⟩,?_⟩;rw[Ds hap,C8,VH];refine⟨BU (by unfold Fd;rw[Ab,Ab];ext),_,_,_,rfl,?_⟩;rw[oS (by rw[Bv];exact λhm=>hnot (AU _ hm)),XJ hap,et,AI,AI,<- Bo];rfl
  .intro τ M';ext1⟨v3,v4,v5,e1',e2'⟩;rw[Ab,Bc];exact⟨v3,v4,v5,rfl,rfl⟩
 .intro τ M';ext1⟨v3,v4,v5,e1',e2'⟩;grind;exact Dn.of (q a ha)
def lW (ts:List Str)(bs:List (Str×Int)):Prop:=ts.length+bs.length<=100/\(∀b∈bs,J3 b.1/\1<=b.2/\b.2<=64)/\(ts++bs.map (·.1)).Nodup
abbrev ZcS:DO:=λds M Q=>FF ds λx y=>∃bs:List (Str×Int),Bf M x=some (bs.map G1)/\NS M y λp ts=>lW ts bs/\∀q,M q=none->Q (.ref q) (put (put M p (.dic (Gj (ts++bs.map (·.1))))) q (.dic (Fd bs)))
theorem ZcW:Od T T.x41 3 ZcS:=by
 refine CI.p2 T.x41.d.F ["doors", "taken", "widths", "name", "width"] λx y M Q hr nN h=>?_;obtain⟨bs,hl,h1⟩:=h;obtain⟨p,ts,e1',ht,⟨hb,hall,hnd⟩,q⟩:_:=ZL h1;refine⟨_,(qC (Cw 2 nN Jb) (EO (KG AK rfl (JP (qv 0)) (VN (is:=[3,4]) rfl (MN (LX nN rfl (BX rfl)) (MN (LX nN rfl (BX rfl)) UB))) (qC (E3 (Ay T.x38.d (kS T) nofun (qA (qv 3) (qA (qv 1) qN)))) (qC (E3 (Ay T.x2.d (kY T) nofun (qA (qv 4) qN))) (qO (VQ (J2 hr) (qv 2) (qv 3) (qv 4) rfl))))) (qO (CC (qv 2))))),?_⟩;right;intro a ha;have hap:a≠p:=λe=>by rw[e,ht]at ha;cases ha
 have hlM:∀o o',Bf (put (put M p o) a o') x=some (bs.map G1):=λo o'=>UA (λys e=>by rw[Ds hap,ha]at e;cases e) (UA (λys e=>by rw[ht]at e;cases e) hl)
 have e0:put M a (.dic [])=put (put M p (.dic (Gj ts))) a (.dic []):=by
  funext r;unfold put;by_cases e:r=a<;>by_cases e':r=p<;>simp[e,e',ht]
 rw[e0];refine⟨λτ M'=>∃v3 v4,τ=[some x,some (.ref p),some (.ref a),v3,v4]/\M'=put (put M p (.dic (Gj (ts++bs.map (·.1))))) a (.dic (Fd bs)),?_,?_⟩
 .grind;simp only[hlM,BR];refine⟨λk τ M'=>∃v3 v4,τ=[some x,some (.ref p),some (.ref a),v3,v4]/\M'=put (put M p (.dic (Gj (ts++(bs.take k).map (·.1))))) a (.dic (Fd (bs.take k))),⟨none,none,rfl,by simp[Fd]⟩,?_,?_,?_⟩
  .intro k τ M';ext1⟨v3,v4,e1',e2'⟩;exact hlM _ _
  .intro k d τ M' hd;ext1⟨v3,v4,e1',e2'⟩;obtain⟨b,hbk,rfl⟩:=LW hd;obtain⟨⟨nm1,nm2⟩,w1,w2⟩:=hall b (Aw hbk);have et:bs.take (k+1)=bs.take k++[b]:=by rw[A8,hbk];rfl
   have hk:(bs.take k).length<=bs.length:=by rw[AY];ext
   simp only[G1];grind;have hnot:=bI hnd hbk;rw[Vw (by rw[Ds (λe=>hap e.symm),C8])];refine⟨⟨nm1,nm2,hnot,by rw[Aq,Ab];ext⟩,⟨w1,w2⟩,?_⟩;rw[Ds hap,C8,VH];refine⟨BU (by unfold Fd;rw[Ab];ext),_,_,rfl,?_⟩;rw[oS (by exact λhm=>hnot (AU _ hm)),XJ hap,et,AI,<- Bo];rfl
  .intro τ M';ext1⟨v3,v4,e1',e2'⟩;rw[Ab,Bc];exact⟨v3,v4,rfl,rfl⟩
 .intro τ M';ext1⟨v3,v4,e1',e2'⟩;grind;exact Dn.of (q a ha)
noncomputable def Kk (w:Str×Tm):D:=.tup [.str w.1,w.2.D]
def N5 (bs es:List (Str×Int))(t:Tm)(n:Int):Prop:=(t.parts<=100/\t.deep<=12)/\Wd bs es t n
structure QM (bs es:List (Str×Int))(g:Tm)(wr:List (Str×Tm)):Prop where
 g:N5 bs es g 1
 l:wr.length<=6
 w:∀w∈wr,∃n,bs.lookup w.1=some n/\N5 bs es w.2 n
 nd:(wr.map (·.1)).Nodup
def Qn (y:D)(k:List (Str×Int)->Prop):Prop:=Ck (X5 y) λAQ=>Ck (Mt AQ) k
theorem nU {y:D}{k:List (Str×Int)->Prop}(h:Qn y k):∃ws,y=.dic (Fd ws)/\k ws:=by
 obtain⟨AQ,e,h1⟩:=Ci h;obtain⟨ws,e2,q⟩:=Ci h1;rw[jO e2]at e;cases y with
 |dic ds=>cases e;exact⟨ws,rfl,q⟩
 |_=>cases e
theorem oZ :Qn (.dic (Fd ws)) k=k ws:=by unfold Qn X5;rw[BR,iN,BR]
abbrev Zff:DO:=λds M Q=>Ua ds λr y bx dx=>∃(nm:Str) (g:Tm) (wx:D) (wr:List (Str×Tm)),r=.tup [.str nm,g.D,wx]/\Bf M wx=some (wr.map Kk)/\NS M y λp ts=>Qn bx λbs=>Qn dx λes=>(J3 nm/\nm∉ts/\ts.length<=100/\QM bs es g wr)/\Q .non (put M p (.dic (Gj (ts++[nm]))))
local macro_rules | `(tactic| simp_all_arith! [$xs,*])=>`(tactic| simp_all_arith [VJ,UH,Yt,Yu,aE,VG,↓ZH,↓ZI,↓ZJ,bn,↓iA,↓iB,↓iC,oZ,$xs,*])
theorem ZfF:Od T T.x42 18 Zff:=by
 refine CI.p4 T.x42.d.F ["rule", "taken", "box_widths", "door_widths", "written", "box", "term", "width"] λx y z v M Q hr nN h=>?_;obtain⟨nm,g,wx,wr,e1',hl,h1⟩:_:=h;obtain⟨p,ts,e1',ht,h2⟩:_:=ZL h1;obtain⟨bs,rfl,h3⟩:=nU h2;obtain⟨es,e1',⟨hn,hnt,hlen,rok⟩,q⟩:_:=nU h3;refine⟨_,(qC (E3 (Ay T.x38.d (kS T) nofun (qA (Be BA (qv 0) Aj) (qA (qv 1) qN)))) (qC (E3 (Ay T.x15.d (YD T) nofun (qA (Ay T.x8.d (vR T) nofun (qA (Be BA (qv 0) Aj) (qA (qv 2) (qA (qv 3) qN)))) (qA Aj qN)))) (qC (E3 (Ay T.x36.d (bT T) nofun (qA (Be BA (qv 0) Aj) (qA (Ii T.m_MOST_WRITES) (qA BQ qN))))) (qC (Cw 4 nN Jb) (qO (KG AK rfl (JP (Be BA (qv 0) Aj)) (VN (is:=[5,6]) rfl (MN (LX nN rfl (BX rfl)) (MN (LX nN rfl (BX rfl)) UB))) (qC (Cw 7 nN (Ay T.x11.d (kZ T) nofun (qA (qv 2) (qA (qv 5) qN)))) (qC (E3 (Ay T.x39.d (wH T) nofun (qA (qv 5) (qA (qv 4) qN)))) (qC (VQ (J2 hr) (qv 4) (qv 5) T8 rfl) (qO (E3 (Ay T.x15.d (YD T) nofun (qA (Ay T.x8.d (vR T) nofun (qA (qv 6) (qA (qv 2) (qA (qv 3) qN)))) (qA (qv 7) qN)))))))))))))),?_⟩;right;rw[Vw ht];have hlM:∀o,Bf (put M p o) wx=some (wr.map Kk):=λo=>UA (λys e=>by rw[ht]at e;cases e) hl;rw[hlM,BR];refine⟨⟨hn.1,hn.2,hnt,hlen⟩,rok.g.1,1,rok.g.2,rfl,by rw[Ab];have:=rok.l;ext,λa ha=>?_⟩;generalize hM2:put M p (.dic (Gj (ts++[nm])))=M2 at ha ⊢;have hl2:Bf M2 wx=some (wr.map Kk):=by rw[<- hM2];exact hlM _
 have hl3:∀o,Bf (put M2 a o) wx=some (wr.map Kk):=λo=>UA (λys e=>by rw[ha]at e;cases e) hl2;rw[hM2]at q;rw[hl3,BR];refine⟨λk τ M'=>∃v5 v6 v7,τ=[some (D.tup [D.str nm,g.D,wx]),some (D.ref p),some (D.dic (Fd bs)),some (D.dic (Fd es)),some (D.ref a),v5,v6,v7]/\M'=put M2 a (.dic (Gj ((wr.take k).map (·.1)))),⟨none,none,none,rfl,rfl⟩,?_,?_,?_⟩
 .intro k τ M';ext1⟨v5,v6,v7,e1',e2'⟩;exact hl3 _
 .intro k d τ M' hd;ext1⟨v5,v6,v7,e1',e2'⟩;obtain⟨b,hbk,rfl⟩:=LW hd;obtain⟨n,hb,tok⟩:=rok.w b (Aw hbk);have et:wr.take (k+1)=wr.take k++[b]:=by rw[A8,hbk];rfl
  have hk:(wr.take k).length<=6:=by rw[AY];have:=rok.l;ext
  have hnot:b.1∉(wr.take k).map (·.1):=by
   have:=bI (ts:=[]) (f:=λb:Str×Tm=>b.1) (by simpa using rok.nd) hbk;simpa using this
  simp only[Kk];grind;simp only[hb,BR]
  (try grind)
  rw[nZ (mW C8)];refine⟨hnot,?_⟩;rw[pJ hnot,QH,rF,Ab];refine⟨BU (by ext),tok.1,n,tok.2,rfl,_,_,_,rfl,?_⟩;rw[et,AI];rfl
 .intro τ M';ext1⟨v5,v6,v7,e1',e2'⟩;exact QC (Sub.put ha) q
structure Wk where
 bs:List (Str×Int×Int)
 ds:List (Str×Int)
 rs:List (Str×Tm×List (Str×Tm))
noncomputable def LL (r:Str×Tm×List (Str×Tm)):D:=.tup [.str r.1,r.2.1.D,.tup (r.2.2.map Kk)]
noncomputable def Wk.D (w:Wk):D:=.tup [.tup (w.bs.map E2),.tup (w.ds.map G1),.tup (w.rs.map LL)]
noncomputable def Wk.ws (w:Wk):List (Str×Int):=w.bs.map λb=>(b.1,b.2.1)
structure Wk.Ok (w:Wk):Prop where
 b:w.bs.length<=12/\∀b∈w.bs,J3 b.1/\1<=b.2.1/\b.2.1<=64/\0<=b.2.2/\b.2.2<2^b.2.1.toNat
 d:w.ds.length<=6/\∀d∈w.ds,J3 d.1/\1<=d.2/\d.2<=64
 r:w.rs.length<=8/\∀r∈w.rs,J3 r.1/\QM w.ws w.ds r.2.1 r.2.2
 nd:(w.bs.map (·.1)++w.ds.map (·.1)++w.rs.map (·.1)).Nodup
def mN (M:Mp)(x:D)(r:Str×Tm×List (Str×Tm)):Prop:=∃wx,x=.tup [.str r.1,r.2.1.D,wx]/\Bf M wx=some (r.2.2.map Kk)
abbrev qo:DO:=λds M Q=>Je ds λx y z=>∃(w:Wk) (xs:List D),w.Ok/\Bf M x=some (w.bs.map E2)/\Bf M y=some (w.ds.map G1)/\Bf M z=some xs/\xs.length=w.rs.length/\(∀(i:Nat) x r,xs[i]? = some x->w.rs[i]? = some r->mN M x r)/\Q w.D M
theorem oy:Od T T.x35 19 qo:=by
 refine CI.p3 T.x35.d.F ["boxes", "doors", "rules", "taken", "box_widths", "door_widths", "rule"] λx y z M Q hr nN h=>?_;obtain⟨wk,xs,ok,h1,h2,h3,hlen,hr1,q⟩:_:=h;refine⟨_,(qC (E3 (Ay T.x36.d (bT T) nofun (qA (qv 0) (qA (Ii T.m_MOST_BOXES) (qA BQ qN))))) (qC (E3 (Ay T.x36.d (bT T) nofun (qA (qv 1) (qA (Ii T.m_MOST_DOORS) (qA BQ qN))))) (qC (E3 (Ay T.x36.d (bT T) nofun (qA (qv 2) (qA (Ii T.m_MOST_RULES) (qA BQ qN))))) (EO (Cw 3 nN Jb) (EO (Cw 4 nN (K9 (Ay T.x40.d (ZcX T) nofun (qA (qv 0) (qA (qv 3) qN))))) (EO (Cw 5 nN (K9 (Ay T.x41.d (ZcW T) nofun (qA (qv 1) (qA (qv 3) qN))))) (EO (KG AK rfl (JP (qv 2)) (MM (i:=6) nN rfl (BX rfl)) (qO (E3 (Ay T.x42.d (ZfF T) nofun (qA (qv 6) (qA (qv 3) (qA (qv 4) (qA (qv 5) qN)))))))) (qO (CC (CB (qA (D9 Yj T.B.tuple Is (qA (qv 0) qN)) (qA (D9 Yj T.B.tuple Is (qA (qv 1) qN)) (qA (D9 Yj T.B.tuple Is (qA (Gm (caps:=[]) ⟨rfl,by rfl,by rfl,by rfl,rfl,by rfl,by nofun⟩ rfl (JP (qv 2)) (λ_ _ _ _ _ _=>(CB (qA (Be BA (qv 0) Aj) (qA (Be BA (qv 0) Aj) (qA (D9 Yj T.B.tuple Is (qA (Be BA (qv 0) Aj) qN)) qN)))))) qN)) qN))))))))))))),?_⟩;right;rw[h1,BR,h2,BR,h3,BR];have hb:=ok.b;have hd:=ok.d;have hrr:=ok.r;have hnd:=ok.nd;refine⟨by rw[Ab];ext,by rw[Ab];ext,by ext,?_⟩;refine⟨λτ M'=>∃p,M p=none/\τ=[some x,some y,some z,some (.ref p),none,none,none]/\M'=put M p (.dic (Gj [])),?_,?_⟩
 .grind;exact λp hp=>⟨p,hp,rfl,rfl⟩
 intro τ M';ext1⟨p,hp,e1',e2'⟩;have keep:∀{x:D} {xs:List D} (o:MO),Bf M x=some xs->Bf (put M p o) x=some xs:=λo h=>UA (λys e=>by rw[hp]at e;cases e) h;refine⟨λτ M'=>τ=[some x,some y,some z,some (.ref p),some (.dic (Fd wk.ws)),none,none]/\M'=put M p (.dic (Gj (wk.bs.map (·.1)))),?_,?_⟩
 .grind;refine⟨wk.bs,keep _ h1,?_⟩;rw[Vw C8];refine⟨⟨by simp;ext,hb.2,by rw[Bo]at hnd;simpa using(BJ.mp hnd).1⟩,λa ha=>?_⟩;rw[QH,C8];dsimp only
  have ha':put M p (.dic (Gj ([]++wk.bs.map (·.1)))) a=none:=by
   have hap:a≠p:=λe=>by rw[e,C8]at ha;cases ha
   rw[Ds hap]at ha ⊢;exact ha
  rw[Ti ha',FI];exact⟨rfl,rfl⟩
 rintro τ M' ⟨rfl,rfl⟩;refine⟨λτ M'=>τ=[some x,some y,some z,some (.ref p),some (.dic (Fd wk.ws)),some (.dic (Fd wk.ds)),none]/\M'=put M p (.dic (Gj (wk.bs.map (·.1)++wk.ds.map (·.1)))),?_,?_⟩
 .grind;refine⟨wk.ds,keep _ h2,?_⟩;rw[Vw C8];refine⟨⟨by simp;ext,hd.2,(BJ.mp hnd).1⟩,λa ha=>?_⟩;rw[QH,C8];dsimp only
  have ha':put M p (.dic (Gj (wk.bs.map (·.1)++wk.ds.map (·.1)))) a=none:=by
   have hap:a≠p:=λe=>by rw[e,C8]at ha;cases ha
   rw[Ds hap]at ha ⊢;exact ha
  rw[Ti ha'];exact⟨rfl,rfl⟩
 rintro τ M' ⟨rfl,rfl⟩;refine⟨λτ M'=>∃v6,τ=[some x,some y,some z,some (.ref p),some (.dic (Fd wk.ws)),some (.dic (Fd wk.ds)),v6]/\M'=put M p (.dic (Gj (wk.bs.map (·.1)++wk.ds.map (·.1)++wk.rs.map (·.1)))),?_,?_⟩
 .grind;rw[keep _ h3,BR];refine⟨λk τ M'=>∃v6,τ=[some x,some y,some z,some (.ref p),some (.dic (Fd wk.ws)),some (.dic (Fd wk.ds)),v6]/\M'=put M p (.dic (Gj (wk.bs.map (·.1)++wk.ds.map (·.1)++(wk.rs.take k).map (·.1)))),⟨none,rfl,by simp⟩,?_,?_,?_⟩
  .rintro k τ M' ⟨v6,rfl,rfl⟩;exact keep _ h3
  .rintro k d τ M' hdk ⟨v6,rfl,rfl⟩;have hk:k<wk.rs.length:=by rw[<- hlen];exact(Ah.mp hdk).1
   have hrk:=Af hk;generalize wk.rs[k]=r at hrk;obtain⟨wx,rfl,hwx⟩:=hr1 k d r hdk hrk;obtain⟨nok,rok⟩:=hrr.2 r (Aw hrk);have et:wk.rs.take (k+1)=wk.rs.take k++[r]:=by rw[A8,hrk];rfl
   have hkl:(wk.rs.take k).length<=8:=by rw[AY];ext
   have hnot:=bI (f:=λb:Str×Tm×List (Str×Tm)=>b.1) hnd hrk;grind;refine⟨r.1,r.2.1,wx,r.2.2,rfl,keep _ hwx,?_⟩;rw[Vw C8];refine⟨⟨nok,hnot,by simp;ext,rok⟩,some (.tup [.str r.1,r.2.1.D,wx]),rfl,?_⟩;rw[QH,et,AI,<- Bo];rfl
  .rintro τ M' ⟨v6,rfl,rfl⟩;rw[hlen,Bc];exact⟨v6,rfl,rfl⟩
 rintro τ M' ⟨v6,rfl,rfl⟩;grind;rw[ZO (keep _ h1),BR,ZO (keep _ h2),BR,keep _ h3,BR];have hsub:=Sub.put (o:=.dic (Gj (wk.bs.map (·.1)++wk.ds.map (·.1)++wk.rs.map (·.1)))) hp;have h3':=keep (.dic (Gj (wk.bs.map (·.1)++wk.ds.map (·.1)++wk.rs.map (·.1)))) h3
 have hr2:∀(i:Nat) x r,xs[i]? = some x->wk.rs[i]? = some r->mN (put M p (.dic (Gj (wk.bs.map (·.1)++wk.ds.map (·.1)++wk.rs.map (·.1))))) x r:=λi x r hx hr=>by
  obtain⟨wx,e,hw⟩:=hr1 i x r hx hr;exact⟨wx,e,keep _ hw⟩
 generalize put M p (.dic (Gj (wk.bs.map (·.1)++wk.ds.map (·.1)++wk.rs.map (·.1))))=Mx at hsub h3' hr2 ⊢;refine⟨GD (by ext),λi ys M''=>M''=Mx/\ys=(wk.rs.take i).map LL,⟨rfl,rfl⟩,?_,?_,?_⟩
 .rintro i ys M'' ⟨rfl,rfl⟩;exact⟨h3',by rw[Ab,AY];ext⟩
 .rintro i d ys M'' hdi ⟨rfl,rfl⟩;have hi:i<wk.rs.length:=by rw[<- hlen];exact(Ah.mp hdi).1
  have hri:=Af hi;generalize wk.rs[i]=r at hri;obtain⟨wx,rfl,hwx⟩:=hr2 i d r hdi hri;walk_at "cap";rw[ZO hwx,BR];rw[A8,hri,AI];rfl
 .rintro ys M'' ⟨rfl,rfl⟩;rw[hlen,Bc];exact QC hsub q
noncomputable def DK (z:Str)(r:Str×Tm×List (Str×Tm)):Bool:=decide (r.1=z)
abbrev xz:DO:=λds M Q=>FF ds λx y=>Gb y λz=>∃(wk:Wk) (r:Str×Tm×List (Str×Tm)),x=wk.D/\wk.rs.find? (DK z)=some r/\Q (LL r) M
theorem UL:Od T T.x43 1 xz:=by
 refine CI.p2 T.x43.d.F ["works", "name", "rule"] λx y M Q hr nN h1=>?_;obtain⟨z,e1',wk,r,e2',hf,q⟩:_:=D4 h1;refine⟨_,(EO (KG AK rfl (QD (Be BA (qv 0) Aj)) (MM (i:=2) nN rfl (BX rfl)) (qO (Ez (AX CO (Be BA (qv 2) Aj) (qv 1)) (qO (CC (qv 2))) qE))) (qO O4)),?_⟩
 (try simp only[MC,Mz,MA])
 refine⟨λ_ _=>False,?_,λ_ _ h=>h.elim⟩;simp only[Wk.D];grind;refine⟨λk τ M'=>∃v,τ=[some (.tup [.tup (wk.bs.map E2),.tup (wk.ds.map G1),.tup (wk.rs.map LL)]),some (.str z),v]/\M'=M/\(wk.rs.drop k).find? (DK z)=some r,⟨none,rfl,rfl,hf⟩,λ_ _ _ _=>trivial,?_,?_⟩
 .intro k d τ M' hd;ext1⟨v,e1',e2',hk⟩;obtain⟨r',hr',rfl⟩:=LW hd
  have e:wk.rs.drop k=r'::wk.rs.drop (k+1):=by
   obtain⟨hkl,e⟩:=Ah.mp hr';rw[<- e];exact Gq hkl
  rw[e,Cn]at hk;simp only[LL];grind;refine Cz (λc=>?_) λc=>?_
  .rw[show DK z r'=true from decide_eq_true c]at hk;cases hk;exact Dn.of q
  .rw[show DK z r'=false from decide_eq_false c]at hk;exact⟨_,rfl,hk⟩
 .intro τ M';ext1⟨v,e1',e2',hk⟩;rw[Ab,Ka]at hk;cases hk
abbrev Zf8:DO:=λds M Q=>GG ds λx=>∃wk:Wk,x=wk.D/\wk.Ok/\Q (.lst (wk.rs.map λr=>.str r.1)) M
theorem bV:Od T T.x44 1 Zf8:=by
 refine CI.p1 T.x44.d.F ["works"] λx M Q hr nN h=>?_;obtain⟨wk,rfl,ok,q⟩:=h;refine⟨_,(qO (CC (Gm (caps:=[]) ⟨rfl,by rfl,by rfl,by rfl,rfl,by rfl,by nofun⟩ rfl (QD (Be BA (qv 0) Aj)) (λ_ _ _ _ _ _=>(Be BA (qv 0) Aj))))),?_⟩;simp only[Wk.D];have hr8:=ok.r.1;right;refine EL.of (ks:=wk.rs) (g:=LL) (f:=λr=>.str r.1) (GD (by ext)) trivial (λb hb R r=>?_) ?_
 .simp only[LL];walk_at "cap";exact r
 exact Dn.of q
theorem vC:∀(ps acc:List (B4×D)),((acc++ps).map (·.1)).Nodup->IC acc ps=acc++ps
 |[],acc,_=>by rw[CH];rfl
 |p::ps,acc,h=>by
  have hn:Hj acc p.1 p.2=acc++[p]:=by
   unfold Hj;rw[if_neg];intro hc;rw[C4]at hc;obtain⟨kv,hkv,he⟩:=hc;rw[AI,Fk]at h;exact h.2.2 kv.1 (An.mpr ⟨kv,hkv,rfl⟩) p.1 (by simp) (of_decide_eq_true he)
  have ih:=vC ps (acc++[p]) (by rw[Bo];exact h);unfold IC at ih ⊢;rw[DL,hn,ih,Bo];rfl
theorem bH (ps)(h:(ps.map (·.1)).Nodup):IC [] ps=ps:=vC ps [] h
theorem jV (ws)(h:(ws.map (·.1)).Nodup):((Fd ws).map (·.1)).Nodup:=by
 unfold Fd;rw[Bv];have:E4 ((λx:B4×D=>x.1) ∘ λp:Str×Int=>((.inr p.1:B4),D.int p.2)) ws=(ws.map (·.1)).map Fx:=by rw[Bv];rfl
 rw[this];unfold Et at h ⊢;rw[Cj];exact h.imp λhab e=>hab (DI e)
abbrev Υ:DO:=λds M Q=>GG ds λx=>∃wk:Wk,x=wk.D/\wk.Ok/\Q (.tup [.dic (Fd wk.ws),.dic (Fd wk.ds)]) M
theorem ZgG:Od T T.x45 1 Υ:=by
 refine CI.p1 T.x45.d.F ["works"] λx M Q hr nN h=>?_;obtain⟨wk,rfl,ok,q⟩:=h;refine⟨_,(qO (CC (CB (qA (D9 (aN rfl) T.B.dict LA (qA (Gm (caps:=[]) ⟨rfl,by rfl,by rfl,by rfl,rfl,by rfl,by nofun⟩ rfl (QD (Be BA (qv 0) Aj)) (λ_ _ _ _ _ _=>(CB (qA (Be BA (qv 0) Aj) (qA (Be BA (qv 0) Aj) qN))))) qN)) (qA (D9 (aN rfl) T.B.dict LA (qA (Gm (caps:=[]) ⟨rfl,by rfl,by rfl,by rfl,rfl,by rfl,by nofun⟩ rfl (QD (Be BA (qv 0) Aj)) (λ_ _ _ _ _ _=>(CB (qA (Be BA (qv 0) Aj) (qA (Be BA (qv 0) Aj) qN))))) qN)) qN))))),?_⟩;simp only[Wk.D];have hb:=ok.b.1;have hd:=ok.d.1
 have n1:(wk.ws.map (·.1)).Nodup:=by
  have:=ok.nd;rw[Bo,Fk]at this;have e:wk.ws.map (·.1)=wk.bs.map (·.1):=by unfold Wk.ws;rw[Bv];rfl
  rw[e];exact this.1
 have n2:(wk.ds.map (·.1)).Nodup:=by
  have:=ok.nd;rw[Fk]at this;exact(BJ.mp this.1).2.1
 right;refine EL.of (ks:=wk.bs) (g:=E2) (f:=λb=>.tup [.str b.1,.int b.2.1]) (GD (by ext)) trivial (λb hb R r=>?_) ?_
 .simp only[E2];walk_at "cap";exact r
 refine⟨Fd wk.ws,?_,GD (by unfold Fd Wk.ws;rw[Ab,Ab];ext),?_⟩
 .simp[Bf,GZ,Fd,Wk.ws,kD]
 rw[bH _ (jV _ n1)]
 (try grind)
 refine EL.of (ks:=wk.ds) (g:=G1) (f:=λb=>.tup [.str b.1,.int b.2]) (GD (by ext)) trivial (λb hb R r=>?_) ?_
 .simp only[G1];walk_at "cap";exact r
 refine⟨Fd wk.ds,?_,GD (by unfold Fd;rw[Ab];ext),?_⟩
 .simp[Bf,GZ,Fd,kD]
 rw[bH _ (jV _ n2)];exact Dn.of q
theorem qV (hp:M p=none)(h:Bf M x=some xs):Bf (put M p o) x=some xs:=by
 cases x with
 |ref q=>
  have hq:q≠p:=λe=>by subst e;simp[Bf,hp]at h
  unfold Bf at h ⊢;simp only[Ds hq];exact h
 |_=>exact h
theorem j1 (hp:M p=none)(h:D5 M x=some AQ):D5 (put M p o) x=some AQ:=by
 cases x with
 |ref q=>
  have hq:q≠p:=λe=>by subst e;simp[D5,hp]at h
  unfold D5 at h ⊢;simp only[Ds hq];exact h
 |_=>exact h
noncomputable def gQ (s z:Str)(w:Int)(k:Nat):D:=.tup [.str s,.str z,.int (w-1-k)]
noncomputable def Kv (s z:Str)(w:Int):List D:=(Bp w.toNat).map (gQ s z w)
noncomputable def EG (s:Str)(ws:List (Str×Int))(ss:List Str):List D:=ss.flatMap λz=>Kv s z ((ws.lookup z).getD 0)
theorem tM (h:∀z∈ss,∃w,ws.lookup z=some w/\1<=w/\w<=64):(EG s ws ss).length<=ss.length*64:=by
 induction ss with
 |nil=>exact Ef _
 |cons z ss ih=>obtain⟨w,e,h1,h2⟩:=h z AF;have:=ih λz hz=>h z (AE _ hz);unfold EG at this ⊢;rw[List.flatMap_cons,Aq,e,AO,Kv,Ab,B9];simp only[Option.getD_some];ext
abbrev Zfm:DO:=λds M Q=>Je ds λx y z=>Gb x λs=>∃(ss:List Str) (ws:List (Str×Int)),Bf M y=some (ss.map D.str)/\D5 M z=some (Fd ws)/\ss.length<=12/\(∀z∈ss,∃w,ws.lookup z=some w/\1<=w/\w<=64)/\∀p,M p=none->Q (.ref p) (put M p (.lst (EG s ws ss)))
theorem V3:Od T T.x49 1 Zfm:=by
 refine CI.p3 T.x49.d.F ["sort", "names", "widths", "bits", "name"] λx y z M Q hr nN h1=>?_;obtain⟨so,e1',ss,ws,hy,hz,l12,hw,q⟩:_:=D4 h1;refine⟨_,(qC (Cw 3 nN (Jv qN)) (EO (KG AK rfl (JP (qv 1)) (MM (i:=4) nN rfl (G4 rfl)) (qO (E3 (JX AN Ct Cr Se (qv 3) (qA (Gm (caps:=[("sort",0),("name",4)]) ⟨rfl,by rfl,by rfl,by rfl,rfl,by rfl,by nofun⟩ rfl (xf T.B.range (qA (BC ML (Fg (J2 hr) (qv 2) (qv 4) (λ_ _=>rfl)) Aj) (qA (Q6 ZP Aj) (qA (Q6 ZP Aj) qN)))) (λ_ _ _ _ _ _=>(CB (qA (qv 1) (qA (qv 2) (qA (qv 0) qN)))))) qN))))) (qO (CC (qv 3))))),?_⟩;right;intro p hp;refine⟨λτ M'=>∃v4,M'=put M p (.lst (EG so ws ss))/\τ=[some (.str so),some y,some z,some (.ref p),v4],?_,?_⟩
 .grind;rw[qV hp hy,BR];refine⟨λk τ M'=>∃v4,M'=put M p (.lst (EG so ws (ss.take k)))/\τ=[some (.str so),some y,some z,some (.ref p),v4],⟨none,rfl,rfl⟩,λ_ _ _ ⟨_,h,_⟩=>(by rw[h];exact qV hp hy),?_,?_⟩
  .rintro k d τ M' hd ⟨v4,rfl,rfl⟩;obtain⟨nm,hn,rfl⟩:=LW hd;obtain⟨wd,hl,w1,w64⟩:=hw nm (Aw hn);grind;rw[j1 hp hz,BR,jN,hl,GS,BR];grind
   have rn:Py (wd-1) (-1)=wd.toNat:=by
    unfold Py;rw[if_pos (by ext)];ext
   have lt:=tM (s:=so) (ss:=ss.take k) λz hz=>hw z (Gh hz);rw[AY]at lt;have k12:=(Ah.mp hn).1;refine⟨⟨by ext,by ext⟩,?_⟩;rw[rn];unfold MD;refine EL.of (f:=λk:Nat=>gQ so nm wd k) (GD (by rw[B9];ext)) trivial (λi hi R q2=>?_) ?_
   .walk_at "cap";unfold gQ at q2;rw[show wd-1+(i:Int)*-1=wd-1-i by ext];exact q2
   .rw[gW];refine⟨GD (by rw[Ab,B9];ext),_,?_,rfl⟩;unfold EG;rw[A8,hn,OR];simp[hl,Kv]
  .rintro τ M' ⟨v4,rfl,rfl⟩;rw[Ab,Bc];exact⟨v4,rfl,rfl⟩
 rintro τ M' ⟨v4,rfl,rfl⟩;grind;exact Dn.of (q p hp)
abbrev wj:DO:=λds M Q=>FF ds λx y=>∃xs ys:List Str,Bf M x=some (xs.map D.str)/\Bf M y=some (ys.map D.str)/\xs.length<=12/\ys.length<=12/\Q (.lst ((Kz xs ys).map D.str)) M
theorem aZ:Od T T.x47 1 wj:=by
 refine CI.p2 T.x47.d.F ["names", "others"] λx y M Q hr nN h=>?_;obtain⟨xs,ys,hx,hy,l1,l2,q⟩:_:=h;refine⟨_,(qO (CC (XI (.inl rfl) rfl T.B.sorted T.B.set (qv 0) (qv 1)))),?_⟩;have sb:(30:Nat)<Bg:=by decide
 have f1:=Uv xs;have f2:=Uv ys;right;rw[hx,BR,O5,BR];refine⟨by ext,by ext,?_⟩
 (try grind)
 rw[hy,BR,O5,BR];refine⟨by ext,by ext,?_⟩
 (try grind)
 rw[show RQ .BitAnd xs ys=Kz xs ys from if_pos rfl];exact Dn.of q
abbrev μ:DO:=λds M Q=>FF ds λx y=>∃xs ys:List Str,Bf M x=some (xs.map D.str)/\Bf M y=some (ys.map D.str)/\xs.length<=12/\ys.length<=12/\Q (.lst ((Lh xs ys).map D.str)) M
theorem vQ:Od T T.x48 1 μ:=by
 refine CI.p2 T.x48.d.F ["names", "others"] λx y M Q hr nN h=>?_;obtain⟨xs,ys,hx,hy,l1,l2,q⟩:_:=h;refine⟨_,(qO (CC (XI (.inr rfl) rfl T.B.sorted T.B.set (qv 0) (qv 1)))),?_⟩;have sb:(30:Nat)<Bg:=by decide
 have f1:=Uv xs;have f2:=Uv ys;right;rw[hx,BR,O5,BR];refine⟨by ext,by ext,?_⟩
 (try grind)
 rw[hy,BR,O5,BR];refine⟨by ext,by ext,?_⟩
 (try grind)
 rw[show RQ .BitXor xs ys=Lh xs ys from if_neg (by decide)];exact Dn.of q
theorem Tm.leaf_kid {t l:Tm}(hk:t.kids≠[])(h:l∈t.leaves):∃k∈t.kids,l∈k.leaves:=by
 cases t<;>simp[Tm.kids,Tm.leaves]at hk h ⊢
 .exact h
 .exact h
 .exact h
 .exact h
theorem Wd.leaf {w:Int}(h:Wd bs es t w):∀l∈t.leaves,∃a,Wd bs es l a:=by
 induction h with
 |num h=>intro l hl;cases AL.mp hl;exact⟨_,.num h⟩
 |box h=>intro l hl;cases AL.mp hl;exact⟨_,.box h⟩
 |late h=>intro l hl;cases AL.mp hl;exact⟨_,.late h⟩
 |door h=>intro l hl;cases AL.mp hl;exact⟨_,.door h⟩
 | @over t ws w hk ho ih=>
  intro l hl;obtain⟨e1,e2⟩:=Tm.over_len ho;obtain⟨k,mk,lk⟩:=Tm.leaf_kid e2 hl;obtain⟨i,hi,hik⟩:=List.getElem_of_mem mk;have hi2:i<ws.length:=by ext
  exact ih i k ws[i] (by rw[Af hi,hik]) (Af hi2) l lk
theorem Uz:∀(xs ys:List Str),xs.Nodup->(∀x∈xs,x∈ys)->xs.length<=ys.length
 |[],_,_,_=>Ef _
 |x::xs,ys,nd,h=>by
  rw[Eg]at nd;have:=Uz xs (ys.erase x) nd.2 λy hy=>(List.mem_erase_of_ne (by rintro rfl;exact nd.1 hy)).mpr (h y (AE _ hy));rw[List.length_erase_of_mem (h x AF)]at this;have:=List.length_pos_of_mem (h x AF);rw[AO];ext
theorem Gr :x∈Iz xs↔x∈xs:=by
 unfold Iz;rw[Pq];exact Uu xs x
theorem Sg (xs):(Iz xs).Nodup:=(DX _ _).nodup_iff.mpr (X7 xs)
theorem VU {xs zs:List Str}(h:∀x∈xs,x∈zs):(Iz xs).length<=zs.length:=Uz _ _ (Sg xs) λx hx=>h x (Gr.mp hx)
theorem VZ {ws:List (Str×Int)}(h:ws.lookup x=some n):x∈ws.map (·.1):=by
 induction ws with
 |nil=>cases h
 |cons p ws ih=>
  rw[Bs]at h;split at h
  .next e=>exact A3.mpr (.inl (eq_of_beq e))
  .exact AE _ (ih h)
theorem uJ {w:Int}(h:Wd bs es t w)(hx:x∈t.names "box"\/x∈t.names "late"):∃n,bs.lookup x=some n:=by
 rcases hx with hx|hx<;>(
  obtain⟨l,hl,hn⟩:=CL.mp hx;obtain⟨a,ha⟩:=h.leaf l hl;have lk:=t.leaves_kids l hl;cases ha with
  |num _=>simp[Tm.nameOf]at hn
  |box e=>simp[Tm.nameOf]at hn;(try obtain⟨_,rfl⟩:=hn);(try subst hn);exact⟨_,e⟩
  |late e=>simp[Tm.nameOf]at hn;(try obtain⟨_,rfl⟩:=hn);(try subst hn);exact⟨_,e⟩
  |door e=>simp[Tm.nameOf,kM,lD]at hn
  | over _ ho=>exact absurd lk (Tm.over_len ho).2)
theorem yx {w:Int}(h:Wd bs es t w)(hx:x∈t.names "door"):∃n,es.lookup x=some n:=by
 obtain⟨l,hl,hn⟩:=CL.mp hx;obtain⟨a,ha⟩:=h.leaf l hl;have lk:=t.leaves_kids l hl;cases ha with
 |num _=>simp[Tm.nameOf]at hn
 |box e=>simp[Tm.nameOf,kN]at hn
 |late e=>simp[Tm.nameOf,lB]at hn
 |door e=>simp[Tm.nameOf]at hn;(try obtain⟨_,rfl⟩:=hn);(try subst hn);exact⟨_,e⟩
 |over _ ho=>exact absurd lk (Tm.over_len ho).2
theorem aP {wk:Wk}(ok:wk.Ok)(h:wk.rs.find? (DK z)=some r):r∈wk.rs/\QM wk.ws wk.ds r.2.1 r.2.2:=by
 have hm:=DB h;exact⟨hm,(ok.r.2 r hm).2⟩
noncomputable def Hb (g:Tm):List Str:=Iz (g.names "box")
noncomputable def MH (g:Tm):List Str:=Iz (g.names "late")
noncomputable def GK (g:Tm):List Str:=Iz (g.names "door")
noncomputable def R6 (ws ds:List (Str×Int))(g1 g2:Tm):List D:=
 EG "box" ws (Kz (Hb g1) (Hb g2))++EG "door" ds (Kz (GK g1) (GK g2))++EG "box" ws (Lh (Hb g1) (Hb g2))++EG "door" ds (Lh (GK g1) (GK g2))++EG "one" ws (MH g1)++EG "other" ws (MH g2)
structure Fa (wk:Wk)(g:Tm):Prop where
 t:g.deep<=12/\g.parts<=100
 b:∀x,x∈g.names "box"\/x∈g.names "late"->x∈wk.ws.map (·.1)/\∃n,wk.ws.lookup x=some n/\1<=n/\n<=64
 d:∀x∈g.names "door",x∈wk.ds.map (·.1)/\∃n,wk.ds.lookup x=some n/\1<=n/\n<=64
 l:(Hb g).length<=12/\(MH g).length<=12/\(GK g).length<=12
theorem sG {ws:List (Str×Int)}(h:ws.lookup x=some n):(x,n)∈ws:=by
 induction ws with
 |nil=>cases h
 |cons p ws ih=>
  rw[Bs]at h;split at h
  .next e=>cases h;rw[eq_of_beq e];exact AF
  .exact AE _ (ih h)
theorem Fa.of {wk:Wk}(ok:wk.Ok){g:Tm}(h:N5 wk.ws wk.ds g 1):Fa wk g:=by
 have hb:∀x,x∈g.names "box"\/x∈g.names "late"->x∈wk.ws.map (·.1)/\∃n,wk.ws.lookup x=some n/\1<=n/\n<=64:=λx hx=>by
  obtain⟨n,e⟩:=uJ h.2 hx;refine⟨VZ e,n,e,?_⟩;have:=sG e;unfold Wk.ws at this;obtain⟨b,hb,e2⟩:=An.mp this;cases e2;exact⟨(ok.b.2 b hb).2.1,(ok.b.2 b hb).2.2.1⟩
 have hd:∀x∈g.names "door",x∈wk.ds.map (·.1)/\∃n,wk.ds.lookup x=some n/\1<=n/\n<=64:=λx hx=>by
  obtain⟨n,e⟩:=yx h.2 hx;exact⟨VZ e,n,e,(ok.d.2 _ (sG e)).2⟩
 have l1:=ok.b.1;have l2:=ok.d.1;have lw:(wk.ws.map (·.1)).length<=12:=by unfold Wk.ws;rw[Ab,Ab];exact l1
 have ld:(wk.ds.map (·.1)).length<=12:=by rw[Ab];ext
 exact⟨⟨h.1.2,h.1.1⟩,hb,hd,AZ (VU λx hx=>(hb x (.inl hx)).1) lw,AZ (VU λx hx=>(hb x (.inr hx)).1) lw,AZ (VU λx hx=>(hd x hx).1) ld⟩
theorem Fa.few (h:Fa wk g):∀f,HF f->(fm (g.names f)).length<64:=by
 obtain⟨l1,l2,l3⟩:=h.l;unfold Hb at l1;unfold MH at l2;unfold GK at l3;rw[jL]at l1 l2 l3;rintro f (rfl|rfl|rfl)<;>ext
def UM (M:Mp)(g:Tm)(v:D):Prop:=∃a0 a1 a2,v=.tup [.ref a0,.ref a1,.ref a2]/\M a0=some (Mm "box" g)/\M a1=some (Mm "late" g)/\M a2=some (Mm "door" g)
theorem UM.sub (h:UM M g v)(s:Sub M M'):UM M' g v:=by
 obtain⟨a0,a1,a2,e,h0,h1,h2⟩:=h;exact⟨a0,a1,a2,e,s _ _ h0,s _ _ h1,s _ _ h2⟩
theorem pE (m0:M p0=none)(m1:M p1=none)(m2:M p2=none)(n1:¬p1=p0)(n2:¬p2=p0)(n3:¬p2=p1):Sub M (put (put (put M p0 (Mm "box" g)) p1 (Mm "late" g)) p2 (Mm "door" g))/\UM (put (put (put M p0 (Mm "box" g)) p1 (Mm "late" g)) p2 (Mm "door" g)) g (.tup [.ref p0,.ref p1,.ref p2]):=by
 refine⟨Sub.puts (Sub.puts (Sub.put m0) m1) m2,p0,p1,p2,rfl,?_,?_,?_⟩
 .rw[Ds (Bj n2),Ds (Bj n1),C8]
 .rw[Ds (Bj n3),C8]
 .rw[C8]
theorem VY (l:ss.length<=12)(h:∀z∈ss,∃w,ws.lookup z=some w/\1<=w/\w<=64):(EG s ws ss).length<=768:=by
 have:=tM (s:=s) h;ext
theorem Ix {M:Mp}{p:Av}{xs:List D}(h:M p=some (.lst xs)):MZ M (.ref p)=some "list":=Vo h
theorem pS (h:M p=some (.lst xs))(hy:Bf M y=some ys):F9 (.ref p) [y] M Q=(xs.length+ys.length<=Am/\Q .non (put M p (.lst (xs++ys)))):=by
 unfold F9;rw[QB,ZG,h];simp only[hy,BR]
theorem t0 {M2 M3:Mp}(hs:Sub M2 M3)(hp:M2 p=none)(h:M3 p=some (.lst row))(hp':M3 p'=none)(h1:row.length<=5000)(h2:bs.length<=768)(q:∀M4,Sub M2 M4->M4 p=some (.lst (row++bs))->Q .non M4):F9 (.ref p) [.ref p'] (put M3 p' (.lst bs)) Q:=by
 have hM2:M2 p'=none:=by
  cases e:M2 p' with
  |none=>rfl
  |some o=>rw[hs p' o e]at hp';cases hp'
 have ne:p≠p':=λe=>by rw[e,hp']at h;cases h
 rw[pS (by rw[Ds ne];exact h) (OB C8)];have:(6000:Nat)<=Am:=by decide
 exact⟨by ext,q _ (Sub.puts (Sub.puts hs hM2) hp) C8⟩
section
variable (wk:Wk)(g1 g2:Tm)
noncomputable abbrev nH:=EG "box" wk.ws (Kz (Hb g1) (Hb g2))
noncomputable abbrev nG:=nH wk g1 g2++EG "door" wk.ds (Kz (GK g1) (GK g2))
noncomputable abbrev nF:=nG wk g1 g2++EG "box" wk.ws (Lh (Hb g1) (Hb g2))
noncomputable abbrev nE:=nF wk g1 g2++EG "door" wk.ds (Lh (GK g1) (GK g2))
noncomputable abbrev nA:=nE wk g1 g2++EG "one" wk.ws (MH g1)
noncomputable abbrev yD:=nA wk g1 g2++EG "other" wk.ws (MH g2)
end
noncomputable abbrev sQ (wk:Wk)(a b:Str)(u v x:Option D:=none):Gu:=[some wk.D,some (.str a),some (.str b),some (.tup [.dic (Fd wk.ws),.dic (Fd wk.ds)]),u,v,x]
abbrev UV (M2 M:Mp)(p:Av)(row:List D)(n:Nat):Prop:=Sub M2 M/\M2 p=none/\M p=some (.lst row)/\row.length<=n
abbrev O9 (wk:Wk)(a b:Str)(a0 a1 a2 b0 b1 b2:Av)(M2:Mp)(row:List D)(n:Nat)(τ:Gu)(M:Mp):Prop:=∃p,UV M2 M p row n/\τ=sQ wk a b (some (.tup [.ref a0,.ref a1,.ref a2])) (some (.tup [.ref b0,.ref b1,.ref b2])) (some (.ref p))
theorem Yh {M2 M3:Mp}(j:UV M2 M3 p row n)(hn:n<=5000)(hp':M3 p'=none)(h2:bs.length<=768)(q:∀M4,UV M2 M4 p (row++bs) (n+768)->Q .non M4):F9 (.ref p) [.ref p'] (put M3 p' (.lst bs)) Q:=t0 j.1 j.2.1 j.2.2.1 hp' (AZ j.2.2.2 hn) h2 λM4 h h'=>q M4 ⟨h,j.2.1,h',by rw[Aq];exact Nat.add_le_add j.2.2.2 h2⟩
abbrev Zfn:DO:=λds M Q=>Je ds λx y z=>Gb y λa=>Gb z λb=>∃(wk:Wk) (r1 r2:Str×Tm×List (Str×Tm)),x=wk.D/\wk.Ok/\wk.rs.find? (DK a)=some r1/\wk.rs.find? (DK b)=some r2/\∀p,M p=none->Q (.ref p) (put M p (.lst (R6 wk.ws wk.ds r1.2.1 r2.2.1)))
theorem ZfI:Od T T.x46 17 Zfn:=by
 refine CI.p3 T.x46.d.F ["works", "one", "other", "widths", "mine", "yours", "row"] λx y z M Q hr nN h1=>?_;obtain⟨a,rfl,h2⟩:=D4 h1;obtain⟨b,e1',wk,r1,r2,e2',ok,f1,f2,q⟩:_:=D4 h2;have o1:=(aP ok f1).2.g;have o2:=(aP ok f2).2.g;refine⟨_,(EO (Cw 3 nN (Ay T.x45.d (ZgG T) nofun (qA (qv 0) qN))) (EO (Cw 4 nN (Ay T.x17.d (bC T) nofun (qA (Be BA (Ay T.x43.d (UL T) nofun (qA (qv 0) (qA (qv 1) qN))) Aj) qN))) (EO (Cw 5 nN (Ay T.x17.d (bC T) nofun (qA (Be BA (Ay T.x43.d (UL T) nofun (qA (qv 0) (qA (qv 2) qN))) Aj) qN))) (EO (Cw 6 nN (Ay T.x49.d (V3 T) nofun (qA BQ (qA (Ay T.x47.d (aZ T) nofun (qA (Be BA (qv 4) Aj) (qA (Be BA (qv 5) Aj) qN))) (qA (Be BA (qv 3) Aj) qN))))) (EO (E3 (JX AN Ct Cr Se (qv 6) (qA (Ay T.x49.d (V3 T) nofun (qA BQ (qA (Ay T.x47.d (aZ T) nofun (qA (Be BA (qv 4) Aj) (qA (Be BA (qv 5) Aj) qN))) (qA (Be BA (qv 3) Aj) qN)))) qN))) (EO (E3 (JX AN Ct Cr Se (qv 6) (qA (Ay T.x49.d (V3 T) nofun (qA BQ (qA (Ay T.x48.d (vQ T) nofun (qA (Be BA (qv 4) Aj) (qA (Be BA (qv 5) Aj) qN))) (qA (Be BA (qv 3) Aj) qN)))) qN))) (EO (E3 (JX AN Ct Cr Se (qv 6) (qA (Ay T.x49.d (V3 T) nofun (qA BQ (qA (Ay T.x48.d (vQ T) nofun (qA (Be BA (qv 4) Aj) (qA (Be BA (qv 5) Aj) qN))) (qA (Be BA (qv 3) Aj) qN)))) qN))) (EO (E3 (JX AN Ct Cr Se (qv 6) (qA (Ay T.x49.d (V3 T) nofun (qA BQ (qA (Be BA (qv 4) Aj) (qA (Be BA (qv 3) Aj) qN)))) qN))) (EO (E3 (JX AN Ct Cr Se (qv 6) (qA (Ay T.x49.d (V3 T) nofun (qA BQ (qA (Be BA (qv 5) Aj) (qA (Be BA (qv 3) Aj) qN)))) qN))) (qO (CC (qv 6)))))))))))),?_⟩
 (try simp only[MC,Mz,MA])
 refine⟨λτ M'=>M'=M/\τ=sQ wk a b,?_,?_⟩
 .grind;exact⟨wk,rfl,ok,rfl⟩
 rintro τ M' ⟨rfl,rfl⟩;have k1:=Fa.of ok o1;have k2:=Fa.of ok o2;refine⟨λτ M1=>∃u,(Sub M' M1/\UM M1 r1.2.1 u)/\τ=sQ wk a b (some u),?_,?_⟩
 .grind;refine⟨wk,r1,rfl,f1,?_⟩;simp only[LL];grind;refine⟨k1.t.1,AZ k1.t.2 (by decide),k1.few,λp0 p1 p2 m0 m1 m2 n1 n2 n3=>?_⟩;obtain⟨h1,h2⟩:=pE (g:=r1.2.1) m0 m1 m2 n1 n2 n3;exact⟨_,⟨h1,h2⟩,rfl⟩
 intro τ M1;ext1⟨u1,⟨sb1,six1⟩,e1'⟩;refine⟨λτ M2=>∃u,(Sub M' M2/\UM M2 r1.2.1 u1/\UM M2 r2.2.1 u)/\τ=sQ wk a b (some u1) (some u),?_,?_⟩
 .grind;refine⟨wk,r2,rfl,f2,?_⟩;simp only[LL];grind;refine⟨k2.t.1,AZ k2.t.2 (by decide),k2.few,λp0 p1 p2 m0 m1 m2 n1 n2 n3=>?_⟩;obtain⟨h1,h2⟩:=pE (g:=r2.2.1) m0 m1 m2 n1 n2 n3;exact⟨_,⟨sb1.trans h1,six1.sub h1,h2⟩,rfl⟩
 intro τ M2;ext1⟨u2,⟨sb2,⟨a0,a1,a2,e1',A0,A1,A2⟩,⟨b0,b1,b2,e2',B0,B1,B2⟩⟩,e3'⟩;have mS:∀{x:Str} {xs ys:List Str},x∈Kz xs ys->x∈xs:=λh=>(Br.mp (Gr.mp h)).1;have hS:∀{xs ys:List Str},xs.length<=12->(Kz xs ys).length<=12:=λh=>AZ (VU λx hx=>(Br.mp hx).1) h
 have mU:∀{x:Str} {xs ys:List Str},x∈Lh xs ys->x∈xs\/x∈ys:=λh=>by
  rcases AT.mp (Gr.mp h)with h|h
  .exact .inr (Br.mp h).1
  .exact .inl (Br.mp h).1
 have lU1:=AZ (VU (zs:=wk.ws.map (·.1)) λx hx=>(mU (Gr.mpr hx)).elim (λh=>(k1.b _ (.inl (Gr.mp h))).1) λh=>(k2.b _ (.inl (Gr.mp h))).1) (by unfold Wk.ws;rw[Ab,Ab];exact ok.b.1);have lU2:(Lh (GK r1.2.1) (GK r2.2.1)).length<=12:=AZ (VU (zs:=wk.ds.map (·.1)) λx hx=>(mU (Gr.mpr hx)).elim (λh=>(k1.d _ (Gr.mp h)).1) λh=>(k2.d _ (Gr.mp h)).1) (by rw[Ab];have:=ok.d.1;ext);have dB:∀{g x},Fa wk g->x∈Hb g->∃n,wk.ws.lookup x=some n/\1<=n/\n<=64:=λk hx=>(k.b _ (.inl (Gr.mp hx))).2;have dL:∀{g x},Fa wk g->x∈MH g->∃n,wk.ws.lookup x=some n/\1<=n/\n<=64:=λk hx=>(k.b _ (.inr (Gr.mp hx))).2;have dD:∀{g x},Fa wk g->x∈GK g->∃n,wk.ds.lookup x=some n/\1<=n/\n<=64:=λk hx=>(k.d _ (Gr.mp hx)).2;have e0:=λz hz=>dB k1 (mS (x:=z) (xs:=Hb r1.2.1) (ys:=Hb r2.2.1) hz);have e1:=λz hz=>dD k1 (mS (x:=z) (xs:=GK r1.2.1) (ys:=GK r2.2.1) hz);have e2:=λz hz=>(mU (x:=z) (xs:=Hb r1.2.1) (ys:=Hb r2.2.1) hz).elim (dB k1) (dB k2);have e3:=λz hz=>(mU (x:=z) (xs:=GK r1.2.1) (ys:=GK r2.2.1) hz).elim (dD k1) (dD k2);refine⟨O9 wk a b a0 a1 a2 b0 b1 b2 M2 (nH wk r1.2.1 r2.2.1) 768,?_,?_⟩
 .grind;refine⟨Hb r1.2.1,Hb r2.2.1,OB A0,OB B0,k1.l.1,k2.l.1,?_⟩
  (try grind)
  exact⟨_,wk.ws,rfl,rfl,hS k1.l.1,e0,λp hp=>⟨p,⟨Sub.put hp,hp,C8,VY (hS k1.l.1) e0⟩,rfl⟩⟩
 rintro τ M3 ⟨p,j,rfl⟩;refine⟨O9 wk a b a0 a1 a2 b0 b1 b2 M2 (nG wk r1.2.1 r2.2.1) 1536,?_,?_⟩
 .grind;refine⟨Ix j.2.2.1,GK r1.2.1,GK r2.2.1,OB (j.1 _ _ A2),OB (j.1 _ _ B2),k1.l.2.2,k2.l.2.2,?_⟩
  (try grind)
  exact⟨_,wk.ds,rfl,rfl,hS k1.l.2.2,e1,λp' h=>Yh j (by decide) h (VY (hS k1.l.2.2) e1) λM4 h=>⟨p,h,rfl⟩⟩
 clear j;rintro τ M3 ⟨p,j,rfl⟩;refine⟨O9 wk a b a0 a1 a2 b0 b1 b2 M2 (nF wk r1.2.1 r2.2.1) 2304,?_,?_⟩
 .grind;refine⟨Ix j.2.2.1,Hb r1.2.1,Hb r2.2.1,OB (j.1 _ _ A0),OB (j.1 _ _ B0),k1.l.1,k2.l.1,?_⟩
  (try grind)
  exact⟨_,wk.ws,rfl,rfl,lU1,e2,λp' h=>Yh j (by decide) h (VY lU1 e2) λM4 h=>⟨p,h,rfl⟩⟩
 clear j;rintro τ M3 ⟨p,j,rfl⟩;refine⟨O9 wk a b a0 a1 a2 b0 b1 b2 M2 (nE wk r1.2.1 r2.2.1) 3072,?_,?_⟩
 .grind;refine⟨Ix j.2.2.1,GK r1.2.1,GK r2.2.1,OB (j.1 _ _ A2),OB (j.1 _ _ B2),k1.l.2.2,k2.l.2.2,?_⟩
  (try grind)
  exact⟨_,wk.ds,rfl,rfl,lU2,e3,λp' h=>Yh j (by decide) h (VY lU2 e3) λM4 h=>⟨p,h,rfl⟩⟩
 clear j;rintro τ M3 ⟨p,j,rfl⟩;refine⟨O9 wk a b a0 a1 a2 b0 b1 b2 M2 (nA wk r1.2.1 r2.2.1) 3840,?_,?_⟩
 .grind;exact⟨Ix j.2.2.1,MH r1.2.1,wk.ws,OB (j.1 _ _ A1),rfl,k1.l.2.1,λz=>dL k1,λp' h=>Yh j (by decide) h (VY k1.l.2.1 λz=>dL k1) λM4 h=>⟨p,h,rfl⟩⟩
 clear j;rintro τ M3 ⟨p,j,rfl⟩;refine⟨O9 wk a b a0 a1 a2 b0 b1 b2 M2 (yD wk r1.2.1 r2.2.1) 4608,?_,?_⟩
 .grind;exact⟨Ix j.2.2.1,MH r2.2.1,wk.ws,OB (j.1 _ _ B1),rfl,k2.l.2.1,λz=>dL k2,λp' h=>Yh j (by decide) h (VY k2.l.2.1 λz=>dL k2) λM4 h=>⟨p,h,rfl⟩⟩
 clear j;intro τ M3;ext1⟨p,⟨sb3,hp,hM,-⟩,e1'⟩;grind;refine QC (M:=put M' p (.lst (R6 wk.ws wk.ds r1.2.1 r2.2.1))) (λx o e=>?_) (q p ?_)
 .by_cases c:x=p
  .subst c;rw[C8]at e;rw[<- e];exact hM
  .rw[Ds c]at e;exact sb3 _ _ (sb2 _ _ e)
 .cases e:M' p with
  |none=>rfl
  |some o=>rw[sb2 p o e]at hp;cases hp
noncomputable def bD (b:Str×Str×Nat):D:=.tup [.str b.1,.str b.2.1,.int b.2.2]
structure KA where
 o:Av
 q:Av
 m:Av
 d:Av
 b:Av
 e:Av
 f:Av
 g:Av
def KI (s:Str):Prop:=s = "box"\/s = "door"\/s = "one"\/s = "other"
noncomputable def KA.at (A:KA)(s:Str):Av:=if s = "box" then A.b else if s = "door" then A.e else if s = "one" then A.f else A.g
noncomputable def Lk (row:List (Str×Str×Nat))(ks:List Int)(s z:Str)(w:Nat):List Int:=(Bp w).map λp=>ks.getD (row.idxOf (s,z,p)) 2
noncomputable def HK (row:List (Str×Str×Nat))(ks:List Int)(E:Str->List (Str×Nat))(s:Str):List (B4×D):=(E s).map λn=>(.inr n.1,Na (Lk row ks s n.1 n.2))
noncomputable def I8 (A:KA):List (B4×D):=[(.inr "box",.ref A.b),(.inr "door",.ref A.e),(.inr "one",.ref A.f),(.inr "other",.ref A.g)]
noncomputable def Nf (A:KA):List (Str×D):=[("row",.ref A.q),("marks",.ref A.m),("spans",.ref A.d)]
theorem oN (A:KA):BG (Ak "row") (Nf A)=some (.ref A.q):=by
 unfold Nf;rw[Bs,show((Ak "row":Str) == ("row":Str))=true by nofun]
theorem QI (A:KA):BG (Ak "marks") (Nf A)=some (.ref A.m):=by
 unfold Nf;rw[Bs,show((Ak "marks":Str) == ("row":Str))=false by nofun,Bs,show((Ak "marks":Str) == ("marks":Str))=true by nofun]
theorem Yv (A:KA):BG (Ak "spans") (Nf A)=some (.ref A.d):=by
 unfold Nf;rw[Bs,show((Ak "spans":Str) == ("row":Str))=false by nofun,Bs,show((Ak "spans":Str) == ("marks":Str))=false by nofun,Bs,show((Ak "spans":Str) == ("spans":Str))=true by nofun]
theorem Rc {M:Mp}{p:Av}{AQ:List (B4×D)}(h:M p=some (.dic AQ)):D5 M (.ref p)=some AQ:=by simp[D5,h]
structure FQ (C:Av)(M:Mp)(A:KA)(E:Str->List (Str×Nat))(row:List (Str×Str×Nat))(ms ks:List Int):Prop where
 o:M A.o=some (.obj C (Nf A))
 q:M A.q=some (.lst (row.map bD))
 m:M A.m=some (.lst (ms.map D.int))
 d:M A.d=some (.dic (I8 A))
 s:∀s,KI s->M (A.at s)=some (.dic (HK row ks E s))
 nd:[A.b,A.e,A.f,A.g].Nodup
 qm:A.q≠A.m
structure N8 (E:Str->List (Str×Nat))(row:List (Str×Str×Nat)):Prop where
 nd:row.Nodup
 k:∀b∈row,KI b.1/\∃w,(b.2.1,w)∈E b.1/\b.2.2<w
 e:∀s,((E s).map (·.1)).Nodup/\(E s).length<=12/\∀n∈E s,1<=n.2/\n.2<=64
 l:row.length<=5000
def Jh (A:KA)(M M':Mp):Prop:=∀p,p∉[A.m,A.b,A.e,A.f,A.g]->M' p=M p
theorem Jh.refl (A:KA)(M:Mp):Jh A M M:=λ_ _=>rfl
theorem Jh.trans {A:KA}{M M1 M2:Mp}(h:Jh A M M1)(g:Jh A M1 M2):Jh A M M2:=λp hp=>(g p hp).trans (h p hp)
theorem iF (A:KA)(s:Str):A.at s∈[A.m,A.b,A.e,A.f,A.g]:=by
 unfold KA.at
 split
 .simp
 .split
  .simp
  .split<;>simp
theorem Uq (A:KA):A.at "box" = A.b:=if_pos rfl
theorem Ux (A:KA):A.at "door" = A.e:=by unfold KA.at;rw[if_neg (by nofun),if_pos rfl]
theorem Ur (A:KA):A.at "one" = A.f:=by unfold KA.at;rw[if_neg (by nofun),if_neg (by nofun),if_pos rfl]
theorem UC (A:KA):A.at "other" = A.g:=by unfold KA.at;rw[if_neg (by nofun),if_neg (by nofun),if_neg (by nofun)]
theorem pL {A:KA}(nd:[A.b,A.e,A.f,A.g].Nodup)(hs:KI s)(ht:KI t)(h:A.at s=A.at t):s=t:=by
 simp only[Eg,By,AS,or_false,not_or]at nd;obtain⟨⟨n1,n2,n3⟩,⟨n4,n5⟩,n6,-⟩:=nd;rcases hs with rfl|rfl|rfl|rfl<;>rcases ht with rfl|rfl|rfl|rfl<;>simp only[Uq,Ux,Ur,UC]at h<;>first|rfl|exact absurd h ‹_› | exact absurd h.symm ‹_›
theorem jm (A:KA):((I8 A).map (·.1)).Nodup:=by
 show([.inr "box",.inr "door",.inr "one",.inr "other"]:List B4).Nodup;nofun
theorem VI {A:KA}{s:Str}(h:KI s):Do (I8 A) (.inr s)=some (.ref (A.at s)):=by
 refine V6 (jm A) ?_;rcases h with rfl|rfl|rfl|rfl<;>simp only[Uq,Ux,Ur,UC,I8]<;>simp
def Tl (i:Nat)(m:Int)(ks ks':List Int):Prop:=ks'.getD i 2=m/\∀j,j≠i->ks'.getD j 2=ks.getD j 2
theorem aK (row:List (Str×Str×Nat))(ks:List Int)(s z:Str)(w:Nat):(Lk row ks s z w).length=w:=by unfold Lk;rw[Ab,B9]
theorem br {row:List (Str×Str×Nat)}(nd:row.Nodup)(h:row[i]? = some b):row.idxOf b=i:=by
 obtain⟨hi,e⟩:=Ah.mp h;have hl:=K4 (Aw h);have e2:=Ps hl;exact(Jq nd).mp (e2.trans e.symm)
theorem pV {row:List (Str×Str×Nat)}(h:row[i]? = some b)(ne:c≠b):row.idxOf c≠i:=λe=>by
 obtain⟨hi,e1⟩:=Ah.mp h;have hl:row.idxOf c<row.length:=by ext
 have e2:=Ps hl;exact ne (by rw[<- e1,<- e2];congr 1)
theorem mh (nd:row.Nodup)(c:Tl i m ks ks'){p w:Nat}(h:row[i]? = some (s,z,p))(hp:p<w):Lk row ks' s z w=(Lk row ks s z w).set p m:=by
 refine Fp λj=>?_;unfold Lk;rw[P6,AH,AH,Ab,B9];by_cases e:p=j
 .subst e;rw[if_pos rfl,if_pos hp,EJ hp];show some (ks'.getD (row.idxOf (s,z,p)) 2)=_;rw[br nd h,c.1]
 .rw[if_neg e];rcases GU j w with hj|hj
  .rw[EJ hj];show some (ks'.getD (row.idxOf (s,z,j)) 2)=some (ks.getD (row.idxOf (s,z,j)) 2);rw[c.2 _ (pV h λe2=>e (by cases e2;rfl))]
  .rw[Bu (by rw[B9];exact hj)];rfl
theorem sH {row:List (Str×Str×Nat)}{ks ks':List Int}{i:Nat}{m:Int}(c:Tl i m ks ks'){s z:Str}{p:Nat}(h:row[i]? = some (s,z,p)){s' z':Str}(ne:¬(s'=s/\z'=z))(w:Nat):Lk row ks' s' z' w=Lk row ks s' z' w:=by
 unfold Lk;refine Dj λj _=>?_;exact c.2 _ (pV h λe2=>ne (by cases e2;exact⟨rfl,rfl⟩))
theorem wg (c:Tl i m ks ks')(h:row[i]? = some (s,z,p))(ne:s'≠s):HK row ks' E s'=HK row ks E s':=by
 unfold HK;refine Dj λn _=>?_;rw[sH c h (λe=>ne e.1)]
theorem jK {w:Nat}(nd:((E s).map (·.1)).Nodup)(h:(z,w)∈E s):Do (HK row ks E s) (.inr z)=some (Na (Lk row ks s z w)):=by
 refine V6 ?_ (An.mpr ⟨(z,w),h,rfl⟩);unfold HK;rw[Bv];have e:E4 ((λx:B4×D=>x.1) ∘ λn:Str×Nat=>((.inr n.1:B4),Na (Lk row ks s n.1 n.2))) (E s)=((E s).map (·.1)).map Fx:=by rw[Bv];rfl
 rw[e];unfold Et at nd ⊢;rw[Cj];exact nd.imp λhab e=>hab (DI e)
theorem qk (rn:row.Nodup)(c:Tl i m ks ks'){p w:Nat}(h:row[i]? = some (s,z,p))(hp:p<w)(nd:((E s).map (·.1)).Nodup)(hz:(z,w)∈E s):Hj (HK row ks E s) (.inr z) (Na ((Lk row ks s z w).set p m))=HK row ks' E s:=by
 have hany:((HK row ks E s).any λkv=>decide (kv.1=.inr z))=true:=C4.mpr ⟨_,An.mpr ⟨(z,w),hz,rfl⟩,decide_eq_true rfl⟩;unfold Hj;rw[if_pos hany];unfold HK;rw[Bv];refine Dj λn hn=>?_;show(if (Fx n.1:B4)=.inr z then _ else _)=_;by_cases e:n.1=z
 .have e2:n=(z,w):=by
   obtain⟨i1,h1⟩:=Bm.mp hn;obtain⟨i2,h2⟩:=Bm.mp hz;have g1:((E s).map (·.1))[i1]? = some z:=by rw[AH,h1,<- e];rfl
   have g2:((E s).map (·.1))[i2]? = some z:=by rw[AH,h2];rfl
   obtain⟨l1,f1⟩:=Ah.mp g1;obtain⟨l2,f2⟩:=Ah.mp g2;have:=(Jq nd).mp (f1.trans f2.symm);subst this;exact A9 (h1.symm.trans h2)
  subst e2;rw[if_pos rfl,mh rn c h hp]
 .rw[if_neg (λe2=>e (DI e2)),sH c h (λe2=>e e2.2)]
theorem cf {C:Av}{M:Mp}{A:KA}{E:Str->List (Str×Nat)}{row:List (Str×Str×Nat)}{ms ks ks':List Int}{i:Nat}{m:Int}{so z:Str}{pl:Nat}(kn:FQ C M A E row ms ks)(hs:KI so)(c:Tl i m ks ks')(h:row[i]? = some (so,z,pl)):FQ C (put M (A.at so) (.dic (HK row ks' E so))) A E row ms ks'/\Jh A M (put M (A.at so) (.dic (HK row ks' E so))):=by
 have R5:=kn.s so hs
 have n1:∀{x:Av} {o:MO},M x=some o->(∀AQ,o≠.dic AQ)->x≠A.at so:=λ{x o} hx hn e=>by
  rw[e,R5]at hx;cases hx;exact hn _ rfl
 have nd:A.d≠A.at so:=λe=>by
  have hd:=kn.d;rw[e,R5]at hd;have e2:HK row ks E so=I8 A:=by injection hd with h;injection h
  unfold HK I8 at e2;cases hE:E so with
  |nil=>rw[hE]at e2;cases e2
  |cons n r=>rw[hE,AR]at e2;have e3:=congrArg Sq (Pu e2).1;unfold Na at e3;cases e3
 refine⟨⟨by rw[Ds (n1 kn.o (λ_ e=>nomatch e))];exact kn.o,by rw[Ds (n1 kn.q (λ_ e=>nomatch e))];exact kn.q,by rw[Ds (n1 kn.m (λ_ e=>nomatch e))];exact kn.m,by rw[Ds nd];exact kn.d,λs' h'=>?_,kn.nd,kn.qm⟩,λx hx=>?_⟩
 .by_cases e:s'=so
  .subst e;rw[C8]
  .rw[Ds (λe2=>e (pL kn.nd h' hs e2)),kn.s s' h',wg c h e]
 .exact Ds λe=>hx (e ▸ iF A so)
theorem oJ {C:Av}{M:Mp}{A:KA}{E:Str->List (Str×Nat)}{row:List (Str×Str×Nat)}{ms ks:List Int}(kn:FQ C M A E row ms ks)(ms':List Int):FQ C (put M A.m (.lst (ms'.map D.int))) A E row ms' ks/\Jh A M (put M A.m (.lst (ms'.map D.int))):=by
 have no:A.o≠A.m:=λe=>by have h:=kn.o;rw[e,kn.m]at h;cases h
 have nd:A.d≠A.m:=λe=>by have h:=kn.d;rw[e,kn.m]at h;cases h
 have ns:∀s,KI s->A.at s≠A.m:=λs hs e=>by have h:=kn.s s hs;rw[e,kn.m]at h;cases h
 refine⟨⟨by rw[Ds no];exact kn.o,by rw[Ds kn.qm];exact kn.q,C8,by rw[Ds nd];exact kn.d,λs hs=>by rw[Ds (ns s hs)];exact kn.s s hs,kn.nd,kn.qm⟩,λx hx=>Ds λe=>hx (by rw[e];exact AF)⟩
theorem tR (ks:List Int)(m:Int):Tl ks.length m ks (ks++[m]):=by
 refine⟨by rw[Cg,Cf (AJ _),Jm];rfl,λj hj=>?_⟩;rw[Cg,Cg];rcases GU j ks.length with h|h
 .rw[CZ h]
 .rw[Bu (by rw[Aq];show ks.length+1<=j;ext),Bu h]
theorem xn (ks:List Int)(m:Int):Tl ks.length 2 (ks++[m]) ks:=by
 refine⟨by rw[Cg,Bu (AJ _)];rfl,λj hj=>((tR ks m).2 j hj).symm⟩
theorem LV {A:KA}{m:Str}(h1:(m == ("row":Str))=false)(h2:(m == ("marks":Str))=false)(h3:(m == ("spans":Str))=false):BG m (Nf A)=none:=by
 unfold Nf;rw[Bs,h1,Bs,h2,Bs,h3,List.lookup_nil]
theorem Q5 {M:Mp}{p:Av}{xs:List D}(h:M p=some (.lst xs)):Hz M (.ref p)=some xs:=by simp[Hz,Bf,h]
noncomputable def Nb (s:Str)(acc:List (Str×Nat))(b:Str×Str×Nat):List (Str×Nat):=if b.1=s/\b.2.1∉acc.map (·.1)then acc++[(b.2.1,b.2.2+1)]else acc
noncomputable def Ic (row:List (Str×Str×Nat))(s:Str):List (Str×Nat):=row.foldl (Nb s) []
abbrev ZcC (C:Av)(ds:List D)(M:Mp)(Q:El):Prop:=FF ds λx y=>∃(M0:Mp) (o q:Av) (E:Str->List (Str×Nat)) (row:List (Str×Str×Nat)),x=.ref o/\y=.ref q/\M=put M0 o (.obj C [])/\M0 o=none/\M0 q=some (.lst (row.map bD))/\N8 E row/\(∀s,KI s->E s=Ic row s)/\∀M' (A:KA),A.o=o->A.q=q->FQ C M' A E row [] []->(∀p∈[A.m,A.b,A.e,A.f,A.g],M0 p=none)->(∀p u,M0 p=some u->M' p=some u)->Q .non M'
theorem FQ.dne (kn:FQ C M A E row ms ks){s:Str}(hs:KI s):A.d≠A.at s:=λe=>by
 have hd:=kn.d;rw[e,kn.s s hs]at hd;have e2:HK row ks E s=I8 A:=by injection hd with h;injection h
 unfold HK I8 at e2;cases hE:E s with
 |nil=>rw[hE]at e2;cases e2
 |cons n r=>rw[hE,AR]at e2;have e3:=congrArg Sq (Pu e2).1;unfold Na at e3;cases e3
theorem zK {C:Av}{M:Mp}{A:KA}{E E':Str->List (Str×Nat)}{row:List (Str×Str×Nat)}{ms ks:List Int}{so:Str}(kn:FQ C M A E row ms ks)(hs:KI so)(h:∀s,s≠so->E' s=E s):FQ C (L3.put M (A.at so) (.dic (HK row ks E' so))) A E' row ms ks:=by
 have R5:=kn.s so hs
 have n1:∀{x:Av} {o:MO},M x=some o->(∀AQ,o≠.dic AQ)->x≠A.at so:=λ{x o} hx hn e=>by
  rw[e,R5]at hx;cases hx;exact hn _ rfl
 refine⟨by rw[Ds (n1 kn.o (λ_ e=>nomatch e))];exact kn.o,by rw[Ds (n1 kn.q (λ_ e=>nomatch e))];exact kn.q,by rw[Ds (n1 kn.m (λ_ e=>nomatch e))];exact kn.m,by rw[Ds (kn.dne hs)];exact kn.d,λs' h'=>?_,kn.nd,kn.qm⟩;by_cases e:s'=so
 .subst e;rw[C8]
 .rw[Ds (λe2=>e (pL kn.nd h' hs e2)),kn.s s' h'];unfold HK;rw[h s' e]
theorem nQ {C:Av}{M:Mp}{A:KA}{E E':Str->List (Str×Nat)}{row:List (Str×Str×Nat)}{ms ks:List Int}(kn:FQ C M A E row ms ks)(h:∀s,KI s->E' s=E s):FQ C M A E' row ms ks:=⟨kn.o,kn.q,kn.m,kn.d,λs hs=>by rw[kn.s s hs];unfold HK;rw[h s hs],kn.nd,kn.qm⟩
theorem mi (row:List (Str×Str×Nat))(s z:Str)(w:Nat):Lk row [] s z w=Ax w 2:=by
 unfold Lk;rw[List.eq_replicate_iff,Ab,B9];refine⟨rfl,λm hm=>?_⟩;obtain⟨j,-,rfl⟩:=An.mp hm;rfl
theorem rB (s:Str):∀(l:List (Str×Str×Nat)) (acc:List (Str×Nat)),(l.foldl (Nb s) acc).length<=acc.length+l.length
 |[],acc=>AJ _
 |b::l,acc=>by
  refine AZ (rB s l (Nb s acc b)) ?_
  have:(Nb s acc b).length<=acc.length+1:=by
   unfold Nb;split
   .rw[Aq];exact AJ _
   .ext
  rw[AO];ext
theorem tu {row:List (Str×Str×Nat)}{i:Nat}{b:Str×Str×Nat}(h:row[i]? = some b)(s:Str):Ic (row.take (i+1)) s=Nb s (Ic (row.take i) s) b:=by
 unfold Ic;rw[A8,h,JJ];rfl
theorem rE :Do (HK row ks E s) (.inr z)=none↔z∉(E s).map (·.1):=by
 unfold Do HK;rw[Md,EV];constructor
 .intro h hz;obtain⟨n,hn,rfl⟩:=An.mp hz;exact h _ (An.mpr ⟨n,hn,rfl⟩) (decide_eq_true rfl)
 .intro h kv hkv c;obtain⟨n,hn,rfl⟩:=An.mp hkv;exact h (An.mpr ⟨n,hn,DI (of_decide_eq_true c)⟩)
theorem dr {row:List (Str×Str×Nat)}{E E':Str->List (Str×Nat)}{s z:Str}{p:Nat}(h:z∉(E s).map (·.1))(e:E' s=E s++[(z,p)]):Hj (HK row [] E s) (.inr z) (Na (Ax p 2))=HK row [] E' s:=by
 have hn:¬((HK row [] E s).any λkv=>decide (kv.1=.inr z))=true:=λc=>by
  obtain⟨kv,hkv,ek⟩:=C4.mp c;obtain⟨n,hn,rfl⟩:=An.mp hkv;exact h (An.mpr ⟨n,hn,DI (of_decide_eq_true ek)⟩)
 unfold Hj;rw[if_neg hn];unfold HK;rw[e,AI,AR,Dr,mi]
theorem fe (x y:D):putO (Ak "marks") x (putO (Ak "row") y [])=([("row",y),("marks",x)]:List (Str×D)):=by
 simp only[putO,show¬(Ak "row" = Ak "marks") by nofun,if_false]
theorem jj (x y z:D):putO (Ak "spans") z ([("row",y),("marks",x)]:List (Str×D))=([("row",y),("marks",x),("spans",z)]:List (Str×D)):=by
 simp only[putO,show¬(("row":Str)=Ak "spans") by nofun,show¬(("marks":Str)=Ak "spans") by nofun,if_false]
theorem gF {M:Mp}{p:Av}{xs:List D}(h:M p=some (.lst xs)):Bf M (.ref p)=some xs:=by simp[Bf,h]
theorem Jk {M:Mp}{p x:Av}{u:MO}(hp:M p=none)(hx:M x=some u):x≠p:=λe=>by rw[e,hp]at hx;cases hx
section
theorem ZcK:Om T T.x50 3 (ZcC T.C_Known):=by
 refine CI.p2 T.x50.d.F ["self", "row", "sort", "name", "place"] λx y M Q hr nN h=>?_;obtain⟨M0,o,rq,E,row,e1',e2',e3',m0,mq,kr,he,q⟩:_:=h;refine⟨_,(qC (iP T.cl_Known T.na_Known_row (qv 0) (qv 1)) (qC (iP T.cl_Known T.na_Known_marks (qv 0) (Jv qN)) (qC (iP T.cl_Known T.na_Known_spans (qv 0) (T5 BQ Jb BQ Jb BQ Jb BQ Jb)) (qO (KG AK rfl (JP (qv 1)) (VN (is:=[2,3,4]) rfl (MN (LX nN rfl (BX rfl)) (MN (LX nN rfl (BX rfl)) (MN (LX nN rfl (BX rfl)) UB)))) (qO (E3 (fY (Fg (J2 hr) (GY T.cl_Known T.na_Known_spans (qv 0)) (qv 2) (λ_ _=>rfl)) (qA (qv 3) (qA (Ay T.x21.d (Zds T) nofun (qA (BC Hl (qv 4) Aj) qN)) qN)))))))))),?_⟩;right;rw[C8,Hn,QH];refine⟨by decide,λm hm=>?_⟩;have nm:m≠o:=λe=>by rw[e,C8]at hm;cases hm
 rw[Ds nm]at hm;rw[Ds (Bj nm),C8,Hn];refine⟨Hc (by decide),?_⟩;rw[og];have no:rq≠o:=Jk m0 mq;have nq:rq≠m:=Jk hm mq
 have f1:∀x u,M0 x=some u->put (put (put M0 o (MO.obj T.C_Known (putO (Ak "row") (D.ref rq) []))) m (MO.lst [])) o (MO.obj T.C_Known (putO (Ak "marks") (D.ref m) (putO (Ak "row") (D.ref rq) []))) x=some u:=λx u h=>by
  rw[Ds (Jk m0 h),Ds (Jk hm h),Ds (Jk m0 h)];exact h
 have f2:put (put (put M0 o (MO.obj T.C_Known (putO (Ak "row") (D.ref rq) []))) m (MO.lst [])) o (MO.obj T.C_Known (putO (Ak "marks") (D.ref m) (putO (Ak "row") (D.ref rq) []))) o=_:=C8;have f3:put (put (put M0 o (MO.obj T.C_Known (putO (Ak "row") (D.ref rq) []))) m (MO.lst [])) o (MO.obj T.C_Known (putO (Ak "marks") (D.ref m) (putO (Ak "row") (D.ref rq) []))) m=some (.lst []):=by rw[Ds nm,C8]
 generalize put (put (put M0 o (MO.obj T.C_Known (putO (Ak "row") (D.ref rq) []))) m (MO.lst [])) o (MO.obj T.C_Known (putO (Ak "marks") (D.ref m) (putO (Ak "row") (D.ref rq) [])))=M1 at f1 f2 f3 ⊢;intro d hd;grind;intro b hb e he1 f hf g hg;have s1:Sub M1 (put M1 d (.dic [])):=Sub.put hd;have s2:Sub _ (put (put M1 d (.dic [])) b (.dic [])):=Sub.put hb;have s3:Sub _ (put (put (put M1 d (.dic [])) b (.dic [])) e (.dic [])):=Sub.put he1;have s4:Sub _ (put (put (put (put M1 d (.dic [])) b (.dic [])) e (.dic [])) f (.dic [])):=Sub.put hf;have s5:Sub _ (put (put (put (put (put M1 d (.dic [])) b (.dic [])) e (.dic [])) f (.dic [])) g (.dic [])):=Sub.put hg;have s15:=s1.trans (s2.trans (s3.trans (s4.trans s5)));have kd:=s2.trans (s3.trans (s4.trans s5)) d _ C8;have kb:=s3.trans (s4.trans s5) b _ C8;have ke:=s4.trans s5 e _ C8;have kf:=s5 f _ C8;have kg:put (put (put (put (put M1 d (.dic [])) b (.dic [])) e (.dic [])) f (.dic [])) g (.dic []) g=some (.dic []):=C8;have n1:b≠e:=Jk he1 C8;have n2:b≠f:=Jk hf (s3 b _ C8);have n3:b≠g:=Jk hg (s3.trans s4 b _ C8);have n4:e≠f:=Jk hf C8;have n5:e≠g:=Jk hg (s4 e _ C8);have n6:f≠g:=Jk hg C8;have d1:d≠b:=Jk hb C8;have d2:d≠e:=Jk he1 (s2 d _ C8);have d3:d≠f:=Jk hf (s2.trans s3 d _ C8);have d4:d≠g:=Jk hg (s2.trans (s3.trans s4) d _ C8)
 have nn:∀{N:Mp} {x:Av},Sub M1 N->N x=none->M0 x=none:=λ{N x} s h=>by
  cases h2:M0 x with
  |none=>rfl
  |some u=>rw[s x u (f1 x u h2)]at h;cases h
 have dn:=nn (Sub.refl M1) hd;have bn:=nn s1 hb;have en:=nn (s1.trans s2) he1;have fn:=nn (s1.trans (s2.trans s3)) hf;have gn:=nn (s1.trans (s2.trans (s3.trans s4))) hg;clear nn;have f1:=λx u h=>s15 x u (f1 x u h);have f2:=s15 _ _ f2;have f3:=s15 _ _ f3;clear hd hb he1 hf hg s1 s2 s3 s4 s5 s15;generalize put (put (put (put (put M1 d (.dic [])) b (.dic [])) e (.dic [])) f (.dic [])) g (.dic [])=M8 at *;refine⟨kd,by nofun,?_⟩;have od:o≠d:=λh=>by rw[h,kd]at f2;cases f2
 have mne:∀{x},M8 x=some (.dic [])->m≠x:=λ{x} h h2=>by rw[<- h2,f3]at h;cases h
 have one:∀{x},M8 x=some (.dic [])->x≠o:=λ{x} h h2=>by rw[h2,f2]at h;cases h
 have rqv:=f1 rq _ mq;have qne:∀{x},M8 x=some (.dic [])->rq≠x:=λ{x} h h2=>by rw[<- h2,rqv]at h;cases h
 rw[Ds od,f2,Hn,fe,jj];refine⟨Hc (Hc (by decide)),?_⟩
 have kn0:FQ T.C_Known (put (put M8 d (.dic (I8 ⟨o,rq,m,d,b,e,f,g⟩))) o (.obj T.C_Known (Nf ⟨o,rq,m,d,b,e,f,g⟩))) ⟨o,rq,m,d,b,e,f,g⟩ (Ic (row.take 0)) row [] []:=by
  refine⟨C8,by rw[Ds no,Ds (qne kd)];exact rqv,by rw[Ds nm,Ds (mne kd)];exact f3,by rw[Ds (Bj od),C8],λs hs=>?_,by simp only[Eg,By,AS,or_false,not_or];exact⟨⟨n1,n2,n3⟩,⟨n4,n5⟩,n6,λh=>h,Lw⟩,nq⟩;rcases hs with rfl|rfl|rfl|rfl
  .rw[Uq,Ds (one kb),Ds (Bj d1)];exact kb
  .rw[Ux,Ds (one ke),Ds (Bj d2)];exact ke
  .rw[Ur,Ds (one kf),Ds (Bj d3)];exact kf
  .rw[UC,Ds (one kg),Ds (Bj d4)];exact kg
 have f9:∀x u,M0 x=some u->put (put M8 d (.dic (I8 ⟨o,rq,m,d,b,e,f,g⟩))) o (.obj T.C_Known (Nf ⟨o,rq,m,d,b,e,f,g⟩)) x=some u:=λx u h=>by
  rw[Ds (Jk m0 h),Ds (Jk dn h)];exact f1 x u h
 change Ck (Bf (put (put M8 d (.dic (I8 ⟨o,rq,m,d,b,e,f,g⟩))) o (.obj T.C_Known (Nf ⟨o,rq,m,d,b,e,f,g⟩))) (.ref rq)) λxs=>UR xs _ _ _ _ _ (put (put M8 d (.dic (I8 ⟨o,rq,m,d,b,e,f,g⟩))) o (.obj T.C_Known (Nf ⟨o,rq,m,d,b,e,f,g⟩)));generalize put (put M8 d (.dic (I8 ⟨o,rq,m,d,b,e,f,g⟩))) o (.obj T.C_Known (Nf ⟨o,rq,m,d,b,e,f,g⟩))=M9 at kn0 f9 ⊢;replace q:=λM'=>q M' ⟨o,rq,m,d,b,e,f,g⟩ rfl rfl;obtain⟨A,ea⟩:∃A:KA,A=⟨o,rq,m,d,b,e,f,g⟩:=⟨_,rfl⟩;rw[<- ea]at kn0 q
 have an:∀s,M0 (A.at s)=none:=λs=>by
  rw[ea];unfold KA.at
  split
  .exact bn
  .split
   .exact en
   .split
    .exact fn
    .exact gn
 have fz:∀p∈[A.m,A.b,A.e,A.f,A.g],M0 p=none:=by
  rw[ea];intro p hp;simp only[By,AS,or_false]at hp;rcases hp with rfl|rfl|rfl|rfl|rfl
  .exact hm
  .exact bn
  .exact en
  .exact fn
  .exact gn
 have eo:o=A.o:=by rw[ea]
 have eq:rq=A.q:=by rw[ea]
 rw[eo,eq];rw[gF kn0.q,BR];refine⟨λi τ M'=>(FQ T.C_Known M' A (Ic (row.take i)) row [] []/\∀x u,M0 x=some u->M' x=some u)/\∃x y z,τ=[some (.ref A.o),some (.ref A.q),x,y,z],⟨⟨kn0,f9⟩,_,_,_,rfl⟩,λi τ M' h=>gF h.1.1.q,?_,?_⟩
 .intro i x τ M' hx;ext1⟨⟨kn,fr⟩,u1,u2,u3,e1'⟩;rw[AH]at hx;obtain⟨bt,hbt,rfl⟩:=EY.mp hx;obtain⟨so,z,pl⟩:=bt;obtain⟨hs,wd,hw,hp⟩:=kr.k _ (Aw hbt);unfold bD;grind;rw[kn.o,Hn,Yv,BR,Rc kn.d,BR,VI hs,BR,QB,kn.s so hs,VH];have hw2:=((kr.e so).2.2 _ hw).2;change wd<=64 at hw2;change pl<wd at hp;refine⟨⟨by ext,by ext⟩,?_⟩;rw[show((pl:Int)+1).toNat=pl+1 by ext];unfold LJ;rw[QB,oA];grind;rw[kn.s so hs,VH];have en1:=λs=>tu hbt s;refine⟨?_,λdd hdd=>?_,λhnn=>?_⟩
  .have l1:=rB so (row.take i) [];rw[AY]at l1;have l2:=kr.l;unfold HK Ic;rw[Ab];refine Fm (m:=5000) ?_ (by decide);change _<=0+_ at l1;ext
  .refine⟨⟨nQ kn λs _=>?_,fr⟩,_,_,_,rfl⟩;rw[en1];unfold Nb;rw[if_neg];rintro⟨c1,c2⟩;change so=s at c1;subst c1;rw[rE.mpr c2]at hdd;cases hdd
  .have hz:=rE.mp hnn;rw[dr (E':=Ic (row.take (i+1))) hz (by rw[en1];unfold Nb;rw[if_pos ⟨rfl,hz⟩])];refine⟨⟨zK kn hs λs c=>?_,λx u h=>?_⟩,_,_,_,rfl⟩
   .rw[en1];unfold Nb;rw[if_neg (λc2=>c c2.1.symm)]
   .rw[Ds (Jk (an so) h)];exact fr x u h
 .intro τ M';ext1⟨⟨kn,fr⟩,u1,u2,u3,e1'⟩;rw[Ab,Bc]at kn;exact Dn.of (q M' (nQ kn he) fz fr)
end
abbrev Δ (C:Av)(ds:List D)(M:Mp)(Q:El):Prop:=Je ds λx y z=>∃(A:KA) (E:Str->List (Str×Nat)) (row:List (Str×Str×Nat)) (ms ks ks':List Int) (i:Nat) (m:Int),x=.ref A.o/\y=.int i/\z=.int m/\N8 E row/\FQ C M A E row ms ks/\i<row.length/\Mk m/\Ld ks/\Tl i m ks ks'/\∀M',FQ C M' A E row ms ks'->Jh A M M'->Q .non M'
section
theorem wP:Om T T.x56 2 (Δ T.C_Known):=by
 refine CI.p3 T.x56.d.F ["self", "number", "mark", "bit", "named"] λx y z M Q hr nN h=>?_;obtain⟨A,E,row,ms,ks,ks',i,m,e1',e2',e3',kr,kn,hi,hm,hk,hc,q⟩:_:=h;have hb:=Af hi;generalize row[i]=b at hb;obtain⟨so,z,pl⟩:=b;obtain⟨hs4,wd,hz,hpl⟩:=kr.k _ (Aw hb);have hb2:FG (row.map bD) (i:Int)=some (bD (so,z,pl)):=OE (by rw[AH,hb];rfl);obtain⟨en,el,ew⟩:=kr.e so;refine⟨_,(qC (Cw 3 nN (Be Hr (GY T.cl_Known T.na_Known_row (qv 0)) (qv 1))) (qC (Cw 4 nN (Fg (J2 hr) (GY T.cl_Known T.na_Known_spans (qv 0)) (Be BA (qv 3) Aj) (λ_ _=>rfl))) (qO (VQ (J2 hr) (qv 4) (Be BA (qv 3) Aj) (Ay T.x22.d (ZgF T) nofun (qA (Fg (J2 hr) (qv 4) (Be BA (qv 3) Aj) (λ_ _=>rfl)) (qA (Be BA (qv 3) Aj) (qA (qv 2) qN)))) rfl)))),?_⟩
 have s64:YG (Lk row ks so z wd):=by
  refine⟨λv hv=>?_,by rw[aK];exact(ew _ hz).1,by rw[aK];exact(ew _ hz).2⟩;obtain⟨j,_,rfl⟩:=An.mp hv;rw[Cg];cases e:ks[row.idxOf (so,z,j)]? with
  |none=>exact .inr (.inr rfl)
  |some v=>exact hk v (Aw e)
 obtain⟨w1,w2⟩:=cf kn hs4 hc hb;rw[<- qk kr.nd hc hb hpl en hz]at w1 w2;right;rw[kn.o,Hn,oN,BR,OB kn.q,BR,hb2,BR,Hn,Yv,BR];simp only[bD];grind;rw[Rc kn.d,BR,VI hs4,BR]
 (try grind)
 rw[Rc (kn.s so hs4),BR,jK en hz,BR]
 (try grind)
 refine⟨_,pl,m,rfl,rfl,rfl,s64,by rw[aK];exact hpl,hm,?_⟩
 (try grind)
 rw[kn.s so hs4];exact⟨BU (by unfold HK;rw[Ab];ext),Dn.of (q _ w1 w2)⟩
end
theorem VL {M:Mp}{p:Av}{xs:List D}{y:D}{Q:El}(h:M p=some (.lst xs)):GX (.ref p) [y] M Q=(xs.length<Am/\Q .non (put M p (.lst (xs++[y])))):=by
 unfold GX;rw[QB,ZG,h]
abbrev Zef (C:Av)(ds:List D)(M:Mp)(Q:El):Prop:=FF ds λx z=>∃(A:KA) (E:Str->List (Str×Nat)) (row:List (Str×Str×Nat)) (ms:List Int) (m:Int),x=.ref A.o/\z=.int m/\N8 E row/\FQ C M A E row ms ms/\ms.length<row.length/\Mk m/\Ld ms/\∀M',FQ C M' A E row (ms++[m]) (ms++[m])->Jh A M M'->Q .non M'
section
theorem wZ:Om T T.x51 3 (Zef T.C_Known):=by
 refine CI.p2 T.x51.d.F ["self", "mark"] λx z M Q hr nN h=>?_;obtain⟨A,E,row,ms,m,e1',e2',kr,kn,hl,hm,hk,q⟩:_:=h;refine⟨_,(qC (E3 (Ff T.cl_Known T.x56.d (wP T) nofun (qv 0) (qA (Cp LU T.B.len CG (qA (GY T.cl_Known T.na_Known_marks (qv 0)) qN)) (qA (qv 1) qN)))) (qO (E3 (JX AN Bi Bh QJ (GY T.cl_Known T.na_Known_marks (qv 0)) (qA (qv 1) qN))))),?_⟩;right;rw[kn.o,Hn];refine⟨LV (by nofun) (by nofun) (by nofun),?_⟩;rw[Hn,QI,BR,Q5 kn.m,BR];refine⟨A,E,row,ms,ms,ms++[m],ms.length,m,rfl,by rw[Ab],rfl,kr,kn,hl,hm,hk,tR ms m,λM' kn' ko=>?_⟩;rw[kn'.o,Hn,QI,BR,VL kn'.m];obtain⟨a,b⟩:=oJ kn' (ms++[m]);rw[AI]at a b;have h5:=kr.l;have:(6000:Nat)<=Am:=by decide
 exact⟨Ix kn'.m,by rw[Ab];ext,Dn.of (q _ a (ko.trans b))⟩
end
abbrev Zdh (C:Av)(ds:List D)(M:Mp)(Q:El):Prop:=GG ds λx=>∃(A:KA) (E:Str->List (Str×Nat)) (row:List (Str×Str×Nat)) (ms:List Int) (m:Int),x=.ref A.o/\N8 E row/\FQ C M A E row (ms++[m]) (ms++[m])/\ms.length<row.length/\Ld (ms++[m])/\∀M',FQ C M' A E row ms ms->Jh A M M'->Q .non M'
section
theorem lH:Om T T.x52 3 (Zdh T.C_Known):=by
 refine CI.p1 T.x52.d.F ["self"] λx M Q hr nN h=>?_;obtain⟨A,E,row,ms,m,e1',kr,kn,hl,hk,q⟩:_:=h;refine⟨_,(qC (E3 (T7 AN Mc Mb fc (GY T.cl_Known T.na_Known_marks (qv 0)))) (qO (E3 (Ff T.cl_Known T.x56.d (wP T) nofun (qv 0) (qA (Cp LU T.B.len CG (qA (GY T.cl_Known T.na_Known_marks (qv 0)) qN)) (qA Aj qN)))))),?_⟩;right;rw[kn.o,Hn,QI,BR,kt,kn.m];refine⟨Ix kn.m,ms.map D.int,.int m,by rw[AI];rfl,?_⟩;obtain⟨a,b⟩:=oJ kn ms;rw[a.o,Hn];refine⟨LV (by nofun) (by nofun) (by nofun),?_⟩;rw[Hn,QI,BR,Q5 a.m,BR];exact⟨A,E,row,ms,ms++[m],ms,ms.length,2,rfl,by rw[Ab],rfl,kr,a,hl,.inr (.inr rfl),hk,xn ms m,λM' kn' ko=>Dn.of (q M' kn' (b.trans ko))⟩
end
noncomputable def HC (n:Nat)(ms:List Int):List Int:=(ms++Ax (n-ms.length) 0).take n
theorem Ys {a b:List Int}(ha:Ld a)(hb:Ld b):Ld (a++b):=λm hm=>(AT.mp hm).elim (ha m) (hb m)
theorem jE (n:Nat):Ld (Ax n 0):=λm hm=>.inl (EN hm)
theorem sJ {a:List Int}(h:Ld a)(n:Nat):Ld (a.take n):=λm hm=>h m (Gh hm)
theorem aI (h:Ld ms)(n):Ld (HC n ms):=sJ (Ys h (jE _)) n
theorem Yq (n)(ms):(HC n ms).length=n:=by
 unfold HC;rw[AY,Aq,Bn];ext
abbrev Zfs (C:Av)(ds:List D)(M:Mp)(Q:El):Prop:=FF ds λx y=>∃(A:KA) (E:Str->List (Str×Nat)) (row:List (Str×Str×Nat)) (ms:List Int) (n:Nat),x=.ref A.o/\y=.int n/\N8 E row/\FQ C M A E row ms ms/\Ld ms/\n<=row.length/\ms.length<=row.length/\∀M',FQ C M' A E row (HC n ms) (HC n ms)->Jh A M M'->Q .non M'
section
theorem wF:Om T T.x53 4 (Zfs T.C_Known):=by
 refine CI.p2 T.x53.d.F ["self", "many"] λx z M Q hr nN h=>?_;obtain⟨A,E,row,ms,n,e1',e2',kr,kn,hk,hn,hl,q⟩:_:=h;refine⟨_,(EO (UE AK (AX La (Cp LU T.B.len CG (qA (GY T.cl_Known T.na_Known_marks (qv 0)) qN)) (qv 1)) (qO (E3 (Ff T.cl_Known T.x51.d (wZ T) nofun (qv 0) (qA Aj qN))))) (qO (UE AK (AX Lb (Cp LU T.B.len CG (qA (GY T.cl_Known T.na_Known_marks (qv 0)) qN)) (qv 1)) (qO (E3 (Km T.cl_Known T.x52.d (lH T) nofun (qv 0))))))),?_⟩
 (try simp only[MC,Mz,MA])
 refine⟨λτ M'=>(FQ T.C_Known M' A E row (ms++Ax (n-ms.length) 0) (ms++Ax (n-ms.length) 0)/\Jh A M M')/\τ=[some (.ref A.o),some (.int n)],?_,?_⟩
 .refine⟨λk τ M'=>∃j,(k=n-(ms.length+j)/\j<=n-ms.length/\FQ T.C_Known M' A E row (ms++Ax j 0) (ms++Ax j 0)/\Jh A M M')/\τ=[some (.ref A.o),some (.int n)],⟨_,0,⟨rfl,Ef _,by rw[IM,CH];exact kn,Jh.refl A M⟩,rfl⟩,?_⟩;intro k τ M' hI';refine Ao λG' kk'=>?_;obtain⟨j,⟨e1',hj,kn',ko⟩,e2'⟩:=hI';refine kk' ?_;clear kk';subst e1' e2';grind;rw[kn'.o,Hn,QI,BR,Q5 kn'.m,BR]
  (try grind)
  rw[Bn];refine Cz (λc=>?_) λc=>?_
  .refine⟨LV (by nofun) (by nofun) (by nofun),A,E,row,ms++Ax j 0,0,rfl,rfl,kr,kn',by rw[Aq,Bn];ext,.inl rfl,Ys hk (jE j),λM2 k2 o2=>⟨n-(ms.length+(j+1)),by ext,j+1,rfl,by ext,?_,ko.trans o2⟩⟩;rw[Oj,<- Bo];exact k2
  .have e:j=n-ms.length:=by ext
   subst e;exact⟨kn',ko⟩
 rintro τ M' ⟨⟨kn',ko⟩,rfl⟩;have e1:(ms++Ax (n-ms.length) 0).length=max n ms.length:=by rw[Aq,Bn];ext
 have hk1:Ld (ms++Ax (n-ms.length) 0):=Ys hk (jE _);unfold HC at q;generalize ms++Ax (n-ms.length) 0=ms1 at kn' e1 hk1 q;refine⟨λk τ M2=>(n+k<=ms1.length/\FQ T.C_Known M2 A E row (ms1.take (n+k)) (ms1.take (n+k))/\Jh A M' M2)/\τ=[some (.ref A.o),some (.int n)],⟨ms1.length-n,⟨by ext,by rw[BO (by ext)];exact kn',Jh.refl A M'⟩,rfl⟩,?_⟩;intro k τ M2 hI';refine Ao λG' kk'=>?_;obtain⟨⟨hk2,kn2,ko2⟩,e1'⟩:=hI';refine kk' ?_;clear kk';subst e1';grind;rw[kn2.o,Hn,QI,BR,Q5 kn2.m,BR]
 (try grind)
 rw[AY];refine Cz (λc=>?_) λc=>?_
 .obtain⟨k',rfl⟩:∃k',k=k'+1:=⟨k-1,by ext⟩;have hlt:n+k' < ms1.length:=by ext
  have e:ms1.take (n+(k'+1))=ms1.take (n+k')++[ms1[n+k']'hlt]:=JI hlt;have hm:=sJ hk1 (n+(k'+1));rw[e]at kn2 hm;exact⟨LV (by nofun) (by nofun) (by nofun),A,E,row,ms1.take (n+k'),_,rfl,kr,kn2,by rw[AY];ext,hm,λM3 k3 o3=>⟨k',by ext,by ext,k3,ko2.trans o3⟩⟩
 .have e:k=0:=by ext
  subst e;exact Dn.of (q M2 kn2 (ko.trans ko2))
end
noncomputable def Zu (ms:List Int):Sn:=(ms.length,KC ms,Ln ms)
noncomputable def Ra (row:List (Str×Str×Nat))(ks:List Int)(E:Str->List (Str×Nat))(s x:Str):Sn:=((E s).lookup x).elim n0 λw=>Zu (Lk row ks s x w)
noncomputable def ZE (row:List (Str×Str×Nat))(ks:List Int)(E:Str->List (Str×Nat))(so:Str):YH:=⟨Ra row ks E "box",Ra row ks E so,Ra row ks E "door"⟩
noncomputable def gM (row:List (Str×Str×Nat))(ks:List Int)(E:Str->List (Str×Nat))(so:Str)(t:Tm):Int:=gD (t.rs (ZE row ks E so)).2.1 (t.rs (ZE row ks E so)).2.2
structure V8 (E:Str->List (Str×Nat))(so:Str)(bs es:List (Str×Int))(t:Tm):Prop where
 w:Wd bs es t 1
 n:t.deep<=12
 b:∀x,Tm.box x∈t.leaves->∃w:Nat,bs.lookup x=some (w:Int)/\(x,w)∈E "box"
 l:∀x,Tm.late x∈t.leaves->∃w:Nat,bs.lookup x=some (w:Int)/\(x,w)∈E so
 d:∀x,Tm.door x∈t.leaves->∃w:Nat,es.lookup x=some (w:Int)/\(x,w)∈E "door"
theorem oM :∀{l:List (Str×α)},(l.map (·.1)).Nodup->(z,v)∈l->l.lookup z=some v
 |[],_,h=>nomatch h
 |p::l,nd,h=>by
  rw[AR,Eg]at nd;rw[Bs];rcases A3.mp h with e|h
  .subst e;simp
  .have ne:z≠p.1:=λe=>nd.1 (e ▸ GR h);rw[show(z == p.1)=false by simpa using ne];exact oM nd.2 h
theorem e7 (kr:N8 E row)(ks:List Int){w:Nat}(h:(z,w)∈E s):Ra row ks E s z=Zu (Lk row ks s z w):=by
 unfold Ra;rw[oM (kr.e s).1 h];rfl
theorem dq {w:Nat}(h:ms.length=w)(h1:1<=w)(h2:w<=64):Rg (Zu ms)/\(Zu ms).1=w:=by
 have l1:=nT ms;have l2:=nP ms;refine⟨⟨?_,⟨Tc ms,?_⟩,⟨Tb ms,?_⟩⟩,?_⟩
 .show(1:Int)<=ms.length/\(ms.length:Int)<=64;ext
 .show KC ms<2^(ms.length:Int).toNat
  rw[BD];exact l1
 .show Ln ms<2^(ms.length:Int).toNat
  rw[BD];exact l2
 .show(ms.length:Int)=w;rw[h]
theorem V8.dt {E:Str->List (Str×Nat)}{row:List (Str×Str×Nat)}(kr:N8 E row)(g:V8 E so bs es t):DT (HK row ks E "box") (HK row ks E so) (HK row ks E "door") bs es (ZE row ks E so) t:=by
 have go:∀{s x:Str} {w:Nat},(x,w)∈E s->(Rg (Ra row ks E s x)/\(Ra row ks E s x).1=w)/\Do (HK row ks E s) (.inr x)=some (G9 (Ra row ks E s x)):=λ{s x w} h=>by
  have e:=(kr.e s).2.2 _ h;rw[e7 kr ks h];exact⟨dq (aK ..) e.1 e.2,jK (kr.e s).1 h⟩
 refine⟨λx hx=>?_,λx hx=>?_,λx hx=>?_⟩
 .obtain⟨w,h1,h2⟩:=g.b x hx;exact⟨_,h1,go h2⟩
 .obtain⟨w,h1,h2⟩:=g.l x hx;exact⟨_,h1,go h2⟩
 .obtain⟨w,h1,h2⟩:=g.d x hx;exact⟨_,h1,go h2⟩
abbrev Zc0 (C:Av)(ds:List D)(M:Mp)(Q:El):Prop:=Je ds λx y z=>∃(A:KA) (E:Str->List (Str×Nat)) (row:List (Str×Str×Nat)) (ms:List Int) (t:Tm) (so:Str) (bs es:List (Str×Int)),x=.ref A.o/\y=t.D/\z=.str so/\KI so/\N8 E row/\FQ C M A E row ms ms/\Ld ms/\V8 E so bs es t/\Q (.int (gM row ms E so t)) M
section
theorem xC:Om T T.x59 19 (Zc0 T.C_Known):=by
 refine CI.p3 T.x59.d.F ["self", "guard", "sort"] λx y z M Q hr nN h=>?_;obtain⟨A,E,row,ms,t,so,bs,es,e1',e2',e3',hs,kr,kn,hk,gd,q⟩:_:=h;refine⟨_,(qO (CC (Be Hr (Ay T.x20.d (z6 T) nofun (qA (Ay T.x23.d (vJ T 12) nofun (qA (qv 1) (qA (CB (qA (Fg (J2 hr) (GY T.cl_Known T.na_Known_spans (qv 0)) BQ (λ_ _=>rfl)) (qA (Fg (J2 hr) (GY T.cl_Known T.na_Known_spans (qv 0)) (qv 2) (λ_ _=>rfl)) (qA (Fg (J2 hr) (GY T.cl_Known T.na_Known_spans (qv 0)) BQ (λ_ _=>rfl)) qN)))) qN))) qN)) Aj))),?_⟩;right;rw[kn.o,Hn,Yv,BR,Rc kn.d,BR]
 (try grind)
 rw[VI (.inl rfl),BR,Yv,BR,Rc kn.d,BR,VI hs,BR,BR,Rc kn.d,BR,VI (.inr (.inl rfl)),BR];have e1:=(iD gd.w (gd.dt (ks:=ms) kr)).1
 (try grind)
 refine⟨_,_,_,_,_,_,bs,es,ZE row ms E so,rfl,⟨Rc (kn.s "box" (.inl rfl)),Rc (kn.s so hs),Rc (kn.s "door" (.inr (.inl rfl)))⟩,gd.n,⟨1,gd.w⟩,gd.dt kr,_,rfl,e1.2,λp hp=>?_⟩;exact QC (Sub.put hp) q
end
structure YO (E:Str->List (Str×Nat))(bs es:List (Str×Int))(t u:Tm):Prop where
 a:V8 E "one" bs es t
 b:V8 E "other" bs es u
abbrev ZbU (C:Av)(ds:List D)(M:Mp)(Q:El):Prop:=FF ds λx y=>∃(A:KA) (E:Str->List (Str×Nat)) (row:List (Str×Str×Nat)) (ms:List Int) (t u:Tm) (bs es:List (Str×Int)),x=.ref A.o/\y=.tup [t.D,u.D]/\N8 E row/\FQ C M A E row ms ms/\Ld ms/\YO E bs es t u/\Q (.tup [.int (gM row ms E "one" t),.int (gM row ms E "other" u)]) M
section
theorem xE:Om T T.x58 20 (ZbU T.C_Known):=by
 refine CI.p2 T.x58.d.F ["self", "guards"] λx y M Q hr nN h=>?_;obtain⟨A,E,row,ms,t,u,bs,es,e1',e2',kr,kn,hk,gd,q⟩:_:=h;refine⟨_,(qO (CC (CB (qA (Ff T.cl_Known T.x59.d (xC T) nofun (qv 0) (qA (Be BA (qv 1) Aj) (qA BQ qN))) (qA (Ff T.cl_Known T.x59.d (xC T) nofun (qv 0) (qA (Be BA (qv 1) Aj) (qA BQ qN))) qN))))),?_⟩;right;rw[kn.o,Hn];refine⟨LV (by nofun) (by nofun) (by nofun),A,E,row,ms,t, "one",bs,es,rfl,rfl,rfl,.inr (.inr (.inl rfl)),kr,kn,hk,gd.a,?_⟩
 (try grind)
 refine⟨LV (by nofun) (by nofun) (by nofun),A,E,row,ms,u, "other",bs,es,rfl,rfl,rfl,.inr (.inr (.inr rfl)),kr,kn,hk,gd.b,?_⟩
 (try grind)
 exact Dn.of q
end
noncomputable def Q4 (row:List (Str×Str×Nat))(E:Str->List (Str×Nat))(t u:Tm)(ms:List Int):Bool:=decide (gM row ms E "one" t=0\/gM row ms E "other" u=0\/(gM row ms E "one" t=1/\gM row ms E "other" u=1))
abbrev ZbZ (C:Av)(ds:List D)(M:Mp)(Q:El):Prop:=Je ds λx n y=>∃(A:KA) (E:Str->List (Str×Nat)) (row:List (Str×Str×Nat)) (ms:List Int) (t u:Tm) (bs es:List (Str×Int)) (k:Nat),x=.ref A.o/\n=.int k/\y=.tup [t.D,u.D]/\N8 E row/\FQ C M A E row ms ms/\Ld ms/\YO E bs es t u/\k<=row.length/\ms.length<=row.length/\∀M',FQ C M' A E row (HC k ms) (HC k ms)->Jh A M M'->Q (.bl (Q4 row E t u (HC k ms))) M'
section
theorem xD:Om T T.x55 21 (ZbZ T.C_Known):=by
 refine CI.p3 T.x55.d.F ["self", "many", "guards", "held"] λx n y M Q hr nN h=>?_;obtain⟨A,E,row,ms,t,u,bs,es,k,e1',e2',e3',kr,kn,hk,gd,h1,h2,q⟩:_:=h;refine⟨_,(qC (E3 (Ff T.cl_Known T.x53.d (wF T) nofun (qv 0) (qA (qv 1) qN))) (qC (Cw 3 nN (Ff T.cl_Known T.x58.d (xE T) nofun (qv 0) (qA (qv 2) qN))) (qO (CC (fZ (Jx OX Aj (qv 3) (by with_unfolding_all rfl)) (NQ (Jx (hU (Jz hr)) (qv 3) (CB (qA Aj (qA Aj qN)))))))))),?_⟩;right;rw[kn.o,Hn];refine⟨LV (by nofun) (by nofun) (by nofun),A,E,row,ms,k,rfl,rfl,kr,kn,hk,h1,h2,λM' kn' ko=>?_⟩
 (try grind)
 rw[kn'.o,Hn];refine⟨LV (by nofun) (by nofun) (by nofun),A,E,row,_,t,u,bs,es,rfl,rfl,kr,kn',aI hk k,gd,?_⟩
 (try grind)
 have z:=q M' kn' ko;unfold Q4 at z;refine Cz (λc=>?_) λc=>?_
 .rw[decide_eq_true (c.elim .inl λh=>.inr (.inl h))]at z;exact Dn.of z
 .rw[<- RG];rw[decide_eq_decide.mpr ⟨λh=>h.elim (λh=>absurd (.inl h) c) λh=>h.elim (λh=>absurd (.inr h) c) id,λh=>.inr (.inr h)⟩]at z;exact Dn.of z
end
theorem ZT (h:ms.length<=n):HC n ms=ms++Ax (n-ms.length) 0:=by
 unfold HC;exact BO (by rw[Aq,Bn];ext)
theorem t9 (ms:List Int):HC ms.length ms=ms:=by rw[ZT (AJ _),Jm,IM,CH]
theorem Yp {a b:Nat}{ms:List Int}(ha:ms.length<=a)(hb:ms.length<=b):HC b (HC a ms)=HC b ms:=by
 rw[ZT hb];unfold HC;have e:(ms++Ax (a-ms.length) (0:Int)).take a=ms++Ax (a-ms.length) 0:=ZT ha;rw[e,Aq,Bn,Bo,List.replicate_append_replicate,List.take_append,BO hb,List.take_replicate];congr 2
 ext
noncomputable def Vm (st:Nat->Bool)(b L:Nat):Nat->Nat->Nat->Nat×Nat
 |0,lo,hi=>(lo,hi)
 |f+1,lo,hi=>if st hi=true then(lo,hi)else Vm st b L f (hi+1) (min (b+2*(hi+1-b)) L)
noncomputable def Vt (st:Nat->Bool):Nat->Nat->Nat->Nat
 |0,_,hi=>hi
 |f+1,lo,hi=>if lo<hi then(if st ((lo+hi) / 2)=true then Vt st f lo ((lo+hi) / 2)else Vt st f ((lo+hi) / 2+1) hi)else hi
noncomputable def ZD (st:Nat->Bool)(b L:Nat):Nat:=Vt st (L+1) (Vm st b L (L+1) b b).1 (Vm st b L (L+1) b b).2
abbrev Zeg (C:Av)(ds:List D)(M:Mp)(Q:El):Prop:=FF ds λx y=>∃(A:KA) (E:Str->List (Str×Nat)) (row:List (Str×Str×Nat)) (ms:List Int) (t u:Tm) (bs es:List (Str×Int)) (st:Nat->Bool),x=.ref A.o/\y=.tup [t.D,u.D]/\N8 E row/\FQ C M A E row ms ms/\Ld ms/\YO E bs es t u/\ms.length<=row.length/\(∀k,Q4 row E t u (HC k ms)=st k)/\st row.length=true/\∀M' N,ZD st ms.length row.length=N->ms.length<=N->N<=row.length->st N=true->FQ C M' A E row (HC N ms) (HC N ms)->Jh A M M'->Q .non M'
section
theorem Zeq:Om T T.x54 22 (Zeg T.C_Known):=by
 refine CI.p2 T.x54.d.F ["self", "guards", "begin", "low", "high", "middle"] λx y M Q hr nN h=>?_;obtain⟨A,E,row,ms,t,u,bs,es,st,e1',e2',kr,kn,hk,gd,n1,hst,hL,q⟩:_:=h;have r5:=kr.l;refine⟨_,(qC (Cw 2 nN (Cp LU T.B.len CG (qA (GY T.cl_Known T.na_Known_marks (qv 0)) qN))) (qC (Cw 3 nN (qv 2)) (qC (Cw 4 nN (qv 2)) (EO (UE AK (Li (GF (Ff T.cl_Known T.x55.d (xD T) nofun (qv 0) (qA (qv 4) (qA (qv 1) qN))))) (qC (Cw 3 nN (BC Hl (qv 4) Aj)) (qO (Cw 4 nN (Cp (yG rfl) T.B.min boot_min (qA (BC Hl (qv 2) (BC Uo Aj (BC ML (qv 3) (qv 2)))) (qA (Cp LU T.B.len CG (qA (GY T.cl_Known T.na_Known_row (qv 0)) qN)) qN))))))) (EO (UE AK (AX La (qv 3) (qv 4)) (qC (Cw 5 nN (BC KD (BC Hl (qv 3) (qv 4)) Aj)) (qO (Ez (GF (Ff T.cl_Known T.x55.d (xD T) nofun (qv 0) (qA (qv 5) (qA (qv 1) qN)))) (qO (Cw 4 nN (qv 5))) (qO (Cw 3 nN (BC Hl (qv 5) Aj))))))) (qO (E3 (Ff T.cl_Known T.x53.d (wF T) nofun (qv 0) (qA (qv 4) qN))))))))),?_⟩;right;rw[kn.o,Hn,QI,BR,Q5 kn.m,BR,Ab]
 (try grind)
 generalize hG:D.tup [t.D,u.D]=G;unfold ZD at q;generalize hP:Vm st ms.length row.length (row.length+1) ms.length ms.length=P0 at q;refine⟨λτ M'=>∃lo hi c:Nat,((ms.length<=lo/\lo<=hi/\hi<=row.length/\P0=(lo,hi)/\st hi=true)/\(ms.length<=c/\c<=row.length)/\FQ T.C_Known M' A E row (HC c ms) (HC c ms)/\Jh A M M')/\τ=[some (.ref A.o),some G,some (.int ms.length),some (.int lo),some (.int hi),none],?_,?_⟩
 .refine⟨λk τ M'=>∃lo hi c:Nat,((ms.length<=lo/\lo<=hi/\hi<=row.length/\row.length-hi+1<=k/\Vm st ms.length row.length k lo hi=P0)/\(ms.length<=c/\c<=row.length)/\FQ T.C_Known M' A E row (HC c ms) (HC c ms)/\Jh A M M')/\τ=[some (.ref A.o),some G,some (.int ms.length),some (.int lo),some (.int hi),none],⟨row.length+1,ms.length,ms.length,ms.length,⟨⟨AJ _,AJ _,n1,by ext,hP⟩,⟨AJ _,n1⟩,by rw[t9];exact kn,Jh.refl A M⟩,rfl⟩,?_⟩;intro k τ M' hI';refine Ao λG' kk'=>?_;obtain⟨lo,hi,c,⟨⟨h1,h3,h4,hf,hu⟩,⟨c1,c2⟩,kn',ko⟩,e1'⟩:=hI';refine kk' ?_;clear kk';subst e1';obtain⟨k,rfl⟩:∃k',k=k'+1:=⟨k-1,by ext⟩;rw[Vm]at hu;grind;rw[kn'.o,Hn];subst hG;refine⟨LV (by nofun) (by nofun) (by nofun),A,E,row,_,t,u,bs,es,hi,rfl,rfl,rfl,kr,kn',aI hk c,gd,h4,by rw[Yq];exact c2,λM2 k2 o2=>?_⟩;rw[Yp c1 (by ext)]at k2;rw[Yp c1 (by ext),hst];cases es0:st hi with
  |true=>
   rw[es0,if_pos rfl]at hu
   (try grind)
   exact⟨lo,hi,hi,⟨⟨h1,h3,h4,hu.symm,es0⟩,⟨by ext,h4⟩,k2,ko.trans o2⟩,rfl⟩
  |false=>
   rw[es0,if_neg Al]at hu
   have hlt:hi<row.length:=by
    rcases GU hi row.length with h|h
    .exact h
    .rw[show hi=row.length by ext,hL]at es0;cases es0
   (try grind)
   have ho:(min (ms.length+2*(hi+1-ms.length)) row.length:Nat)=(if (row.length:Int)<ms.length+2*(hi+1-ms.length)then(row.length:Int)else ms.length+2*(hi+1-ms.length)):=by
    split<;>ext
   refine⟨?_,?_⟩
   .exact .inl ⟨by ext,by ext⟩
   rw[k2.o,Hn,oN,BR,Q5 k2.q,BR,Ab,<- ho];exact⟨k,by ext,hi+1,min (ms.length+2*(hi+1-ms.length)) row.length,hi,⟨⟨by ext,by ext,by ext,by ext,hu⟩,⟨by ext,h4⟩,k2,ko.trans o2⟩,rfl⟩
 intro τ M';ext1⟨lo,hi,c,⟨⟨h1,h3,h4,hp,hs⟩,⟨c1,c2⟩,kn',ko⟩,e1'⟩;subst hp;dsimp only at q;generalize hR:Vt st (row.length+1) lo hi=N at q;refine⟨λτ M'=>∃c:Nat,((ms.length<=c/\c<=row.length)/\FQ T.C_Known M' A E row (HC c ms) (HC c ms)/\Jh A M M'/\ms.length<=N/\N<=row.length/\st N=true)/\∃x,τ=[some (.ref A.o),some G,some (.int ms.length),some (.int N),some (.int N),x],?_,?_⟩
 .refine⟨λk τ M'=>∃lo hi c:Nat,((ms.length<=lo/\lo<=hi/\hi<=row.length/\hi-lo+1<=k/\Vt st k lo hi=N/\st hi=true)/\(ms.length<=c/\c<=row.length)/\FQ T.C_Known M' A E row (HC c ms) (HC c ms)/\Jh A M M')/\∃x,τ=[some (.ref A.o),some G,some (.int ms.length),some (.int lo),some (.int hi),x],⟨_,lo,hi,c,⟨⟨h1,h3,h4,by ext,hR,hs⟩,⟨c1,c2⟩,kn',ko⟩,_,rfl⟩,?_⟩;clear hs hR hP c1 c2 kn' ko h1 h3 h4;intro k τ M';ext1⟨lo,hi,c,⟨⟨h1,h3,h4,hf,hu,hs⟩,⟨c1,c2⟩,kn',ko⟩,x,e1'⟩;obtain⟨k,rfl⟩:∃k',k=k'+1:=⟨k-1,by ext⟩;rw[Vt]at hu;grind;subst hG;refine Cz (λc=>?_) λc=>?_
  .have clt:lo<hi:=by ext
   rw[if_pos clt]at hu;have em:((lo:Int)+hi) / 2=((lo+hi) / 2:Nat):=by ext
   rw[em];refine⟨by unfold UU;ext,?_⟩;rw[kn'.o,Hn];refine⟨LV (by nofun) (by nofun) (by nofun),A,E,row,_,t,u,bs,es,(lo+hi) / 2,rfl,rfl,rfl,kr,kn',aI hk _,gd,by ext,by rw[Yq];exact c2,λM2 k2 o2=>?_⟩;rw[Yp c1 (by ext)]at k2;rw[Yp c1 (by ext),hst];cases es0:st ((lo+hi) / 2)with
   |true=>
    rw[es0,if_pos rfl]at hu
    (try grind)
    exact⟨k,by ext,lo,(lo+hi) / 2,(lo+hi) / 2,⟨⟨h1,by ext,by ext,by ext,hu,es0⟩,⟨by ext,by ext⟩,k2,ko.trans o2⟩,_,rfl⟩
   |false=>
    rw[es0,if_neg Al]at hu
    (try grind)
    exact⟨k,by ext,(lo+hi) / 2+1,hi,(lo+hi) / 2,⟨⟨by ext,by ext,h4,by ext,hu,hs⟩,⟨by ext,by ext⟩,k2,ko.trans o2⟩,_,rfl⟩
  .have e:lo=hi:=by ext
   rw[if_neg (by ext)]at hu;subst hu;subst e;exact⟨_,⟨⟨c1,c2⟩,kn',ko,h1,h4,hs⟩,_,rfl⟩
 intro τ M2;ext1⟨c',⟨⟨c1',c2'⟩,kn2,ko2,N1,N2,sN⟩,x,e1'⟩;grind;rw[kn2.o,Hn];refine⟨LV (by nofun) (by nofun) (by nofun),A,E,row,_,N,rfl,rfl,kr,kn2,aI hk _,N2,by rw[Yq];exact c2',λM3 k3 o3=>?_⟩;rw[Yp c1' N1]at k3;exact Dn.of (q M3 N rfl N1 N2 sN k3 (ko2.trans o3))
end
abbrev Zfr (C:Av)(ds:List D)(M:Mp)(Q:El):Prop:=GG ds λx=>∃(A:KA) (E:Str->List (Str×Nat)) (row:List (Str×Str×Nat)) (a:List Int) (k:Nat),x=.ref A.o/\N8 E row/\FQ C M A E row (a++Ax k 1) (a++Ax k 1)/\Ld a/\(a++Ax k 1).length<=row.length/\((a=[]/\∀M',FQ C M' A E row [] []->Jh A M M'->Q (.bl false) M')\/∃b,a=b++[0]/\∀M',FQ C M' A E row (b++[1]) (b++[1])->Jh A M M'->Q (.bl true) M')
theorem qY (k:Nat):Ld (Ax k 1):=λm hm=>.inr (.inl (EN hm))
theorem mZ (xs:List Int)(m:Int):FG ((xs++[m]).map D.int) (-1)=some (.int m):=by
 rw[AI];exact qz _ _
section
theorem ZfM:Om T T.x57 4 (Zfr T.C_Known):=by
 refine CI.p1 T.x57.d.F ["self"] λx M Q hr nN h=>?_;obtain⟨A,E,row,a,k,e1',kr,kn,hk,hl,q⟩:_:=h;refine⟨_,(EO (UE AK ((VE (AX Lb (Cp LU T.B.len CG (qA (GY T.cl_Known T.na_Known_marks (qv 0)) qN)) Aj) (VS (AX CO (Be Hr (GY T.cl_Known T.na_Known_marks (qv 0)) (Q6 ZP Aj)) Aj)))).pt (qO (E3 (Km T.cl_Known T.x52.d (lH T) nofun (qv 0))))) (qC (Ez (AX CO (Cp LU T.B.len CG (qA (GY T.cl_Known T.na_Known_marks (qv 0)) qN)) Aj) (qO (CC T8)) qE) (qC (E3 (Km T.cl_Known T.x52.d (lH T) nofun (qv 0))) (qC (E3 (Ff T.cl_Known T.x51.d (wZ T) nofun (qv 0) (qA Aj qN))) (qO (CC T8)))))),?_⟩
 (try simp only[MC,Mz,MA])
 refine⟨λτ M'=>(FQ T.C_Known M' A E row a a/\Jh A M M')/\τ=[some (.ref A.o)],?_,?_⟩
 .refine⟨λj τ M'=>(j<=k/\FQ T.C_Known M' A E row (a++Ax j 1) (a++Ax j 1)/\Jh A M M')/\τ=[some (.ref A.o)],⟨k,⟨AJ _,kn,Jh.refl A M⟩,rfl⟩,?_⟩;intro j τ M';ext1⟨⟨hj,kn',ko⟩,e1'⟩;grind;rw[kn'.o,Hn,QI,BR,Q5 kn'.m,BR];rw[Ab];refine Cz (λc=>?_) λc=>?_
  .rw[Hn,QI,BR,gF kn'.m,BR];cases j with
   |zero=>
    rw[IM,CH]at c kn' ⊢;rcases q with⟨rfl,-⟩|⟨b,rfl,-⟩
    .exact absurd c (by simp)
    rw[mZ,BR]
    (try grind)
    exact⟨kn',ko⟩
   |succ j=>
    rw[Oj,<- Bo]at c kn' ⊢;rw[mZ,BR]
    (try grind)
    rw[kn'.o,Hn];exact⟨LV (by nofun) (by nofun) (by nofun),A,E,row,_,1,rfl,kr,kn',by rw[Aq,Bn]at hl ⊢;ext,Ys (Ys hk (qY j)) (qY 1),λM2 k2 o2=>⟨j,by ext,by ext,k2,ko.trans o2⟩⟩
  .have e:a++Ax j 1=[]:=AG (by ext);rw[e]at kn';rw[(List.append_eq_nil_iff.mp e).1];exact⟨kn',ko⟩
 rintro τ M' ⟨⟨kn',ko⟩,rfl⟩;grind;rw[kn'.o,Hn,QI,BR,Q5 kn'.m,BR]
 (try grind)
 rcases q with⟨rfl,q⟩|⟨b,rfl,q⟩
 .exact Dn.of (q M' kn' ko)
 .rw[if_neg (by rw[Aq];show¬((b.length+1:Nat):Int)=0;ext)];have l1:b.length<row.length:=by rw[Aq,Aq]at hl;change b.length+1+_<=_ at hl;ext
  refine⟨LV (by nofun) (by nofun) (by nofun),A,E,row,b,0,rfl,kr,kn',l1,hk,λM2 k2 o2=>?_⟩;rw[k2.o,Hn];exact⟨LV (by nofun) (by nofun) (by nofun),A,E,row,b,1,rfl,rfl,kr,k2,l1,.inr (.inl rfl),λm hm=>hk m (CK _ hm),λM3 k3 o3=>Dn.of (q M3 k3 ((ko.trans o2).trans o3))⟩
end
noncomputable def Vs (row:List (Str×Str×Nat))(ms:List Int)(E:Str->List (Str×Nat))(s:Str):List (Str×Int):=(E s).map λn=>(n.1,KC (Lk row ms s n.1 n.2))
abbrev Zch (C:Av)(ds:List D)(M:Mp)(Q:El):Prop:=FF ds λx y=>∃(A:KA) (E:Str->List (Str×Nat)) (row:List (Str×Str×Nat)) (ms:List Int) (s:Str),x=.ref A.o/\y=.str s/\KI s/\N8 E row/\M A.o=some (.obj C (Nf A))/\M A.d=some (.dic (I8 A))/\M (A.at s)=some (.dic (HK row ms E s))/\Q (.dic (Fd (Vs row ms E s))) (JA M (A.at s))
section
theorem bS:Om T T.x61 3 (Zch T.C_Known):=by
 refine CI.p2 T.x61.d.F ["self", "sort", "named"] λx y M Q hr nN h=>?_;obtain⟨A,E,row,ms,so,e1',e2',hs,kr,k1,k2,k3,q⟩:_:=h;refine⟨_,(qC (ZX (i:=2) nN rfl (G4 rfl) (K9 (Fg (J2 hr) (GY T.cl_Known T.na_Known_spans (qv 0)) (qv 1) (λ_ _=>rfl)))) (qO (CC (D9 (aN rfl) T.B.dict LA (qA (RO (caps:=[("named",2)]) (j:=2) ⟨rfl,by rfl,by rfl,by rfl,rfl,by rfl,by nofun⟩ rfl rfl (G4 (BX rfl)) (by decide) (by decide) (λ_ _ _ _ _ _ _=>(CB (qA (qv 0) (qA (Be BA (Fg (J2 hr) (qv 1) (qv 0) (λ_ _=>rfl)) Aj) qN))))) qN))))),?_⟩;right;rw[k1,Hn,Yv,BR,Rc k2,BR,VI hs,BR]
 (try grind)
 rw[k3]
 (try grind)
 have e12:=(kr.e so).2.1
 have ek:E4 (λp:B4×D=>kD p.1) (HK row ms E so)=(E so).map λn=>.str n.1:=by
  unfold HK;rw[Bv];rfl
 rw[ek];refine EL.of (ks:=E so) (g:=λn=>.str n.1) (f:=λn=>.tup [.str n.1,.int (KC (Lk row ms so n.1 n.2))]) (GD (by ext)) trivial (λn hn R r=>?_) ?_
 .walk_at "cap";rw[jK (kr.e so).1 hn,BR];unfold Na
  (try grind)
  exact r
 refine⟨Fd (Vs row ms E so),?_,GD (by unfold Fd Vs;rw[Ab,Ab];ext),?_⟩
 .simp[GZ,Fd,Vs,kD]
 rw[bH _ (jV _ (by unfold Vs;rw[Bv];exact(kr.e so).1))];exact Dn.of q
end
noncomputable def ZA (row:List (Str×Str×Nat))(ms:List Int)(E:Str->List (Str×Nat))(s:Str):D:=.dic (Fd (Vs row ms E s))
noncomputable def OD (row:List (Str×Str×Nat))(ms:List Int)(E:Str->List (Str×Nat)):D:=.tup [.str "both",ZA row ms E "box",ZA row ms E "door",ZA row ms E "one",ZA row ms E "other"]
abbrev Zc1 (C:Av)(ds:List D)(M:Mp)(Q:El):Prop:=GG ds λx=>∃(A:KA) (E:Str->List (Str×Nat)) (row:List (Str×Str×Nat)) (ms:List Int),x=.ref A.o/\N8 E row/\FQ C M A E row ms ms/\Q (OD row ms E) (JA (JA (JA (JA M A.b) A.e) A.f) A.g)
theorem IQ {M:Mp}{p q:Av}(h:p≠q):JA M q p=M p:=if_neg h
theorem FQ.one {C:Av}{M:Mp}{A:KA}{E:Str->List (Str×Nat)}{row:List (Str×Str×Nat)}{ms ks:List Int}(kn:FQ C M A E row ms ks){s:Str}(hs:KI s):A.o≠A.at s:=λe=>by
 have hd:=kn.o;rw[e,kn.s s hs]at hd;cases hd
section
theorem Zc4:Om T T.x60 4 (Zc1 T.C_Known):=by
 refine CI.p1 T.x60.d.F ["self"] λx M Q hr nN h=>?_;obtain⟨A,E,row,ms,e1',kr,kn,q⟩:_:=h;refine⟨_,(qO (CC (CB (qA BQ (qA (Ff T.cl_Known T.x61.d (bS T) nofun (qv 0) (qA BQ qN)) (qA (Ff T.cl_Known T.x61.d (bS T) nofun (qv 0) (qA BQ qN)) (qA (Ff T.cl_Known T.x61.d (bS T) nofun (qv 0) (qA BQ qN)) (qA (Ff T.cl_Known T.x61.d (bS T) nofun (qv 0) (qA BQ qN)) qN)))))))),?_⟩;have sb:KI "box":=.inl rfl;have sd:KI "door":=.inr (.inl rfl);have so:KI "one":=.inr (.inr (.inl rfl));have st:KI "other":=.inr (.inr (.inr rfl));have nd:=kn.nd;simp only[Eg,By,AS,or_false,not_or]at nd;obtain⟨⟨n1,n2,n3⟩,⟨n4,n5⟩,n6,-⟩:_:=nd;have o1:=kn.one sb;have o2:=kn.one sd;have o3:=kn.one so;have d1:=kn.dne sb;have d2:=kn.dne sd;have d3:=kn.dne so;have k1:=kn.s _ sb;have k2:=kn.s _ sd;have k3:=kn.s _ so;have k4:=kn.s _ st;simp only[Uq,Ux,Ur,UC]at o1 o2 o3 d1 d2 d3 k1 k2 k3 k4;have no:∀{B:KA},BG (Ak "low_words") (Nf B)=none:=λ{B}=>LV (by nofun) (by nofun) (by nofun);right;rw[kn.o,Hn];refine⟨no,A,E,row,ms, "box",rfl,rfl,sb,kr,kn.o,kn.d,by rw[Uq];exact k1,?_⟩;rw[Uq,IQ o1,kn.o,Hn];refine⟨no,A,E,row,ms, "door",rfl,rfl,sd,kr,by rw[IQ o1];exact kn.o,by rw[IQ d1];exact kn.d,by rw[Ux,IQ (Bj n1)];exact k2,?_⟩;rw[Ux,IQ o2,IQ o1,kn.o,Hn];refine⟨no,A,E,row,ms, "one",rfl,rfl,so,kr,by rw[IQ o2,IQ o1];exact kn.o,by rw[IQ d2,IQ d1];exact kn.d,by rw[Ur,IQ (Bj n4),IQ (Bj n2)];exact k3,?_⟩;rw[Ur,IQ o3,IQ o2,IQ o1,kn.o,Hn];refine⟨no,A,E,row,ms, "other",rfl,rfl,st,kr,by rw[IQ o3,IQ o2,IQ o1];exact kn.o,by rw[IQ d3,IQ d2,IQ d1];exact kn.d,by rw[UC,IQ (Bj n6),IQ (Bj n5),IQ (Bj n3)];exact k4,?_⟩;rw[UC];exact Dn.of q
end
def QR (ms:List Int):Prop:=∀m∈ms,m=0\/m=1
theorem nS:∀{ms:List Int},QR ms->KC ms=Ln ms
 |[],_=>rfl
 |m::ms,h=>by
  rw[me,j5,nS λx hx=>h x (AE _ hx)];rcases h m AF with rfl|rfl<;>rfl
noncomputable def GI (s z:Str)(w:Nat):List (Str×Str×Nat):=(Bp w).map λi=>(s,z,w-1-i)
theorem vi (s z:Str)(w:Nat):(GI s z w).length=w:=by unfold GI;rw[Ab,B9]
theorem aX {w:Nat} :b∈GI s z w↔b.1=s/\b.2.1=z/\b.2.2<w:=by
 constructor
 .intro h;obtain⟨i,hi,rfl⟩:=An.mp h;have hi:=Cv.mp hi;exact⟨rfl,rfl,by show w-1-i<w;ext⟩
 .rintro⟨rfl,rfl,h⟩;refine An.mpr ⟨w-1-b.2.2,Cv.mpr (by ext),?_⟩;rw[show w-1-(w-1-b.2.2)=b.2.2 by ext]
theorem rb (s z:Str)(w:Nat):(GI s z w).Nodup:=by
 unfold GI Et;rw[Cj];refine Wx (λ{i j} hi hj h c=>?_) List.pairwise_lt_range;have hi:=Cv.mp hi;have hj:=Cv.mp hj;have:=congrArg (λx:Str×Str×Nat=>x.2.2) c;change w-1-i=w-1-j at this;ext
theorem jJ :∀(l:List (Str×Str×Nat)) (acc:List (Str×Nat)),(∀b∈l,¬(b.1=t/\b.2.1∉acc.map (·.1)))->l.foldl (Nb t) acc=acc
 |[],acc,_=>rfl
 |b::l,acc,h=>by
  rw[DL,show Nb t acc b=acc from if_neg (h b AF)];exact jJ l acc λb hb=>h b (AE _ hb)
theorem qh {w:Nat}(acc:List (Str×Nat))(hw:1<=w):(GI s z w).foldl (Nb t) acc=if s=t/\z∉acc.map (·.1)then acc++[(z,w)]else acc:=by
 by_cases h:s=t/\z∉acc.map (·.1)
 .rw[if_pos h];obtain⟨n,rfl⟩:∃n,w=n+1:=⟨w-1,by ext⟩;unfold GI;rw[EB,AR,DL]
  have e:Nb t acc (s,z,n+1-1-0)=acc++[(z,n+1)]:=by
   unfold Nb;rw[if_pos h];rfl
  rw[e];refine jJ _ _ λb hb c=>c.2 ?_;obtain⟨i,hi,rfl⟩:=An.mp hb;show z∈(acc++[(z,n+1)]).map (·.1);simp
 .rw[if_neg h];refine jJ _ _ λb hb c=>h ?_;obtain⟨h1,h2,-⟩:=aX.mp hb;rw[h1,h2]at c;exact c
noncomputable def Fw (g:List (Str×Str×Nat)):List (Str×Str×Nat):=g.flatMap λp=>GI p.1 p.2.1 p.2.2
noncomputable def LR (p:Str×Str×Nat):Str×Str:=(p.1,p.2.1)
noncomputable def Q7 (g:List (Str×Str×Nat))(s:Str):List (Str×Nat):=(g.filter λp=>decide (p.1=s)).map (·.2)
theorem iO {s:Str}:∀(g:List (Str×Str×Nat)) (acc:List (Str×Nat)),(∀p∈g,1<=p.2.2/\(p.1=s->p.2.1∉acc.map (·.1)))->(g.map LR).Nodup->(Fw g).foldl (Nb s) acc=acc++Q7 g s
 |[],acc,_,_=>(CH acc).symm
 |p::g,acc,h,nd=>by
  obtain⟨h1,h2⟩:=h p AF;rw[AR,Eg]at nd;show(GI p.1 p.2.1 p.2.2++Fw g).foldl (Nb s) acc=_;rw[JJ,qh _ h1];unfold Q7;by_cases e:p.1=s
  .rw[if_pos ⟨e,h2 e⟩,FY,if_pos (decide_eq_true e),AR];rw[iO g (acc++[(p.2.1,p.2.2)]) (λq hq=>⟨(h q (AE _ hq)).1,λeq hm=>?_⟩) nd.2,Bo]
   .rfl
   .rw[AI]at hm;rcases AT.mp hm with hm|hm
    .exact(h q (AE _ hq)).2 eq hm
    .have e2:q.2.1=p.2.1:=by simpa using hm
     exact nd.1 (An.mpr ⟨q,hq,by unfold LR;rw[eq,e,e2]⟩)
  .rw[if_neg (λc=>e c.1),FY,if_neg (by simpa using e)];exact iO g acc (λq hq=>h q (AE _ hq)) nd.2
theorem jD :b∈Fw g↔∃w,(b.1,b.2.1,w)∈g/\b.2.2<w:=by
 constructor
 .intro h;obtain⟨p,hp,hb⟩:=Q0.mp h;obtain⟨e1,e2,e3⟩:=aX.mp hb;exact⟨p.2.2,by rw[e1,e2];exact hp,e3⟩
 .rintro⟨w,h,hw⟩;exact Q0.mpr ⟨_,h,aX.mpr ⟨rfl,rfl,hw⟩⟩
theorem oT:∀(g:List (Str×Str×Nat)),(g.map LR).Nodup->(Fw g).Nodup
 |[],_=>Lw
 |p::g,nd=>by
  rw[AR,Eg]at nd;show(GI p.1 p.2.1 p.2.2++Fw g).Nodup;rw[Fk];refine⟨rb ..,oT g nd.2,λa ha b hb e=>nd.1 ?_⟩;subst e;obtain⟨e1,e2,-⟩:=aX.mp ha;obtain⟨w,hw,-⟩:=jD.mp hb;exact An.mpr ⟨_,hw,by unfold LR;rw[e1,e2]⟩
theorem rN:∀(g:List (Str×Str×Nat)),(∀p∈g,p.2.2<=64)->(Fw g).length<=64*g.length
 |[],_=>AJ _
 |p::g,h=>by
  have:=rN g λq hq=>h q (AE _ hq);have:=h p AF;show(GI p.1 p.2.1 p.2.2++Fw g).length<=_;rw[Aq,vi,AO];ext
theorem Yr {g:List (Str×Str×Nat)}{s z:Str}{w:Nat}:(z,w)∈Q7 g s↔(s,z,w)∈g:=by
 unfold Q7;constructor
 .intro h;obtain⟨p,hp,e⟩:=An.mp h;obtain⟨h1,h2⟩:=Br.mp hp;have h2:=of_decide_eq_true h2;rw[<- e,<- h2];exact h1
 .exact λh=>An.mpr ⟨_,Br.mpr ⟨h,decide_eq_true rfl⟩,rfl⟩
structure UN (g:List (Str×Str×Nat)):Prop where
 nd:(g.map LR).Nodup
 w:∀p∈g,KI p.1/\1<=p.2.2/\p.2.2<=64
 l:g.length<=72
 e:∀s,(Q7 g s).length<=12
theorem UN.en {g:List (Str×Str×Nat)}(h:UN g)(s:Str):Ic (Fw g) s=Q7 g s:=by
 unfold Ic;rw[iO g [] (λp hp=>⟨(h.w p hp).2.1,λ_ hm=>by cases hm⟩) h.nd,FI]
theorem UN.kr {g:List (Str×Str×Nat)}(h:UN g):N8 (Ic (Fw g)) (Fw g):=by
 refine⟨oT g h.nd,λb hb=>?_,λs=>?_,?_⟩
 .obtain⟨w,hw,hl⟩:=jD.mp hb;exact⟨(h.w _ hw).1,w,by rw[h.en];exact Yr.mpr hw,hl⟩
 .rw[h.en];refine⟨?_,h.e s,λn hn=>(h.w _ ((Yr).mp hn)).2⟩;have nd:=h.nd;unfold Q7;unfold Et at nd ⊢;rw[Cj,Cj];rw[Cj]at nd;refine(Kj _ nd).imp_of_mem λ{a b} ha hb hab e=>hab ?_;have e1:=of_decide_eq_true (Br.mp ha).2;have e2:=of_decide_eq_true (Br.mp hb).2;unfold LR;rw[e1,e2,e]
 .have:=rN g λp hp=>(h.w p hp).2.2;have:=h.l;ext
theorem vw {ws:List (Str×Nat)}(h:ws.lookup x=some n):(x,n)∈ws:=by
 induction ws with
 |nil=>cases h
 |cons p ws ih=>
  rw[Bs]at h;split at h
  .next e=>cases h;rw[eq_of_beq e];exact AF
  .exact AE _ (ih h)
theorem t3 (h:UN g)(hb:QR ms)(hl:ms.length=(Fw g).length){w:Nat}(hz:(z,w)∈Ic (Fw g) s):QR (Lk (Fw g) ms s z w):=λm hm=>by
 obtain⟨j,hj,rfl⟩:=An.mp hm;have hj:=Cv.mp hj;rw[h.en]at hz;have mem:(s,z,j)∈Fw g:=jD.mpr ⟨w,Yr.mp hz,hj⟩;have hi:(Fw g).idxOf (s,z,j)<ms.length:=by rw[hl];exact K4 mem
 rw[Cg,Af hi];exact hb _ (FX hi)
theorem t4 {g:List (Str×Str×Nat)}(h:UN g){ms:List Int}(hb:QR ms)(hl:ms.length=(Fw g).length){bs es:List (Str×Int)}{t u:Tm}(gd:YO (Ic (Fw g)) bs es t u):Q4 (Fw g) (Ic (Fw g)) t u ms=true:=by
 have kn:∀s x,GO (Ra (Fw g) ms (Ic (Fw g)) s x):=λs x=>by
  unfold Ra;cases e:(Ic (Fw g) s).lookup x with
  |none=>rfl
  |some w=>exact nS (t3 h hb hl (vw e))
 have bit:∀so t,V8 (Ic (Fw g)) so bs es t->gM (Fw g) ms (Ic (Fw g)) so t=0\/gM (Fw g) ms (Ic (Fw g)) so t=1:=λso t gk=>by
  have k:=(iD gk.w (gk.dt h.kr)).2 λx=>⟨kn "box" x,kn so x,kn "door" x⟩;unfold gM gD;rw[k,if_pos rfl];ext
 unfold Q4;refine decide_eq_true ?_;rcases bit "one" t gd.a with e|e
 .exact .inl e
 .rcases bit "other" u gd.b with f|f
  .exact .inr (.inl f)
  .exact .inr (.inr ⟨e,f⟩)
noncomputable def sg (s:Str)(ws:List (Str×Int))(ss:List Str):List (Str×Str×Nat):=ss.map λz=>(s,z,((ws.lookup z).getD 0).toNat)
noncomputable def Du (ws ds:List (Str×Int))(g1 g2:Tm):List (Str×Str×Nat):=sg "box" ws (Kz (Hb g1) (Hb g2))++sg "door" ds (Kz (GK g1) (GK g2))++sg "box" ws (Lh (Hb g1) (Hb g2))++sg "door" ds (Lh (GK g1) (GK g2))++sg "one" ws (MH g1)++sg "other" ws (MH g2)
theorem rC (s)(ws:List (Str×Int)):∀ss,(∀z∈ss,∃w,ws.lookup z=some w/\1<=w/\w<=64)->EG s ws ss=(Fw (sg s ws ss)).map bD
 |[],_=>rfl
 |z::ss,h=>by
  obtain⟨w,e,w1,w2⟩:=h z AF;have ih:=rC s ws ss λz hz=>h z (AE _ hz);show Kv s z ((ws.lookup z).getD 0)++EG s ws ss=(GI s z ((ws.lookup z).getD 0).toNat++Fw (sg s ws ss)).map bD;rw[AI,ih,e];congr 1
  unfold Kv GI;rw[Bv];refine Dj λi hi=>?_;have hi:=Cv.mp hi;have hi:i<w.toNat:=hi;show D.tup [.str s,.str z,.int (w-1-i)]=D.tup [.str s,.str z,.int ((w.toNat-1-i:Nat):Int)];rw[show((w.toNat-1-i:Nat):Int)=w-1-i by ext]
theorem pd (a b):Fw (a++b)=Fw a++Fw b:=OR
theorem oP :p∈sg s ws ss↔p.2.1∈ss/\p=(s,p.2.1,((ws.lookup p.2.1).getD 0).toNat):=by
 unfold sg;constructor
 .intro h;obtain⟨z,hz,rfl⟩:=An.mp h;exact⟨hz,rfl⟩
 .exact λh=>An.mpr ⟨_,h.1,h.2.symm⟩
theorem QF :x∈Kz xs ys↔x∈xs/\x∈ys:=by
 unfold Kz;rw[Gr,Eh,decide_eq_true_eq]
theorem QG :x∈Lh xs ys↔(x∈ys/\x∉xs)\/(x∈xs/\x∉ys):=by
 unfold Lh;rw[Gr,Di,Eh,Eh,decide_eq_true_eq,decide_eq_true_eq]
section
variable {wk:Wk}{g1 g2:Tm}
theorem rP (h:p∈Du wk.ws wk.ds g1 g2):(p.1 = "box"/\p.2.1∈Kz (Hb g1) (Hb g2)\/p.1 = "door"/\p.2.1∈Kz (GK g1) (GK g2)\/p.1 = "box"/\p.2.1∈Lh (Hb g1) (Hb g2)\/p.1 = "door"/\p.2.1∈Lh (GK g1) (GK g2)\/p.1 = "one"/\p.2.1∈MH g1\/p.1 = "other"/\p.2.1∈MH g2)/\p.2.2=(((if p.1 = "door" then wk.ds else wk.ws).lookup p.2.1).getD 0).toNat:=by
 have nb:¬(Ak "box" = "door"):=by nofun
 have no:¬(Ak "one" = "door"):=by nofun
 have nt:¬(Ak "other" = "door"):=by nofun
 simp only[Du,Di,oP]at h;rcases h with((((⟨h,e⟩|⟨h,e⟩)|⟨h,e⟩)|⟨h,e⟩)|⟨h,e⟩)|⟨h,e⟩
 .rw[e];exact⟨.inl ⟨rfl,h⟩,by rw[if_neg nb]⟩
 .rw[e];exact⟨.inr (.inl ⟨rfl,h⟩),by rw[if_pos rfl]⟩
 .rw[e];exact⟨.inr (.inr (.inl ⟨rfl,h⟩)),by rw[if_neg nb]⟩
 .rw[e];exact⟨.inr (.inr (.inr (.inl ⟨rfl,h⟩))),by rw[if_pos rfl]⟩
 .rw[e];exact⟨.inr (.inr (.inr (.inr (.inl ⟨rfl,h⟩)))),by rw[if_neg no]⟩
 .rw[e];exact⟨.inr (.inr (.inr (.inr (.inr ⟨rfl,h⟩)))),by rw[if_neg nt]⟩
theorem sS (k1:Fa wk g1)(k2:Fa wk g2)(h:p∈Du wk.ws wk.ds g1 g2):KI p.1/\p.2.1∈(if p.1 = "door" then wk.ds else wk.ws).map (·.1)/\∃n,(if p.1 = "door" then wk.ds else wk.ws).lookup p.2.1=some n/\1<=n/\n<=64:=by
 have nb:¬(Ak "box" = "door"):=by nofun
 have no:¬(Ak "one" = "door"):=by nofun
 have nt:¬(Ak "other" = "door"):=by nofun
 have B:∀{g x},Fa wk g->x∈Hb g->x∈wk.ws.map (·.1)/\∃n,wk.ws.lookup x=some n/\1<=n/\n<=64:=λk hx=>k.b _ (.inl (Gr.mp hx));have L:∀{g x},Fa wk g->x∈MH g->x∈wk.ws.map (·.1)/\∃n,wk.ws.lookup x=some n/\1<=n/\n<=64:=λk hx=>k.b _ (.inr (Gr.mp hx));have O:∀{g x},Fa wk g->x∈GK g->x∈wk.ds.map (·.1)/\∃n,wk.ds.lookup x=some n/\1<=n/\n<=64:=λk hx=>k.d _ (Gr.mp hx);obtain⟨h,-⟩:=rP h;rcases h with⟨e,h⟩|⟨e,h⟩|⟨e,h⟩|⟨e,h⟩|⟨e,h⟩|⟨e,h⟩<;>rw[e]
 .rw[if_neg nb];exact⟨.inl rfl,B k1 (QF.mp h).1⟩
 .rw[if_pos rfl];exact⟨.inr (.inl rfl),O k1 (QF.mp h).1⟩
 .rw[if_neg nb];exact⟨.inl rfl,(QG.mp h).elim (λc=>B k2 c.1) λc=>B k1 c.1⟩
 .rw[if_pos rfl];exact⟨.inr (.inl rfl),(QG.mp h).elim (λc=>O k2 c.1) λc=>O k1 c.1⟩
 .rw[if_neg no];exact⟨.inr (.inr (.inl rfl)),L k1 h⟩
 .rw[if_neg nt];exact⟨.inr (.inr (.inr rfl)),L k2 h⟩
theorem qe (k1:Fa wk g1)(k2:Fa wk g2):R6 wk.ws wk.ds g1 g2=(Fw (Du wk.ws wk.ds g1 g2)).map bD:=by
 have go:=rC;have B:∀{g x},Fa wk g->x∈Hb g->∃n,wk.ws.lookup x=some n/\1<=n/\n<=64:=λk hx=>(k.b _ (.inl (Gr.mp hx))).2;have L:∀{g x},Fa wk g->x∈MH g->∃n,wk.ws.lookup x=some n/\1<=n/\n<=64:=λk hx=>(k.b _ (.inr (Gr.mp hx))).2;have O:∀{g x},Fa wk g->x∈GK g->∃n,wk.ds.lookup x=some n/\1<=n/\n<=64:=λk hx=>(k.d _ (Gr.mp hx)).2;unfold R6 Du;rw[go "box" wk.ws _ λz h=>B k1 (QF.mp h).1,go "door" wk.ds _ λz h=>O k1 (QF.mp h).1,go "box" wk.ws _ λz h=>(QG.mp h).elim (λc=>B k2 c.1) λc=>B k1 c.1,go "door" wk.ds _ λz h=>(QG.mp h).elim (λc=>O k2 c.1) λc=>O k1 c.1,go "one" wk.ws _ λz h=>L k1 h,go "other" wk.ws _ λz h=>L k2 h];simp only[pd,AI]
theorem lm (s)(ws)(ss:List Str):(sg s ws ss).map LR=ss.map λz=>(s,z):=by
 unfold sg;rw[Bv];rfl
theorem Vv (s:Str){ss:List Str}(h:ss.Nodup):(ss.map λz=>(s,z)).Nodup:=by
 unfold Et at h ⊢;rw[Cj];exact h.imp λh e=>h (congrArg Sq e)
theorem qZ (ok:wk.Ok)(k1:Fa wk g1)(k2:Fa wk g2):UN (Du wk.ws wk.ds g1 g2):=by
 have n1:¬(Ak "box" = "door"):=by nofun
 have n2:¬(Ak "box" = "one"):=by nofun
 have n3:¬(Ak "box" = "other"):=by nofun
 have n4:¬(Ak "door" = "one"):=by nofun
 have n5:¬(Ak "door" = "other"):=by nofun
 have n6:¬(Ak "one" = "other"):=by nofun
 have n7:¬(Ak "door" = "box"):=λe=>n1 e.symm;have sn:∀xs ys,(Kz xs ys).Nodup:=λxs ys=>Sg _;have un:∀xs ys,(Lh xs ys).Nodup:=λxs ys=>Sg _;have lw:(wk.ws.map (·.1)).length<=12:=by unfold Wk.ws;rw[Ab,Ab];exact ok.b.1
 have ld:(wk.ds.map (·.1)).length<=12:=by rw[Ab];have:=ok.d.1;ext
 have nd:((Du wk.ws wk.ds g1 g2).map LR).Nodup:=by
  unfold Du;simp only[AI,lm];have app:∀{a b:List (Str×Str)},a.Nodup->b.Nodup->(∀x∈a,x∉b)->(a++b).Nodup:=λha hb h=>BJ.mpr ⟨ha,hb,λx hx y hy e=>h x hx (e ▸ hy)⟩
  have mm:∀{s:Str} {ss:List Str} {x:Str×Str},x∈ss.map (λz=>(s,z))↔x.1=s/\x.2∈ss:=λ{s ss x}=>by
   rw[An];exact⟨λ⟨z,hz,e⟩=>by rw[<- e];exact⟨rfl,hz⟩,λ⟨h1,h2⟩=>⟨x.2,h2,by rw[<- h1]⟩⟩
  refine app (app (app (app (app (Vv _ (sn _ _)) (Vv _ (sn _ _)) ?_) (Vv _ (un _ _)) ?_) (Vv _ (un _ _)) ?_) (Vv _ (Sg _)) ?_) (Vv _ (Sg _)) ?_
  .intro x h h';exact n1 ((mm.mp h).1.symm.trans (mm.mp h').1)
  .intro x h h';obtain⟨e,m⟩:=mm.mp h';rcases AT.mp h with h|h
   .obtain⟨-,m'⟩:=mm.mp h;obtain⟨a,b⟩:=QF.mp m';rcases QG.mp m with⟨-,c⟩|⟨-,c⟩
    .exact c a
    .exact c b
   .exact n1 (e.symm.trans (mm.mp h).1)
  .intro x h h';obtain⟨e,m⟩:=mm.mp h';rcases AT.mp h with h|h
   .rcases AT.mp h with h|h
    .exact n7 (e.symm.trans (mm.mp h).1)
    .obtain⟨-,m'⟩:=mm.mp h;obtain⟨a,b⟩:=QF.mp m';rcases QG.mp m with⟨-,c⟩|⟨-,c⟩
     .exact c a
     .exact c b
   .exact n7 (e.symm.trans (mm.mp h).1)
  .intro x h h';have e:=(mm.mp h').1;simp only[Di,mm]at h;rcases h with((h|h)|h)|h
   .exact n2 (h.1.symm.trans e)
   .exact n4 (h.1.symm.trans e)
   .exact n2 (h.1.symm.trans e)
   .exact n4 (h.1.symm.trans e)
  .intro x h h';have e:=(mm.mp h').1;simp only[Di,mm]at h;rcases h with(((h|h)|h)|h)|h
   .exact n3 (h.1.symm.trans e)
   .exact n5 (h.1.symm.trans e)
   .exact n3 (h.1.symm.trans e)
   .exact n5 (h.1.symm.trans e)
   .exact n6 (h.1.symm.trans e)
 have es:∀s,(Q7 (Du wk.ws wk.ds g1 g2) s).length<=12:=λs=>by
  have e1:((Q7 (Du wk.ws wk.ds g1 g2) s).map (·.1)).Nodup:=by
   unfold Q7;unfold Et at nd ⊢;rw[Cj,Cj];rw[Cj]at nd;refine(Kj _ nd).imp_of_mem λ{a b} ha hb hab e=>hab ?_;have e1:=of_decide_eq_true (Br.mp ha).2;have e2:=of_decide_eq_true (Br.mp hb).2;unfold LR;rw[e1,e2,e]
  have e2:=Uz _ ((if s = "door" then wk.ds else wk.ws).map (·.1)) e1 λx hx=>by
   obtain⟨n,hn,rfl⟩:=An.mp hx;exact(sS k1 k2 ((Yr (s:=s) (z:=n.1) (w:=n.2)).mp hn)).2.1
  rw[Ab]at e2;refine AZ e2 ?_;split
  .exact ld
  .exact lw
 have sl:∀s ws ss,(sg s ws ss).length=ss.length:=λs ws ss=>Ab ..;refine⟨nd,λp hp=>?_,?_,es⟩
 .obtain⟨h1,-,n,e,n1,n2⟩:=sS k1 k2 hp;rw[(rP hp).2,e];exact⟨h1,by show 1<=n.toNat;ext,by show n.toNat<=64;ext⟩
 .have mU:∀{xs ys zs:List Str},(∀x∈xs,x∈zs)->(∀x∈ys,x∈zs)->(Lh xs ys).length<=zs.length:=λh1 h2=>Uz _ _ (un _ _) λx hx=>(QG.mp hx).elim (λc=>h2 x c.1) λc=>h1 x c.1;have mS:∀{xs ys zs:List Str},(∀x∈xs,x∈zs)->(Kz xs ys).length<=zs.length:=λh1=>Uz _ _ (sn _ _) λx hx=>h1 x (QF.mp hx).1;have b1:∀x∈Hb g1,x∈wk.ws.map (·.1):=λx hx=>(k1.b _ (.inl (Gr.mp hx))).1;have b2:∀x∈Hb g2,x∈wk.ws.map (·.1):=λx hx=>(k2.b _ (.inl (Gr.mp hx))).1;have d1:∀x∈GK g1,x∈wk.ds.map (·.1):=λx hx=>(k1.d _ (Gr.mp hx)).1;have d2:∀x∈GK g2,x∈wk.ds.map (·.1):=λx hx=>(k2.d _ (Gr.mp hx)).1;have c1:=mS (ys:=Hb g2) b1;have c2:=mS (ys:=GK g2) d1;have c3:=mU b1 b2;have c4:=mU d1 d2;have c5:=k1.l.2.1;have c6:=k2.l.2.1;unfold Du;simp only[Aq,sl];ext
theorem li (ok:wk.Ok)(o1:N5 wk.ws wk.ds g1 1)(o2:N5 wk.ws wk.ds g2 1):YO (Ic (Fw (Du wk.ws wk.ds g1 g2))) wk.ws wk.ds g1 g2:=by
 have k1:=Fa.of ok o1;have k2:=Fa.of ok o2;have pc:=qZ ok k1 k2
 have go:∀{s x:Str} {ws:List (Str×Int)} {ss:List Str} {n:Int},sg s ws ss ⊆ Du wk.ws wk.ds g1 g2->x∈ss->ws.lookup x=some n->1<=n->∃w:Nat,ws.lookup x=some (w:Int)/\(x,w)∈Ic (Fw (Du wk.ws wk.ds g1 g2)) s:=λ{s x ws ss n} hs hx e h1=>by
  refine⟨n.toNat,by rw[e,show((n.toNat:Nat):Int)=n by ext],?_⟩;rw[pc.en];exact Yr.mpr (hs (oP.mpr ⟨hx,by show(s,x,n.toNat)=_;rw[e];rfl⟩))
 have s1:sg "box" wk.ws (Kz (Hb g1) (Hb g2)) ⊆ Du wk.ws wk.ds g1 g2:=λp hp=>by simp[Du,hp]
 have s2:sg "door" wk.ds (Kz (GK g1) (GK g2)) ⊆ Du wk.ws wk.ds g1 g2:=λp hp=>by simp[Du,hp]
 have s3:sg "box" wk.ws (Lh (Hb g1) (Hb g2)) ⊆ Du wk.ws wk.ds g1 g2:=λp hp=>by simp[Du,hp]
 have s4:sg "door" wk.ds (Lh (GK g1) (GK g2)) ⊆ Du wk.ws wk.ds g1 g2:=λp hp=>by simp[Du,hp]
 have s5:sg "one" wk.ws (MH g1) ⊆ Du wk.ws wk.ds g1 g2:=λp hp=>by simp[Du,hp]
 have s6:sg "other" wk.ws (MH g2) ⊆ Du wk.ws wk.ds g1 g2:=λp hp=>by simp[Du,hp]
 have nB:∀{g:Tm} {x:Str},Tm.box x∈g.leaves->x∈g.names "box":=λh=>CL.mpr ⟨_,h,by simp[Tm.nameOf]⟩;have nL:∀{g:Tm} {x:Str},Tm.late x∈g.leaves->x∈g.names "late":=λh=>CL.mpr ⟨_,h,by simp[Tm.nameOf]⟩;have nD:∀{g:Tm} {x:Str},Tm.door x∈g.leaves->x∈g.names "door":=λh=>CL.mpr ⟨_,h,by simp[Tm.nameOf]⟩;refine⟨⟨o1.2,o1.1.2,λx h=>?_,λx h=>?_,λx h=>?_⟩,⟨o2.2,o2.1.2,λx h=>?_,λx h=>?_,λx h=>?_⟩⟩
 .obtain⟨-,n,e,h1,-⟩:=k1.b x (.inl (nB h));by_cases m:x∈Hb g2
  .exact go s1 (QF.mpr ⟨Gr.mpr (nB h),m⟩) e h1
  .exact go s3 (QG.mpr (.inr ⟨Gr.mpr (nB h),m⟩)) e h1
 .obtain⟨-,n,e,h1,-⟩:=k1.b x (.inr (nL h));exact go s5 (Gr.mpr (nL h)) e h1
 .obtain⟨-,n,e,h1,-⟩:=k1.d x (nD h);by_cases m:x∈GK g2
  .exact go s2 (QF.mpr ⟨Gr.mpr (nD h),m⟩) e h1
  .exact go s4 (QG.mpr (.inr ⟨Gr.mpr (nD h),m⟩)) e h1
 .obtain⟨-,n,e,h1,-⟩:=k2.b x (.inl (nB h));by_cases m:x∈Hb g1
  .exact go s1 (QF.mpr ⟨m,Gr.mpr (nB h)⟩) e h1
  .exact go s3 (QG.mpr (.inl ⟨Gr.mpr (nB h),m⟩)) e h1
 .obtain⟨-,n,e,h1,-⟩:=k2.b x (.inr (nL h));exact go s6 (Gr.mpr (nL h)) e h1
 .obtain⟨-,n,e,h1,-⟩:=k2.d x (nD h);by_cases m:x∈GK g1
  .exact go s2 (QF.mpr ⟨m,Gr.mpr (nD h)⟩) e h1
  .exact go s4 (QG.mpr (.inl ⟨Gr.mpr (nD h),m⟩)) e h1
end
noncomputable def Zr (ms:List Int):Option (List Int):=match ms.reverse.dropWhile (λm=>decide (m=1))with
 |[]=>none
 |_::r=>some (r.reverse++[1])
noncomputable def Rf (c:List Int×Int):D:=.tup [.tup (c.1.map D.int),.int c.2]
noncomputable def Vq (N:List Int->Nat)(g g':List Int->Int)(bt:List Int->D):Nat->List Int->List (List Int×Int)->D
 |0,_,_=>.tup [.str "unsure"]
 |f+1,ms,cs=>
  let ks:=HC (N ms) ms
  if g ks=1/\g' ks=1 then bt ks
  else if f=0 then .tup [.str "unsure"]
  else match Zr ks with
   |none=>.tup [.str "never",.lst ((cs++[(ks,if g ks=0 then 0 else 1)]).map Rf)]
   |some ms'=>Vq N g g' bt f ms' (cs++[(ks,if g ks=0 then 0 else 1)])
noncomputable def Zx (row:List (Str×Str×Nat))(t u:Tm)(ms:List Int):Nat:=ZD (λk=>Q4 row (Ic row) t u (HC k ms)) ms.length row.length
noncomputable def XT (row:List (Str×Str×Nat))(t u:Tm):D:=Vq (Zx row t u) (λms=>gM row ms (Ic row) "one" t) (λms=>gM row ms (Ic row) "other" u) (λms=>OD row ms (Ic row)) 65 [] []
abbrev Zfa:DO:=λds M Q=>Je ds λx y z=>Gb y λa=>Gb z λb=>∃(wk:Wk) (r1 r2:Str×Tm×List (Str×Tm)),x=wk.D/\wk.Ok/\wk.rs.find? (DK a)=some r1/\wk.rs.find? (DK b)=some r2/\∀M',(∀p o,M p=some o->M' p=some o)->Q (XT (Fw (Du wk.ws wk.ds r1.2.1 r2.2.1)) r1.2.1 r2.2.1) M'
theorem oK {C:Av}{M:Mp}{A:KA}{E:Str->List (Str×Nat)}{row:List (Str×Str×Nat)}{ms ks:List Int}{c:Av}{v:MO}(kn:FQ C M A E row ms ks)(h:∀x∈[A.o,A.q,A.m,A.d,A.b,A.e,A.f,A.g],x≠c):FQ C (L3.put M c v) A E row ms ks:=by
 have hs:∀ s,A.at s≠c:=λs=>h _ (by
  have:=iF A s;simp only [By,AS,or_false] at this ⊢;rcases this with e|e|e|e|e<;>simp [e])
 exact⟨by rw[Ds (h _ (by simp))];exact kn.o,by rw[Ds (h _ (by simp))];exact kn.q,by rw[Ds (h _ (by simp))];exact kn.m,by rw[Ds (h _ (by simp))];exact kn.d,λs' h'=>by rw[Ds (hs s')];exact kn.s s' h',kn.nd,kn.qm⟩
theorem FQ.off {C:Av}{M:Mp}{A:KA}{E:Str->List (Str×Nat)}{row:List (Str×Str×Nat)}{ms ks:List Int}{c:Av}(kn:FQ C M A E row ms ks)(hc:M c=none):∀x∈[A.o,A.q,A.m,A.d,A.b,A.e,A.f,A.g],x≠c:=λx hx=>by
 have k1:=kn.s "box" (.inl rfl);have k2:=kn.s "door" (.inr (.inl rfl));have k3:=kn.s "one" (.inr (.inr (.inl rfl)));have k4:=kn.s "other" (.inr (.inr (.inr rfl)));rw[Uq]at k1;rw[Ux]at k2;rw[Ur]at k3;rw[UC]at k4;simp only[By,AS,or_false]at hx;rcases hx with rfl|rfl|rfl|rfl|rfl|rfl|rfl|rfl
 .exact Jk hc kn.o
 .exact Jk hc kn.q
 .exact Jk hc kn.m
 .exact Jk hc kn.d
 .exact Jk hc k1
 .exact Jk hc k2
 .exact Jk hc k3
 .exact Jk hc k4
theorem iU {ms:List Int}(h:QR ms):Ld ms:=λm hm=>(h m hm).elim .inl λe=>.inr (.inl e)
theorem qL {n:Nat}{ms:List Int}(h:QR ms)(hn:ms.length<=n):QR (HC n ms):=λm hm=>by
 rw[ZT hn]at hm;rcases AT.mp hm with e|e
 .exact h m e
 .exact .inl (EN e)
theorem rG:∀{r:List Int},QR r->∃k,(r=Ax k 1/\r.dropWhile (λm=>decide (m=1))=[])\/∃t,r=Ax k 1++0::t/\r.dropWhile (λm=>decide (m=1))=0::t
 |[],_=>⟨0,.inl ⟨rfl,rfl⟩⟩
 |x::r,h=>by
  rcases h x AF with rfl|rfl
  .exact⟨0,.inr ⟨r,rfl,rfl⟩⟩
  .obtain⟨k,c⟩:=rG λm hm=>h m (AE _ hm);rcases c with⟨e,d⟩|⟨t,e,d⟩
   .exact⟨k+1,.inl ⟨by rw[CY,<- e],by rw[OS];exact d⟩⟩
   .exact⟨k+1,.inr ⟨t,by rw[CY,Ed,<- e],by rw[OS];exact d⟩⟩
theorem uo {ms:List Int}(h:QR ms):∃a k,ms=a++Ax k 1/\((a=[]/\Zr ms=none)\/∃b,a=b++[0]/\Zr ms=some (b++[1])):=by
 obtain⟨k,c⟩:=rG λm hm=>h m (QY.mp hm);unfold Zr;rcases c with⟨e,d⟩|⟨t,e,d⟩
 .exact⟨[],k,by rw[<- Oi ms,e,MS];rfl,.inl ⟨rfl,by rw[d]⟩⟩
 .exact⟨t.reverse++[0],k,by rw[<- Oi ms,e,List.reverse_append,MS,Gw],.inr ⟨_,rfl,by rw[d]⟩⟩
theorem bg (cs:List (List Int×Int))(ks:List Int)(v:Int):E4 Rf cs++[D.tup [D.tup (E4 D.int ks),D.int v]]=E4 Rf (cs++[(ks,v)]):=by rw[AI];rfl
section
theorem ZfD:Od T T.x62 24 Zfa:=by
 refine CI.p3 T.x62.d.F ["works", "one", "other", "guards", "known", "cubes", "held"] λx y z M Q hr nN h1=>?_;obtain⟨a,rfl,h2⟩:=D4 h1;obtain⟨b,e1',wk,r1,r2,e2',ok,e1,e2,q⟩:_:=D4 h2;have o1:=(aP ok e1).2.g;have o2:=(aP ok e2).2.g;have ea:=qe (Fa.of ok o1) (Fa.of ok o2);have pc:=qZ ok (Fa.of ok o1) (Fa.of ok o2);have gd:=li ok o1 o2;have kr:=pc.kr;have hL:∀ms,QR ms->ms.length<=(Fw (Du wk.ws wk.ds r1.2.1 r2.2.1)).length->Q4 (Fw (Du wk.ws wk.ds r1.2.1 r2.2.1)) (Ic (Fw (Du wk.ws wk.ds r1.2.1 r2.2.1))) r1.2.1 r2.2.1 (HC (Fw (Du wk.ws wk.ds r1.2.1 r2.2.1)).length ms)=true:=λms hb hl=>t4 pc (qL hb hl) (Yq ..) gd;clear pc;generalize hrow:Fw (Du wk.ws wk.ds r1.2.1 r2.2.1)=row at q ea gd kr hL;unfold XT at q;have en:∀s,KI s->Ic row s=Ic row s:=λ_ _=>rfl;obtain⟨E,hE⟩:∃E,Ic row=E:=⟨_,rfl⟩;have hN:∀ms,Zx row r1.2.1 r2.2.1 ms=ZD (λk=>Q4 row E r1.2.1 r2.2.1 (HC k ms)) ms.length row.length:=λms=>by rw[<- hE];rfl
 generalize Zx row r1.2.1 r2.2.1=N at q hN;rw[hE]at gd kr hL q;have en:∀s,KI s->E s=Ic row s:=λ_ _=>by rw[hE]
 clear hE;refine⟨_,(qC (Cw 3 nN (CB (qA (Be BA (Ay T.x43.d (UL T) nofun (qA (qv 0) (qA (qv 1) qN))) Aj) (qA (Be BA (Ay T.x43.d (UL T) nofun (qA (qv 0) (qA (qv 2) qN))) Aj) qN)))) (qC (Cw 4 nN (XG T.mk_Known T.x50.d (ZcK T) nofun T.mgc_Known (qA (Ay T.x46.d (ZfI T) nofun (qA (qv 0) (qA (qv 1) (qA (qv 2) qN)))) qN))) (qC (Cw 5 nN (Jv qN)) (qO (UE AK (GF T8) (qC (E3 (Ff T.cl_Known T.x54.d (Zeq T) nofun (qv 4) (qA (qv 3) qN))) (qC (Cw 6 nN (Ff T.cl_Known T.x58.d (xE T) nofun (qv 4) (qA (qv 3) qN))) (qC (Ez (AX (hU (Jz hr)) (qv 6) (CB (qA Aj (qA Aj qN)))) (qO (CC (Km T.cl_Known T.x60.d (Zc4 T) nofun (qv 4)))) qE) (qC (E3 (JX AN Bi Bh QJ (qv 5) (qA (CB (qA (D9 Yj T.B.tuple Is (qA (GY T.cl_Known T.na_Known_marks (qv 4)) qN)) (qA (fX (qv 6) (qA Aj qN)) qN))) qN))) (qC (Ez (AX Lb (Cp LU T.B.len CG (qA (qv 5) qN)) (Ii T.m_MOST_CUBES)) (qO (CC (CB (qA BQ qN)))) qE) (qO (Ez (Li (GF (Km T.cl_Known T.x57.d (ZfM T) nofun (qv 4)))) (qO (CC (CB (qA BQ (qA (K9 (qv 5)) qN))))) qE)))))))))))),?_⟩;clear h1 h2;right;refine⟨wk,r1,rfl,e1,?_⟩;unfold LL;grind;refine⟨wk,r2,rfl,e2,?_⟩;grind;refine⟨wk,r1,r2,rfl,ok,e1,e2,λp hp o ho=>?_⟩;rw[ea]at ho ⊢;refine⟨put M p (.lst (row.map bD)),o,p,E,row,rfl,rfl,rfl,ho,C8,kr,en,λM1 A ao aq kn fz fr=>?_⟩;subst ao;generalize r1.2.1=t at gd hL q hN ⊢;generalize r2.2.1=u at gd hL q hN ⊢;grind;intro c hc;have off:=kn.off hc
 have kp:∀x u,M x=some u->x≠c/\x∉[A.m,A.b,A.e,A.f,A.g]/\M1 x=some u:=λx v h=>by
  have h0:put M p (.lst (row.map bD)) x=some v:=by rw[Ds (Jk hp h)];exact h
  have h1:=fr x v h0;exact⟨Jk hc h1,λhx=>(nomatch (fz x hx).symm.trans h0),h1⟩
 have kc:c∉[A.m,A.b,A.e,A.f,A.g]:=λhx=>off c (by simp only[By,AS,or_false]at hx ⊢;rcases hx with e | e | e | e | e<;>simp[e]) rfl;generalize hG:D.tup [t.D,u.D]=G;refine⟨λk τ M'=>∃ms cs x,((k+cs.length=64)/\QR ms/\ms.length<=row.length/\FQ T.C_Known M' A E row ms ms/\M' c=some (.lst (cs.map Rf))/\(∀x u,M x=some u->M' x=some u)/\∀M',(∀p o,M p=some o->M' p=some o)->Q (Vq N (λms=>gM row ms E "one" t) (λms=>gM row ms E "other" u) (λms=>OD row ms E) (k+1) ms cs) M')/\τ=[some wk.D,some (.str a),some (.str b),some G,some (.ref A.o),some (.ref c),x],⟨64,[],[],_,⟨rfl,λm hm=>(nomatch hm),Ef _,oK kn off,C8,λx v h=>by rw[Ds (kp x v h).1];exact(kp x v h).2.2,q⟩,rfl⟩,?_⟩;intro k τ M' hI';refine Ao λG' kk'=>?_;obtain⟨ms,cs,x,⟨hk,hb,hl,kn',hcs,hs,hq⟩,e1'⟩:=hI';refine kk' ?_;clear kk';subst e1';grind;rw[kn'.o,Hn];subst hG;refine⟨LV (by nofun) (by nofun) (by nofun),A,E,row,ms,t,u,wk.ws,wk.ds,λk=>Q4 row E t u (HC k ms),rfl,rfl,kr,kn',iU hb,gd,hl,λ_=>rfl,hL ms hb hl,λM2 N0 eN n1 n2 n3 k2 o2=>?_⟩;rw[<- hN]at eN;subst eN;have b2:=qL (n:=N ms) hb n1;grind;rw[k2.o,Hn];refine⟨LV (by nofun) (by nofun) (by nofun),A,E,row,_,t,u,wk.ws,wk.ds,rfl,rfl,kr,k2,iU b2,gd,?_⟩;grind;have hc2:M2 c=some (.lst (cs.map Rf)):=by rw[o2 c kc];exact hcs
 have hs2:∀x u,M x=some u->M2 x=some u:=λx v h=>by rw[o2 x (kp x v h).2.1];exact hs x v h
 rw[Vq]at hq;generalize hks:HC (N ms) ms=ks at k2 b2 hq ⊢;have lk:ks.length<=row.length:=by rw[<- hks,Yq];exact n2
 have j0:¬(gM row ks E "one" t=1/\gM row ks E "other" u=1)->¬gM row ks E "one" t=0->gM row ks E "other" u=0:=λc1 c2=>by
  have z:Q4 row E t u (HC (N ms) ms)=true:=n3;rw[hks]at z;rcases of_decide_eq_true z with z|z|z
  .exact absurd z c2
  .exact z
  .exact absurd z c1
 refine Cz (λc1=>?_) λc1=>?_
 .rw[if_pos c1]at hq;refine⟨LV (by nofun) (by nofun) (by nofun),A,E,row,ks,rfl,kr,k2,Dn.of (hq _ λx v h=>?_)⟩;have nx:=(kp x v h).2.1;simp only[By,AS,or_false,not_or]at nx;rw[IQ nx.2.2.2.2,IQ nx.2.2.2.1,IQ nx.2.2.1,IQ nx.2.1];exact hs2 x v h
 .rw[if_neg c1]at hq;refine⟨Ix hc2,?_⟩;rw[QI,BR,Q5 k2.m,BR];obtain⟨a2,kk,ek,tr⟩:=uo b2;have lc:(cs.map Rf).length<Am:=BU (by rw[Ab];ext)
  obtain⟨v0,hv,ev⟩:∃v:Int,(v=0/\gM row ks E "one" t=0\/v=1/\gM row ks E "one" t≠0/\gM row ks E "other" u=0)/\(if gM row ks E "one" t=0 then(0:Int)else 1)=v:=by
   by_cases z:gM row ks E "one" t=0
   .exact⟨0,.inl ⟨rfl,z⟩,if_pos z⟩
   .exact⟨1,.inr ⟨rfl,z,j0 c1 z⟩,if_neg z⟩
  rw[ev]at hq;refine⟨_,_,rfl,v0,hv,?_⟩;rw[VL hc2,bg];refine⟨lc,?_⟩;have k3:=oK (v:=.lst (E4 Rf (cs++[(ks,v0)]))) k2 off;have c3:put M2 c (.lst (E4 Rf (cs++[(ks,v0)]))) c=_:=C8;have s3:∀x u,M x=some u->put M2 c (.lst (E4 Rf (cs++[(ks,v0)]))) x=some u:=λx v h=>by rw[Ds (kp x v h).1];exact hs2 x v h
  generalize put M2 c (.lst (E4 Rf (cs++[(ks,v0)])))=M3 at k3 c3 s3 ⊢;rw[Q5 c3,BR,Ab,Aq];refine Cz (λd=>?_) λd=>?_
  .rw[if_pos (by change(64:Int)<((cs.length+1:Nat):Int)at d;ext)]at hq;exact Dn.of (hq M3 s3)
  .have k0:¬k=0:=by change¬(64:Int)<((cs.length+1:Nat):Int)at d;ext
   rw[if_neg k0]at hq;rw[k3.o,Hn];rw[ek]at k3;have lk2:=lk;have mk2:=b2;rw[ek]at lk2 mk2;rw[Aq]at lk2;refine⟨LV (by nofun) (by nofun) (by nofun),A,E,row,a2,kk,rfl,kr,k3,iU λm hm=>mk2 m (CK _ hm),lk2,?_⟩;rcases tr with⟨ta,tt⟩|⟨b1,ta,tt⟩
   .rw[tt]at hq;refine .inl ⟨ta,λM4 k4 o4=>?_⟩;rw[o4 c kc,c3];refine Dn.of (hq _ λx v h=>?_);rw[IQ (kp x v h).1,o4 x (kp x v h).2.1];exact s3 x v h
   .rw[tt]at hq;refine .inr ⟨b1,ta,λM4 k4 o4=>⟨k-1,by ext,b1++[1],cs++[(ks,v0)],_,⟨by rw[Aq];change k-1+(cs.length+1)=64;ext,λm hm=>?_,?_,k4,by rw[o4 c kc];exact c3,λx v h=>by rw[o4 x (kp x v h).2.1];exact s3 x v h,?_⟩,rfl⟩⟩
    .rcases AT.mp hm with hm|hm
     .exact mk2 m (CK _ (by rw[ta];exact CK _ hm))
     .exact .inr (AL.mp hm)
    .rw[ta,Aq]at lk2;rw[Aq];change b1.length+1+_<=_ at lk2;change b1.length+1<=_;ext
    .rw[show k-1+1=k by ext];exact hq
end
abbrev ya:DO:=λds M Q=>FF ds λx y=>Gb y λz=>∃(wk:Wk) (r:Str×Tm×List (Str×Tm)),x=wk.D/\wk.rs.find? (DK z)=some r/\r.2.2.length<=6/\∀p,M p=none->Q (.ref p) (put M p (.lst ((Qe (r.2.2.map (·.1))).map D.str)))
theorem vK:Od T T.x63 2 ya:=by
 refine CI.p2 T.x63.d.F ["works", "name"] λx y M Q hr nN h1=>?_;obtain⟨z,e1',wk,r,e2',hf,hl,q⟩:_:=D4 h1;refine⟨_,(qO (CC (Cp vk T.B.sorted Rr (qA (Gm (caps:=[]) ⟨rfl,by rfl,by rfl,by rfl,rfl,by rfl,by nofun⟩ rfl (QD (Be BA (Ay T.x43.d (UL T) nofun (qA (qv 0) (qA (qv 1) qN))) Aj)) (λ_ _ _ _ _ _=>(Be BA (qv 0) Aj))) qN)))),?_⟩;right;refine⟨wk,r,rfl,hf,?_⟩;simp only[LL];grind;refine EL.of (g:=Kk) (f:=λw=>.str w.1) (GD (by ext)) trivial (λw hw R q=>?_) ?_
 .simp only[Kk];walk_at "cap";exact q
 rw[show r.2.2.map (λw=>D.str w.1)=(r.2.2.map (·.1)).map D.str by rw[Bv];rfl,O5,BR];exact⟨by rw[Ab];ext,λp hp=>Dn.of (q p hp)⟩
theorem wl {xs ys:List Str}(h:∀x,x∈xs↔x∈ys):Iz xs=Iz ys:=
 GW (λa b _ _ p q=>aS p q) (Dh UG VW _) (Dh UG VW _) ((Lg (Sg xs) (Sg ys)).mpr λa=>by rw[Gr,Gr];exact h a)
theorem iE {xs zs:List Str}(h:∀x∈xs,x∈zs):(fm xs).length<=zs.length:=by
 rw[<- jL];exact Uz _ _ (Sg xs) λx hx=>h x (Gr.mp hx)
noncomputable def C3 (f:Str)(g:Tm)(ts:List Tm):List Str:=g.names f++(ts.map (Tm.names f)).flatten
structure N6 (zs:List Str)(g:Tm)(ts:List Tm):Prop where
 z:zs.length<=20
 l:ts.length<=6
 t:∀t∈g::ts,(t.deep<=12/\t.parts<=100)/\∀f,∀n∈t.names f,n∈zs
theorem N6.few {zs:List Str}{g t:Tm}{ts:List Tm}(h:N6 zs g ts)(ht:t∈g::ts):∀f,HF f->(fm (t.names f)).length<64:=λf _=>by
 have:=iE ((h.t t ht).2 f);have:=h.z;ext
theorem ul {M M':Mp}{p:Av}{o:MO}(s:Sub M M'):Sub (put M p o) (put M' p o):=λb u e=>by
 by_cases h:b=p
 .subst h;rw[C8]at e ⊢;exact e
 .rw[Ds h]at e ⊢;exact s b u e
abbrev Zfl:DO:=λds M Q=>FF ds λx y=>∃(r:Str×Tm×List (Str×Tm)) (k:Int) (f:Str) (zs:List Str),x=LL r/\y=.int k/\((k=0/\f = "box")\/(k=1/\f = "late"))/\N6 zs r.2.1 (r.2.2.map (·.2))/\∀p,M p=none->Q (.ref p) (put M p (.lst ((Iz (C3 f r.2.1 (r.2.2.map (·.2)))).map D.str)))
theorem wG:Od T T.x66 17 Zfl:=by
 refine CI.p2 T.x66.d.F ["rule", "number", "names", "write"] λx y M Q hr nN h=>?_;obtain⟨r,k,f,zs,e1',e2',hk,ok,q⟩:_:=h;refine⟨_,(EO (Cw 2 nN (Be BA (Ay T.x17.d (bC T) nofun (qA (Be BA (qv 0) Aj) qN)) (qv 1))) (EO (KG AK rfl (QD (Be BA (qv 0) Aj)) (MM (i:=3) nN rfl (BX rfl)) (qO (E3 (JX AN Ct Cr Se (qv 2) (qA (Be BA (Ay T.x17.d (bC T) nofun (qA (Be BA (qv 3) Aj) qN)) (qv 1)) qN))))) (qO (CC (mP rfl T.B.sorted T.B.set (qv 2)))))),?_⟩
 (try simp only[MC,Mz,MA])
 have two:∀t,t∈r.2.1::r.2.2.map (·.2)->∀(M0:Mp) (R:D->Mp->Prop),(∀M1 p,Sub M0 M1->M0 p=none->M1 p=some (.lst ((Iz (t.names f)).map D.str))->R (.ref p) M1)->(t.deep<=12/\t.parts<=1000/\(∀f,HF f->(fm (t.names f)).length<64)/\∀p0 p1 p2,M0 p0=none->M0 p1=none->M0 p2=none->¬p1=p0->¬p2=p0->¬p2=p1->Ck (FG [D.ref p0,.ref p1,.ref p2] k) λv=>R v (put (put (put M0 p0 (Mm "box" t)) p1 (Mm "late" t)) p2 (Mm "door" t))):=λt ht M0 R hR=>by
  refine⟨(ok.t t ht).1.1,AZ (ok.t t ht).1.2 (by decide),ok.few ht,λp0 p1 p2 m0 m1 m2 n1 n2 n3=>?_⟩;have sb:Sub M0 (put (put (put M0 p0 (Mm "box" t)) p1 (Mm "late" t)) p2 (Mm "door" t)):=Sub.puts (Sub.puts (Sub.put m0) m1) m2;rcases hk with⟨rfl,rfl⟩|⟨rfl,rfl⟩
  .exact hR _ p0 sb m0 (by rw[Ds (Bj n2),Ds (Bj n1),C8];rfl)
  .exact hR _ p1 sb m1 (by rw[Ds (Bj n3),C8];rfl)
 refine⟨λτ M2=>∃p,(Sub M M2/\M p=none/\M2 p=some (.lst ((Iz (r.2.1.names f)).map D.str)))/\τ=[some (LL r),some (.int k),some (.ref p),none],?_,?_⟩
 .simp only[LL];grind;exact two r.2.1 AF M (λv M1=>∃p,(Sub M M1/\M p=none/\M1 p=some (.lst ((Iz (r.2.1.names f)).map D.str)))/\[some (D.tup [.str r.1,r.2.1.D,.tup (r.2.2.map Kk)]),some (.int k),some v,none]=[some (D.tup [.str r.1,r.2.1.D,.tup (r.2.2.map Kk)]),some (.int k),some (.ref p),none]) λM1 p h1 h2 h3=>⟨p,⟨h1,h2,h3⟩,rfl⟩
 intro τ M2;ext1⟨p,⟨sb,hp,hM⟩,e1'⟩;have hz:=ok.z;have hl:=ok.l;rw[Ab]at hl
 have srl:∀t∈r.2.1::r.2.2.map (·.2),(Iz (t.names f)).length<=20:=λt ht=>by
  rw[jL];exact AZ (iE ((ok.t t ht).2 f)) hz
 refine⟨λτ M3=>∃(l:List Str) (v:Option D),(Sub M M3/\M3 p=some (.lst (l.map D.str))/\l.length<=140/\∀n,n∈l↔n∈C3 f r.2.1 (r.2.2.map (·.2)))/\τ=[some (LL r),some (.int k),some (.ref p),v],?_,?_⟩
 .simp only[LL];grind;refine⟨λi τ M3=>∃(l:List Str) (v:Option D),(Sub M M3/\M3 p=some (.lst (l.map D.str))/\l.length<=20+20*i/\∀n,n∈l↔n∈C3 f r.2.1 ((r.2.2.take i).map (·.2)))/\τ=[some (LL r),some (.int k),some (.ref p),v],⟨Iz (r.2.1.names f),none,⟨sb,hM,srl _ AF,λn=>by rw[Gr];simp[C3]⟩,rfl⟩,λ_ _ _ _=>trivial,?_,?_⟩
  .intro i d τ M3 hd;ext1⟨l,v,⟨sb,hM,hll,hmem⟩,e1'⟩;obtain⟨w0,hw0,rfl⟩:=LW hd;obtain⟨hi,_⟩:=Ah.mp hw0;have hin:w0.2∈r.2.1::r.2.2.map (·.2):=AE _ (GR (Aw hw0));have et:r.2.2.take (i+1)=r.2.2.take i++[w0]:=by rw[A8,hw0];rfl
   simp only[Kk];grind;refine⟨Ix hM,two w0.2 hin M3 (λv M1=>F9 (.ref p) [v] M1 λ_ M1=>∃(l:List Str) (v:Option D),(Sub M M1/\M1 p=some (.lst (l.map D.str))/\l.length<=20+20*(i+1)/\∀n,n∈l↔n∈C3 f r.2.1 ((r.2.2.take (i+1)).map (·.2)))/\[some (LL r),some (.int k),some (.ref p),some (D.tup [.str w0.1,w0.2.D])]=[some (LL r),some (.int k),some (.ref p),v]) λM1 p1 h1 h2 h3=>?_⟩;have h4:=srl _ hin;rw[pS (h1 p _ hM) (OB h3)];refine⟨GD (by rw[Ab,Ab];ext),l++Iz (w0.2.names f),_,⟨Sub.puts (sb.trans h1) hp,by rw[C8,AI],by rw[Aq];ext,λn=>?_⟩,rfl⟩;rw[Di,hmem,Gr,et];simp[C3,or_assoc]
  .intro τ M3;ext1⟨l,v,⟨h1,h2,h3,h4⟩,e1'⟩;rw[Ab]at h3 h4;rw[Bc]at h4;exact⟨l,v,⟨h1,h2,by ext,h4⟩,rfl⟩
 intro τ M3;ext1⟨l,v,⟨sb,hM,hll,hmem⟩,e1'⟩;grind;rw[OB hM,BR,O5,BR]
 have few:=AZ (iE λx hx=>by
  have:=(hmem x).mp hx;unfold C3 at this;rcases AT.mp this with h|h
  .exact(ok.t _ AF).2 f x h
  .obtain ⟨ns,hns,hx⟩:=QZ.mp h;obtain ⟨t,ht,rfl⟩:=An.mp hns;exact (ok.t t (AE _ ht)).2 f x hx) hz
 refine⟨by have:1000<Bg:=(by decide);ext,by ext,λa ha=>?_⟩
 have haM:M a=none:=by
  cases e:M a with
  |none=>rfl
  |some o=>rw[sb a o e]at ha;cases ha
 rw[wl hmem];exact QC (ul sb) (q a haM)
abbrev Zf9:DO:=λds M Q=>FF ds λx y=>Gb y λz=>∃(wk:Wk) (r:Str×Tm×List (Str×Tm)) (zs:List Str),x=wk.D/\wk.rs.find? (DK z)=some r/\N6 zs r.2.1 (r.2.2.map (·.2))/\∀p,M p=none->Q (.ref p) (put M p (.lst ((Iz (C3 "box" r.2.1 (r.2.2.map (·.2)))).map D.str)))
theorem ZfC:Od T T.x64 18 Zf9:=by
 refine CI.p2 T.x64.d.F ["works", "name"] λx y M Q hr nN h1=>?_;obtain⟨z,e1',wk,r,zs,e2',hf,ok,q⟩:_:=D4 h1;refine⟨_,(qO (CC (Ay T.x66.d (wG T) nofun (qA (Ay T.x43.d (UL T) nofun (qA (qv 0) (qA (qv 1) qN))) (qA Aj qN))))),?_⟩;right;exact⟨wk,r,rfl,hf,r,0, "box",zs,rfl,rfl,.inl ⟨rfl,rfl⟩,ok,λp hp=>Dn.of (q p hp)⟩
abbrev Ν:DO:=λds M Q=>FF ds λx y=>Gb y λz=>∃(wk:Wk) (r:Str×Tm×List (Str×Tm)) (zs:List Str),x=wk.D/\wk.rs.find? (DK z)=some r/\N6 zs r.2.1 (r.2.2.map (·.2))/\∀p,M p=none->Q (.ref p) (put M p (.lst ((Iz (C3 "late" r.2.1 (r.2.2.map (·.2)))).map D.str)))
theorem ZgL:Od T T.x65 18 Ν:=by
 refine CI.p2 T.x65.d.F ["works", "name"] λx y M Q hr nN h1=>?_;obtain⟨z,e1',wk,r,zs,e2',hf,ok,q⟩:_:=D4 h1;refine⟨_,(qO (CC (Ay T.x66.d (wG T) nofun (qA (Ay T.x43.d (UL T) nofun (qA (qv 0) (qA (qv 1) qN))) (qA Aj qN))))),?_⟩;right;exact⟨wk,r,rfl,hf,r,1, "late",zs,rfl,rfl,.inr ⟨rfl,rfl⟩,ok,λp hp=>Dn.of (q p hp)⟩
theorem rD (xs:List Str):(Qe xs).length=xs.length:=(DX _ _).length_eq
theorem gE (h:M p=some (.lst xs)):Bf M (.ref p)=some xs:=by simp[Bf,h]
noncomputable def R7:D->Str
 |.tup (.str s::_)=>s
 |_=>""
theorem sK (N:List Int->Nat)(g g':List Int->Int)(row:List (Str×Str×Nat))(E:Str->List (Str×Nat)):∀(f:Nat) (ms:List Int) (cs:List (List Int×Int)),∃s l,Vq N g g' (λms=>OD row ms E) f ms cs=.tup (.str s::l)
 |0,_,_=>⟨_,_,rfl⟩
 |f+1,ms,cs=>by
  rw[Vq];split
  .exact⟨_,_,rfl⟩
  .split
   .exact⟨_,_,rfl⟩
   .split
    .exact⟨_,_,rfl⟩
    .exact sK N g g' row E f _ _
noncomputable def Kp (f:Str)(r1 r2:Str×Tm×List (Str×Tm)):List Str:=Kz (Qe (r1.2.2.map (·.1))) (Iz (C3 f r2.2.1 (r2.2.2.map (·.2))))
noncomputable def X6 (wk:Wk)(r1 r2:Str×Tm×List (Str×Tm)):Bool:=!(Kp "box" r1 r2).isEmpty && !decide (R7 (XT (Fw (Du wk.ws wk.ds r1.2.1 r2.2.1)) r1.2.1 r2.2.1) = "never")
theorem Wk.Ok.rd {wk:Wk}(ok:wk.Ok){r:Str×Tm×List (Str×Tm)}(h:r∈wk.rs):N6 (wk.ws.map (·.1)++wk.ds.map (·.1)) r.2.1 (r.2.2.map (·.2)):=by
 have rk:=(ok.r.2 r h).2
 have go:∀{t:Tm} {n:Int},N5 wk.ws wk.ds t n->(t.deep<=12/\t.parts<=100)/\∀f,∀n∈t.names f,n∈wk.ws.map (·.1)++wk.ds.map (·.1):=λ{t n} h=>by
  refine⟨⟨h.1.2,h.1.1⟩,λf x hx=>?_⟩;obtain⟨l,hl,e⟩:=CL.mp hx;obtain⟨a,ha⟩:=h.2.leaf l hl;cases l with
  |box y=>
   have e:(if f = "box" then some y else none)=some x:=e;split at e
   .cases e;cases ha with
    |box c=>exact CK _ (VZ c)
    |over _ ho=>exact absurd rfl (Tm.over_len ho).2
   .cases e
  |late y=>
   have e:(if f = "late" then some y else none)=some x:=e;split at e
   .cases e;cases ha with
    |late c=>exact CK _ (VZ c)
    |over _ ho=>exact absurd rfl (Tm.over_len ho).2
   .cases e
  |door y=>
   have e:(if f = "door" then some y else none)=some x:=e;split at e
   .cases e;cases ha with
    |door c=>exact AU _ (VZ c)
    |over _ ho=>exact absurd rfl (Tm.over_len ho).2
   .cases e
  |_=>cases e
 refine⟨?_,by rw[Ab];exact rk.l,λt ht=>?_⟩
 .unfold Wk.ws;have:=ok.b.1;have:=ok.d.1;rw[Aq,Ab,Ab,Ab];ext
 .rcases A3.mp ht with rfl|ht
  .exact go rk.g
  .obtain⟨w,hw,rfl⟩:=An.mp ht;obtain⟨n,-,tk⟩:=rk.w w hw;exact go tk
theorem qX {wk:Wk}(ok:wk.Ok)(h:r∈wk.rs)(f:Str)(hf:f = "box"\/f = "late"):(Iz (C3 f r.2.1 (r.2.2.map (·.2)))).length<=12:=by
 have lw:(wk.ws.map (·.1)).length<=12:=by unfold Wk.ws;rw[Ab,Ab];exact ok.b.1
 refine AZ (Uz _ (wk.ws.map (·.1)) (Sg _) λx hx=>?_) lw;have rk:=(ok.r.2 r h).2
 have go:∀{t:Tm} {n:Int},N5 wk.ws wk.ds t n->x∈t.names f->x∈wk.ws.map (·.1):=λ{t n} h hx=>by
  obtain⟨m,e⟩:=uJ h.2 (x:=x) (by rcases hf with rfl|rfl<;>simp[hx]);exact VZ e
 have hx:=Gr.mp hx;unfold C3 at hx;rcases AT.mp hx with hx|hx
 .exact go rk.g hx
 .obtain⟨ns,hns,hx⟩:=QZ.mp hx;obtain⟨t,ht,rfl⟩:=An.mp hns;obtain⟨w,hw,rfl⟩:=An.mp ht;obtain⟨n,-,tk⟩:=rk.w w hw;exact go tk hx
abbrev sx:DO:=λds M Q=>Je ds λx y z=>Gb y λa=>Gb z λb=>∃(wk:Wk) (r1 r2:Str×Tm×List (Str×Tm)),x=wk.D/\wk.Ok/\wk.rs.find? (DK a)=some r1/\wk.rs.find? (DK b)=some r2/\∀v,(X6 wk r1 r2=false/\v=.non\/X6 wk r1 r2=true/\∃l,v=.tup l)->Q v M
theorem uf:Od T T.x67 26 sx:=by
 refine CI.p3 T.x67.d.F ["works", "ahead", "behind", "boxes", "answer"] λx y z M Q hr nN h1=>?_;obtain⟨a,rfl,h2⟩:=D4 h1;obtain⟨b,e1',wk,r1,r2,e2',ok,e1,e2,q⟩:_:=D4 h2;clear h1 h2;have m1:=DB e1;have m2:=DB e2;have w6:=(ok.r.2 r1 m1).2.l;refine⟨_,(qC (Cw 3 nN (Ay T.x47.d (aZ T) nofun (qA (Ay T.x63.d (vK T) nofun (qA (qv 0) (qA (qv 1) qN))) (qA (Ay T.x64.d (ZfC T) nofun (qA (qv 0) (qA (qv 2) qN))) qN)))) (qC (Ez (AX CO (Cp LU T.B.len CG (qA (qv 3) qN)) Aj) (qO (CC T4)) qE) (qC (Cw 4 nN (Ay T.x62.d (ZfD T) nofun (qA (qv 0) (qA (qv 1) (qA (qv 2) qN))))) (qC (Ez (AX CO (Be BA (qv 4) Aj) BQ) (qO (CC T4)) qE) (qO (CC (CB (qA (Be Hr (qv 3) Aj) (qA (qv 4) qN))))))))),?_⟩;right;refine⟨wk,r1,rfl,e1,w6,λp hp=>?_⟩;refine⟨wk,r2,_,rfl,e2,ok.rd m2,λp' hp'=>?_⟩;have hne:p≠p':=λe=>by rw[e,C8]at hp';cases hp'
 have hM:M p'=none:=by rw[Ds (Bj hne)]at hp';exact hp'
 have sb:=(Sub.put (o:=.lst ((Qe (r1.2.2.map (·.1))).map D.str)) hp).puts (o:=.lst ((Iz (C3 "box" r2.2.1 (r2.2.2.map (·.2)))).map D.str)) hM;refine⟨_,_,gE (by rw[Ds hne,C8]),rfl,by rw[rD,Ab];ext,qX ok m2 "box" (.inl rfl),?_⟩;have cl:X6 wk r1 r2=(!(Kp "box" r1 r2).isEmpty && !decide (R7 (XT (Fw (Du wk.ws wk.ds r1.2.1 r2.2.1)) r1.2.1 r2.2.1) = "never")):=rfl;change if ((Kp "box" r1 r2).length:Int)=0 then _ else _
 refine Cz (λc=>?_) λc=>?_
 .have:Kp "box" r1 r2=[]:=AG (by ext);rw[this]at cl;exact QC sb (q .non (.inl ⟨cl,rfl⟩))
 refine⟨wk,r1,r2,rfl,ok,e1,e2,λM' hM'=>?_⟩;have sb2:=sb.trans hM';obtain⟨w0,l0,e0⟩:=sK (Zx (Fw (Du wk.ws wk.ds r1.2.1 r2.2.1)) r1.2.1 r2.2.1) (λms=>gM (Fw (Du wk.ws wk.ds r1.2.1 r2.2.1)) ms (Ic (Fw (Du wk.ws wk.ds r1.2.1 r2.2.1))) "one" r1.2.1) (λms=>gM (Fw (Du wk.ws wk.ds r1.2.1 r2.2.1)) ms (Ic (Fw (Du wk.ws wk.ds r1.2.1 r2.2.1))) "other" r2.2.1) (Fw (Du wk.ws wk.ds r1.2.1 r2.2.1)) (Ic (Fw (Du wk.ws wk.ds r1.2.1 r2.2.1))) 65 [] [];have e0:XT (Fw (Du wk.ws wk.ds r1.2.1 r2.2.1)) r1.2.1 r2.2.1=.tup (.str w0::l0):=e0;rw[e0]at cl ⊢;grind;change if w0=Ak "never" then _ else Ck (FG ((Kp "box" r1 r2).map D.str) 0) _
 generalize Kp "box" r1 r2=ml at cl c ⊢;cases ml with
 |nil=>exact absurd rfl c
 |cons z ml=>
  refine Cz (λd=>?_) λd=>?_
  .rw[show R7 (.tup (.str w0::l0))=w0 from rfl,decide_eq_true d]at cl;exact QC sb2 (q .non (.inl ⟨cl,rfl⟩))
  .rw[show R7 (.tup (.str w0::l0))=w0 from rfl,decide_eq_false d]at cl;rw[show FG ((z::ml).map D.str) 0=some (.str z)from OE (j:=0) rfl,BR];exact QC sb2 (q _ (.inr ⟨cl,_,rfl⟩))
inductive Pl:Nat->D->Prop
 |flat {n:Nat} {d:D}:Ea d=true->Pl n d
 |tup {n:Nat} {xs:List D}:(∀d∈xs,Pl n d)->Pl (n+1) (.tup xs)
theorem tz (h:Ea d=true):Ku d d=true:=by
 cases d<;>first | exact absurd h Al | simp[Ku]
theorem aU :∀{xs:List D},(∀d∈xs,f d d=some true)->F4 f xs xs=some true
 |[],_=>rfl
 |x::r,h=>by
  unfold F4;rw[h x AF,aU λd hd=>h d (AE _ hd)];rfl
theorem Pl.cmp (h:Pl n d):DR M n d d=some true:=by
 induction h with
 | @flat n d h=>cases n<;>(unfold DR;rw[h,I0,if_pos rfl,tz h])
 |tup _ ih=>unfold DR;show(if false=true then _ else _)=_;rw[if_neg Al];exact aU ih
noncomputable def Uk (wk:Wk)(a b:Str):Bool:=(wk.rs.find? (DK a)).any λr1=>(wk.rs.find? (DK b)).any λr2=>X6 wk r1 r2
noncomputable abbrev Wk.nms (wk:Wk):List Str:=wk.rs.map (·.1)
theorem aT {wk:Wk}{z:Str}(h:z∈wk.nms):∃r,wk.rs.find? (DK z)=some r:=by
 obtain⟨r,hr,rfl⟩:=An.mp h;cases e:wk.rs.find? (DK r.1)with
 |some u=>exact⟨u,rfl⟩
 |none=>exact absurd (EV.mp e r hr) (by simp[DK])
theorem sv (h:xs.Perm ys):Qe xs=Qe ys:=GW (λa b _ _ p q=>aS p q) (Dh UG VW _) (Dh UG VW _) (((DX _ _).trans h).trans (DX _ _).symm)
theorem aO (zs:List Str):F4 (DR M 40) (zs.map D.str) (zs.map D.str)=some true:=aU λd hd=>by
 obtain⟨z,-,rfl⟩:=An.mp hd;exact Pl.cmp (.flat rfl)
noncomputable def Nc (p:Str×Str):L3.D:=.tup [.str p.1,.str p.2]
theorem iI (xs:List α)(k:Nat):L3.cutD (xs.map f) none (some (k:Int))=(xs.take k).map f:=by
 unfold L3.cutD;rw[HT.sIx_nat,HT.sIx_none,Ly,Nm,Ab,<- KU,List.take_eq_take_min];by_cases h:k<=xs.length
 .rw[Fb h,Fb h]
 .rw[Fl (show xs.length<=k by ext),KS,Bc,BO (by ext)]
theorem rW (xs:List α)(k:Nat):L3.cutD (xs.map f) (some (k:Int)) none=(xs.drop k).map f:=by
 unfold L3.cutD;rw[HT.sIx_nat,HT.sIx_none,Ab,<- List.map_drop,<- KU];congr 1
 by_cases h:k<=xs.length
 .rw[Fb h,BO (by rw[FW];ext)]
 .rw[Fl (by ext),Ka,List.drop_of_length_le (by ext),List.take_nil]
theorem pX (h:τ[j]? = some (some (.ref p)))(hM:M p=some (.lst xs)):Qa j t E τ M=t E (τ.set j (some (.lst xs))) (JA M p):=by
 unfold Qa;rw[h,Pb,BR,QB,hM]
theorem gT (zs:List Str):(zs.map D.str).all Ea=true:=by
 induction zs with
 |nil=>rfl
 |cons z r ih=>rw[AR,FZ,ih];rfl
theorem gS (x)(zs:List Str):((zs.map D.str).any λz=>Ku z (.str x))=decide (x∈zs):=by
 induction zs with
 |nil=>rfl
 |cons z r ih=>
  rw[AR,Fs,ih,gz];by_cases h:z=x
  .simp[h]
  .have h':¬x=z:=λe=>h e.symm;simp[h,h']
abbrev Zec:DO:=λds M Q=>FF ds λx y=>∃(wk:Wk) (zs:List Str),x=wk.D/\y=.lst (zs.map D.str)/\wk.Ok/\zs.Perm wk.nms/\Q .non M
theorem Zen:Od T T.x69 2 Zec:=by
 refine CI.p2 T.x69.d.F ["works", "order"] λx y M Q hr nN h=>?_;obtain⟨wk,zs,e1',e2',ok,pm,q⟩:_:=h;refine⟨_,(qO (Ez (AX (VC (Jz hr)) (Cp tQ T.B.sorted Rr (qA (qv 1) qN)) (Cp tQ T.B.sorted Rr (qA (Ay T.x44.d (bV T) nofun (qA (qv 0) qN)) qN))) (qO O4) qE)),?_⟩;right;have l8:=ok.r.1;have ll:zs.length<=8:=by rw[pm.length_eq,Ab];exact l8
 rw[O5,BR];refine⟨by ext,wk,rfl,ok,?_⟩;rw[show wk.rs.map (λr=>D.str r.1)=wk.nms.map D.str by rw[Bv];rfl,O5,BR];refine⟨by rw[Ab];ext,?_⟩;rw[sv pm,aO,BR,if_neg Bool.noConfusion];exact Dn.of q
abbrev δ:DO:=λds M Q=>Je ds λx y z=>Gb y λa=>∃(wk:Wk) (zs:List Str),x=wk.D/\z=.lst (zs.map D.str)/\wk.Ok/\a∈wk.nms/\(∀b∈zs,b∈wk.nms)/\zs.length<=8/\Q (.lst ((zs.filter (Uk wk a)).map D.str)) M
theorem zt:Od T T.x70 27 δ:=by
 refine CI.p3 T.x70.d.F ["works", "ahead", "names"] λx y z M Q hr nN h1=>?_;obtain⟨a,e1',wk,zs,e2',e3',ok,ha,hz,hl,q⟩:_:=D4 h1;clear h1;refine⟨_,(qO (CC (Jc (caps:=[("works",0),("ahead",1)]) ⟨rfl,by rfl,by rfl,by rfl,rfl,by rfl,by nofun⟩ rfl (JP (qv 2)) (λ_ _ _ _ _ _=>(qv 0)) (λ_ _ _ _ _ _=>(AX ia (Ay T.x67.d (uf T) nofun (qA (qv 1) (qA (qv 2) (qA (qv 0) qN)))) T4))))),?_⟩;right;refine EL.filt (GD (by ext)) trivial (λb hb R r=>?_) (λb hb R r=>?_) (Dn.of q)
 .obtain⟨r1,e1⟩:=aT ha;obtain⟨r2,e2⟩:=aT (hz b hb);walk_at "cap";refine⟨wk,r1,r2,rfl,ok,e1,e2,λv hv=>?_⟩;have ec:Uk wk a b=X6 wk r1 r2:=by unfold Uk;rw[e1,e2];rfl
  rw[ec]at r;rcases hv with⟨c,rfl⟩|⟨c,l,rfl⟩<;>rw[c]at r<;>exact r
 .walk_at "cap";exact r
noncomputable def D3 (wk:Wk):List Str->List (Str×Str)
 |[]=>[]
 |a::l=>(l.filter (Uk wk a)).map (λb=>(a,b))++D3 wk l
theorem uM (wk:Wk):∀zs,(D3 wk zs).length<=zs.length*zs.length
 |[]=>AJ _
 |a::l=>by
  have:=uM wk l;have h:=Cu (Uk wk a) l;show((l.filter (Uk wk a)).map (λb=>(a,b))++D3 wk l).length<=(l.length+1)*(l.length+1);rw[Aq,Ab,Nat.add_mul,Va];ext
theorem jZ (h:zs.length<=8):(D3 wk zs).length<=64:=AZ (uM wk zs) (AZ (Nat.mul_le_mul h h) (by decide))
abbrev Zfd:DO:=λds M Q=>FF ds λx y=>∃(wk:Wk) (zs:List Str),x=wk.D/\y=.lst (zs.map D.str)/\wk.Ok/\zs.Perm wk.nms/\Q (.lst ((D3 wk zs).map Nc)) M
theorem wJ:Od T T.x68 28 Zfd:=by
 refine CI.p2 T.x68.d.F ["works", "order", "pairs", "place", "ahead"] λx y M Q hr nN h=>?_;obtain⟨wk,zs,e1',e2',ok,pm,q⟩:_:=h;have l8:=ok.r.1;have ll:zs.length<=8:=by rw[pm.length_eq,Ab];exact l8
 have pf:=jZ (wk:=wk) ll;refine⟨_,(qC (E3 (Ay T.x69.d (Zen T) nofun (qA (qv 0) (qA (qv 1) qN)))) (qC (Cw 2 nN (Jv qN)) (EO (KG AK rfl (yK T.B.enumerate (qA (qv 1) qN)) (VN (is:=[3,4]) rfl (MN (LX (i:=3) nN rfl (BX rfl)) (MN (LX (i:=4) nN rfl (G4 rfl)) UB))) (qO (E3 (JX AN Ct Cr Se (qv 2) (qA (Gm (caps:=[("ahead",4)]) ⟨rfl,by rfl,by rfl,by rfl,rfl,by rfl,by nofun⟩ rfl (JP (Ay T.x70.d (zt T) nofun (qA (qv 0) (qA (qv 4) (qA (IA Ym (qv 1) (Tg (BC Hl (qv 3) Aj)) VP) qN))))) (λ_ _ _ _ _ _=>(CB (qA (qv 1) (qA (qv 0) qN))))) qN))))) (VR 2 (qO (CC (qv 2))))))),?_⟩;right;refine⟨wk,zs,rfl,rfl,ok,pm,?_⟩
 (try grind)
 intro p hp;refine⟨λτ M'=>M'=put M p (.lst ((D3 wk zs).map Nc))/\∃a b,τ=[some wk.D,some (.lst (zs.map D.str)),some (.ref p),a,b],?_,?_⟩
 .grind;refine⟨λk τ M'=>∃ps,(ps++D3 wk (zs.drop k)=D3 wk zs/\M'=put M p (.lst (ps.map Nc)))/\∃a b,τ=[some wk.D,some (.lst (zs.map D.str)),some (.ref p),a,b],⟨[],⟨rfl,rfl⟩,none,none,rfl⟩,λ_ _ _ _=>trivial,?_,?_⟩
  .intro k y τ M' hy;ext1⟨ps,⟨hps,e1'⟩,a,b,e2'⟩;obtain⟨d,hd,rfl⟩:=iW hy;obtain⟨z,hz,rfl⟩:=LW hd;have hk:=(Ah.mp hz).1;have e1:zs.drop k=z::zs.drop (k+1):=by rw[Gq hk,(Ah.mp hz).2]
   have mz:=Aw hz;grind;rw[show(k:Int)+1=((k+1:Nat):Int) by ext,rW];refine⟨wk,zs.drop (k+1),rfl,rfl,ok,pm.mem_iff.mp mz,λb hb=>pm.mem_iff.mp (List.mem_of_mem_drop hb),by rw[FW];ext,?_⟩;rw[e1]at hps;have hps:ps++(((zs.drop (k+1)).filter (Uk wk z)).map (λb=>(z,b))++D3 wk (zs.drop (k+1)))=D3 wk zs:=hps;rw[<- Bo]at hps;have fl:=congrArg Es hps;rw[Aq,Aq,Ab]at fl;refine EL.of (f:=λb=>Nc (z,b)) (GD (by ext)) trivial (λb hb R r=>?_) ?_
   .walk_at "cap";exact r
   .rw[gW];refine⟨GD (by rw[Ab,Ab];ext),_,⟨hps,?_⟩,_,_,rfl⟩;rw[AI,Bv];rfl
  .intro τ M';ext1⟨ps,⟨hps,e1'⟩,a,b,e2'⟩;rw[iX,Ab,Ka,show D3 wk []=[]from rfl,CH]at hps;rw[hps];exact⟨rfl,a,b,rfl⟩
 intro τ M';ext1⟨e1',a,b,e2'⟩;rw[pX (p:=p) rfl C8,VO hp];simp only[B5,CD];grind;exact Dn.of q
noncomputable def SX (ps:List (Str×Str))(a b:Str):Bool:=decide ((a,b)∈ps\/(b,a)∈ps)
noncomputable def gA (q:Str×Str):D->Bool
 |.tup [.str x,.str y]=>decide (x=q.1/\y=q.2)
 |_=>false
theorem fj (p q:Str×Str):DR M 40 (Nc p) (Nc q)=some (gA q (Nc p)):=by
 show F4 (DR M 39) [.str p.1,.str p.2] [.str q.1,.str q.2]=some (decide (p.1=q.1/\p.2=q.2));show some (decide (p.1=q.1) && (decide (p.2=q.2) && true))=_;rw[TL,RG]
theorem fi (ps:List (Str×Str))(q:Str×Str):(ps.map Nc).any (gA q)=decide (q∈ps):=by
 induction ps with
 |nil=>rfl
 |cons p ps ih=>rw[AR,Fs,ih];show(decide (p.1=q.1/\p.2=q.2) || decide (q∈ps))=_;rw[<- Bool.decide_or];refine decide_eq_decide.mpr ?_;rw[By,Prod.ext_iff];exact⟨λh=>h.imp (λc=>⟨c.1.symm,c.2.symm⟩) id,λh=>h.imp (λc=>⟨c.1.symm,c.2.symm⟩) id⟩
theorem aQ {M:Mp}{ps:List (Str×Str)}{a b:Str}{Q:El}(q:Q (.bl (decide ((a,b)∈ps))) M):Xn (.tup [.str a,.str b]) (.lst (ps.map Nc)) M Q:=by
 refine⟨gA (a,b),λz hz=>?_,?_⟩
 .obtain⟨p,-,rfl⟩:=An.mp hz;exact fj p (a,b)
 .rw[fi];exact q
abbrev Zfo:DO:=λds M Q=>Je ds λx y z=>Gb y λa=>Gb z λb=>∃ps:List (Str×Str),x=.lst (ps.map Nc)/\ps.length<=100/\Q (.bl (SX ps a b)) M
theorem ZfJ:Od T T.x71 1 Zfo:=by
 refine CI.p3 T.x71.d.F ["pairs", "one", "other"] λx y z M Q hr nN h1=>?_;obtain⟨a,rfl,h2⟩:=D4 h1;obtain⟨b,e1',ps,e2',hl,q⟩:_:=D4 h2;clear h1 h2;refine⟨_,(qO (CC (fZ (Jx (ZK (Jz hr)) (CB (qA (qv 1) (qA (qv 2) qN))) (qv 0) (by with_unfolding_all rfl)) (NQ (Jx (ZK (Jz hr)) (CB (qA (qv 2) (qA (qv 1) qN))) (qv 0) (by with_unfolding_all rfl)))))),?_⟩;right;refine aQ ?_;unfold SX at q;by_cases c:(a,b)∈ps
 .rw[decide_eq_true (.inl c)]at q;rw[decide_eq_true c];exact Dn.of q
 .rw[decide_eq_false c];refine aQ ?_;rw[decide_eq_decide.mpr (show((a,b)∈ps\/(b,a)∈ps)↔(b,a)∈ps from⟨λh=>h.resolve_left c,.inr⟩)]at q;exact Dn.of q
noncomputable def PJ (zs:List Str)(z:Str):List Str:=zs.take (zs.idxOf z)
theorem Yo :∀{zs:List Str},z∈zs->NY z zs=some (zs.idxOf z)
 |[],h=>nomatch h
 |a::l,h=>by
  unfold NY;by_cases e:a=z
  .rw[if_pos e,e,List.idxOf_cons_self]
  .rw[if_neg e,Yo ((A3.mp h).resolve_left λc=>e c.symm),Rz,show(a == z)=false by simpa using e];rfl
abbrev γ:DO:=λds M Q=>FF ds λx y=>Gb y λz=>∃zs:List Str,x=.lst (zs.map D.str)/\z∈zs/\zs.length<=100/\Q (.lst ((PJ zs z).map D.str)) M
theorem vM:Od T T.x73 1 γ:=by
 refine CI.p2 T.x73.d.F ["names", "name"] λx y M Q hr nN h1=>?_;obtain⟨z,e1',zs,e2',hz,hl,q⟩:_:=D4 h1;clear h1;refine⟨_,(qO (CC (IA Ym (qv 0) VP (Tg (JX AN Gg Gf (aJ (O1 hr)) (qv 0) (qA (qv 1) qN)))))),?_⟩;right;rw[O5,BR,Yo hz,BR,iI];exact Dn.of q
noncomputable def Zv (wk:Wk)(ps:List (Str×Str))(z:Str):List Str:=(PJ wk.nms z).filter λo=>SX ps o z
abbrev Ξ:DO:=λds M Q=>Je ds λx y z=>Gb z λn=>∃(wk:Wk) (ps:List (Str×Str)),x=wk.D/\y=.lst (ps.map Nc)/\wk.Ok/\n∈wk.nms/\ps.length<=100/\Q (.lst ((Zv wk ps n).map D.str)) M
theorem hJ (wk:Wk):wk.rs.map (λr=>D.str r.1)=wk.nms.map D.str:=by rw[Bv];rfl
theorem ZgK:Od T T.x72 3 Ξ:=by
 refine CI.p3 T.x72.d.F ["works", "clashes", "name"] λx y z M Q hr nN h1=>?_;obtain⟨n,e1',wk,ps,e2',e3',ok,hn,hl,q⟩:_:=D4 h1;clear h1;have l8:=ok.r.1;refine⟨_,(qO (CC (Jc (caps:=[("clashes",1),("name",2)]) ⟨rfl,by rfl,by rfl,by rfl,rfl,by rfl,by nofun⟩ rfl (JP (Ay T.x73.d (vM T) nofun (qA (Ay T.x44.d (bV T) nofun (qA (qv 0) qN)) (qA (qv 2) qN)))) (λ_ _ _ _ _ _=>(qv 0)) (λ_ _ _ _ _ _=>(GF (Ay T.x71.d (ZfJ T) nofun (qA (qv 1) (qA (qv 0) (qA (qv 2) qN))))))))),?_⟩;right;refine⟨wk,rfl,ok,wk.nms,by rw[hJ],hn,by rw[Ab];ext,?_⟩
 (try grind)
 refine EL.filt (GD (by unfold PJ;rw[AY,Ab];ext)) trivial (λb hb R r=>?_) (λb hb R r=>?_) (Dn.of q)
 .walk_at "cap";exact⟨ps,rfl,hl,r⟩
 .walk_at "cap";exact r
noncomputable def RY (wk:Wk)(f:Str)(a b:Str):List Str:=((wk.rs.find? (DK a)).bind λr1=>(wk.rs.find? (DK b)).map λr2=>Kp f r1 r2).getD []
theorem qW (h1:wk.rs.find? (DK a)=some r1)(h2:wk.rs.find? (DK b)=some r2):RY wk f a b=Kp f r1 r2:=by unfold RY;rw[h1,h2];rfl
noncomputable def OY (wk:Wk)(zs:List Str)(ps:List (Str×Str))(n o:Str):Bool:=(decide (o∈PJ zs n) && !(RY wk "late" o n).isEmpty) || decide (o∈Zv wk ps n)
noncomputable def PB (wk:Wk)(zs:List Str)(ps:List (Str×Str))(n:Str):List Str:=wk.nms.filter (OY wk zs ps n)
abbrev Κ:DO:=λds M Q=>Ua ds λx y z u=>Gb u λn=>∃(wk:Wk) (zs:List Str) (ps:List (Str×Str)),x=wk.D/\y=.lst (zs.map D.str)/\z=.lst (ps.map Nc)/\wk.Ok/\zs.Perm wk.nms/\n∈wk.nms/\ps.length<=100/\∀p,M p=none->Q (.ref p) (put M p (.lst ((PB wk zs ps n).map D.str)))
local macro_rules | `(tactic| simp_all_arith! [$xs,*])=>`(tactic| simp_all_arith [VJ,UH,Yt,Yu,aE,VG,↓ZH,↓ZI,↓ZJ,bn,↓iA,↓iB,↓iC,oZ,gT,gS,$xs,*])
theorem ZgO:Od T T.x76 20 Κ:=by
 refine CI.p4 T.x76.d.F ["works", "order", "clashes", "name", "ahead", "late", "rivals", "needed", "other", "feeds"] λx y z u M Q hr nN h1=>?_;obtain⟨n,e1',wk,zs,ps,e2',e3',e4',ok,pm,hn,hl,q⟩:_:=D4 h1;clear h1;have l8:=ok.r.1;have ll:zs.length<=8:=by rw[pm.length_eq,Ab];exact l8
 obtain⟨rn,en⟩:=aT hn;have mn:=DB en;refine⟨_,(qC (Cw 4 nN (Ay T.x73.d (vM T) nofun (qA (qv 1) (qA (qv 3) qN)))) (qC (Cw 5 nN (K9 (Ay T.x65.d (ZgL T) nofun (qA (qv 0) (qA (qv 3) qN))))) (qC (Cw 6 nN (Ay T.x72.d (ZgK T) nofun (qA (qv 0) (qA (qv 2) (qA (qv 3) qN))))) (qC (Cw 7 nN (Jv qN)) (EO (KG AK rfl (JP (Ay T.x44.d (bV T) nofun (qA (qv 0) qN))) (MM (i:=8) nN rfl (BX rfl)) (EO (Cw 9 nN (RP (Jx OX (qv 8) (qv 4) (by with_unfolding_all rfl)) (NQ (Jx Lb (Cp LU T.B.len CG (qA (Ay T.x47.d (aZ T) nofun (qA (Ay T.x63.d (vK T) nofun (qA (qv 0) (qA (qv 8) qN))) (qA (qv 5) qN))) qN)) Aj)))) (qO (Ez ((Tf (GF (qv 9)) (VF (AX OX (qv 8) (qv 6) (by with_unfolding_all rfl))))).pt (qO (E3 (JX AN Bi Bh QJ (qv 7) (qA (qv 8) qN)))) qE)))) (qO (CC (qv 7)))))))),?_⟩;right;refine⟨zs,rfl,pm.mem_iff.mpr hn,by ext,?_⟩
 (try grind)
 refine⟨wk,rn,_,rfl,en,ok.rd mn,λp hp=>?_⟩;rw[C8];dsimp only;rw[VO hp];refine⟨wk,ps,rfl,rfl,ok,hn,hl,λp hp=>?_⟩;generalize eL:D.lst ((Iz (C3 "late" rn.2.1 (rn.2.2.map (·.2)))).map D.str)=L;generalize eA:D.lst ((PJ zs n).map D.str)=A1;generalize eR:D.lst ((Zv wk ps n).map D.str)=R1;generalize D.lst (zs.map D.str)=Z1;generalize D.lst (ps.map Nc)=P1;refine⟨λτ M'=>(Sub M M'/\M' p=some (.lst ((PB wk zs ps n).map D.str)))/\∃a b,τ=[some wk.D,some Z1,some P1,some (.str n),some A1,some L,some R1,some (.ref p),a,b],?_,?_⟩
 .grind;refine⟨wk,rfl,ok,?_⟩;rw[hJ];refine⟨λk τ M'=>(Sub M M'/\M' p=some (.lst (((wk.nms.take k).filter (OY wk zs ps n)).map D.str)))/\∃a b,τ=[some wk.D,some Z1,some P1,some (.str n),some A1,some L,some R1,some (.ref p),a,b],⟨⟨Sub.put hp,C8⟩,none,none,rfl⟩,λ_ _ _ _=>trivial,?_,?_⟩
  .intro k y τ M' hy;ext1⟨⟨sb,hM⟩,a,b,e1'⟩;obtain⟨o,ho,rfl⟩:=LW hy;have mo:=Aw ho;have hk:=(Ah.mp ho).1;rw[Ab]at hk;obtain⟨ro,eo⟩:=aT mo;have w6:=(ok.r.2 ro (DB eo)).2.l;have em:=qW (f:="late") eo en;grind;refine⟨λτ M2=>(Sub M M2/\M2 p=some (.lst (((wk.nms.take k).filter (OY wk zs ps n)).map D.str)))/\τ=[some wk.D,some Z1,some P1,some (.str n),some A1,some L,some R1,some (.ref p),some (.str o),some (.bl (decide (o∈PJ zs n) && !(RY wk "late" o n).isEmpty))],?_,?_⟩
   .subst eA;subst eL;grind;refine Cz (λc=>?_) λc=>?_
    .refine⟨wk,ro,rfl,eo,w6,λp1 hp1=>?_⟩;have ne:p≠p1:=λe=>by rw[e,hp1]at hM;cases hM
     have hM1:M p1=none:=by
      cases e:M p1 with
      |none=>rfl
      |some u=>rw[sb p1 u e]at hp1;cases hp1
     refine⟨_,_,rfl,rfl,by rw[rD,Ab];ext,qX ok mn "late" (.inr rfl),⟨sb.puts hM1,by rw[Ds ne];exact hM⟩,?_⟩;rw[em,decide_eq_true c,Mh];change[_,_,_,_,_,_,_,_,_,some (D.bl (decide (0<((Kp "late" ro rn).length:Int))))]=_;cases Kp "late" ro rn with
     |nil=>rfl
     |cons z l=>rw[decide_eq_true (show(0:Int)<((z::l).length:Nat) by rw[AO];ext)];rfl
    .rw[decide_eq_false c];exact⟨⟨sb,hM⟩,rfl⟩
   rintro τ M2 ⟨⟨sb2,hM2⟩,rfl⟩;subst eR;grind;have et:wk.nms.take (k+1)=wk.nms.take k++[o]:=by rw[A8,ho];rfl
   have fl:(((wk.nms.take k).filter (OY wk zs ps n)).map D.str).length<Am:=BU (by rw[Ab];have:=Cu (OY wk zs ps n) (wk.nms.take k);rw[AY]at this;ext)
   have yes:∀{R:Prop},OY wk zs ps n o=true->R->GX (.ref p) [.str o] M2 λx M1=>(Sub M M1/\M1 p=some (.lst (((wk.nms.take (k+1)).filter (OY wk zs ps n)).map D.str)))/\R:=λhb r=>by
    rw[VL hM2];refine⟨fl,⟨sb2.puts hp,?_⟩,r⟩;rw[C8,et,DN,FY,if_pos hb,AI];rfl
   refine Cz (λc=>⟨Ix hM2,yes ?_ ⟨_,_,rfl⟩⟩) λc=>Cz (λd=>⟨Ix hM2,yes ?_ ⟨_,_,rfl⟩⟩) λd=>⟨⟨sb2,?_⟩,_,_,rfl⟩
   .unfold OY;rw[decide_eq_true c.1,c.2];rfl
   .unfold OY;rw[decide_eq_true d,Vl]
   .have hb:¬OY wk zs ps n o=true:=λh=>by
     unfold OY at h;rw[decide_eq_false d,Mi,BI,decide_eq_true_eq,Bool.not_eq_true']at h;exact c h
    rw[et,DN,FY,if_neg hb,Kf,CH];exact hM2
  .intro τ M';ext1⟨h,a,b,e1'⟩;rw[Ab,Bc]at h;exact⟨h,a,b,rfl⟩
 intro τ M';ext1⟨⟨sb,hM⟩,a,b,e1'⟩;grind;refine QC (λx o e=>?_) (q p hp);by_cases c:x=p
 .rw[c]at e ⊢;rw[C8]at e;rw[hM,e]
 .rw[Ds c]at e;exact sb x o e
noncomputable def Kr (AQ:List (Str×List Str)):List (B4×D):=AQ.map λkv=>(.inr kv.1,.lst (kv.2.map D.str))
noncomputable def Zw (wk:Wk)(zs:List Str)(ps:List (Str×Str)):List (Str×List Str):=wk.nms.map λn=>(n,PB wk zs ps n)
theorem zL (h:(AQ.map (·.1)).Nodup):((Kr AQ).map (·.1)).Nodup:=by
 unfold Kr;rw[Bv];unfold Et at h ⊢;rw[Cj]at h ⊢;exact h.imp λh e=>h (DI e)
theorem ZU {wk:Wk}(ok:wk.Ok):(wk.nms.map λn=>n).Nodup:=by
 rw[KW];exact(BJ.mp ok.nd).2.1
structure L4 (M M':Mp)(g:Str->List Str)(ns:List Str)(f:Str->Av):Prop where
 s:Sub M M'
 n:∀n∈ns,M (f n)=none/\M' (f n)=some (.lst ((g n).map D.str))
 i:∀a∈ns,∀b∈ns,f a=f b->a=b
noncomputable def ME (ns:List Str)(f:Str->Av):List (B4×D):=ns.map λn=>(.inr n,.ref (f n))
theorem L4.more {M M':Mp}{g:Str->List Str}{ns:List Str}{f:Str->Av}(h:L4 M M' g ns f){n:Str}{p:Av}(hp:M' p=none)(hn:n∉ns):L4 M (put M' p (.lst ((g n).map D.str))) g (ns++[n]) λx=>if x=n then p else f x:=by
 have hM:M p=none:=by
  cases e:M p with
  |none=>rfl
  |some u=>rw[h.s p u e]at hp;cases hp
 have ne:∀a∈ns,f a≠p:=λa ha e=>by
  have:=(h.n a ha).2;rw[e,hp]at this;cases this
 have na:∀a∈ns,¬a=n:=λa ha e=>hn (e ▸ ha);refine⟨h.s.puts hM,λa ha=>?_,λa ha b hb e=>?_⟩
 .rcases AT.mp ha with ha|ha
  .rw[if_neg (na a ha),Ds (ne a ha)];exact h.n a ha
  .rw[AL.mp ha,if_pos rfl,C8];exact⟨hM,rfl⟩
 .rcases AT.mp ha with ha|ha<;>rcases AT.mp hb with hb|hb
  .rw[if_neg (na a ha),if_neg (na b hb)]at e;exact h.i a ha b hb e
  .rw[if_neg (na a ha),AL.mp hb,if_pos rfl]at e;exact absurd e (ne a ha)
  .rw[if_neg (na b hb),AL.mp ha,if_pos rfl]at e;exact absurd e.symm (ne b hb)
  .rw[AL.mp ha,AL.mp hb]
abbrev Zfb:DO:=λds M Q=>Je ds λx y z=>∃(wk:Wk) (zs:List Str) (ps:List (Str×Str)),x=wk.D/\y=.lst (zs.map D.str)/\z=.lst (ps.map Nc)/\wk.Ok/\zs.Perm wk.nms/\ps.length<=100/\∀f M',L4 M M' (PB wk zs ps) wk.nms f->Q (.dic (ME wk.nms f)) M'
theorem ZfE:Od T T.x75 21 Zfb:=by
 refine CI.p3 T.x75.d.F ["works", "order", "clashes"] λx y z M Q hr nN h=>?_;obtain⟨wk,zs,ps,e1',e2',e3',ok,pm,hl,q⟩:_:=h;have l8:=ok.r.1;have nd:wk.nms.Nodup:=by have:=ZU ok;rwa[KW]at this
 refine⟨_,(qO (CC (D9 (aN rfl) T.B.dict LA (qA (Gm (caps:=[("works",0),("order",1),("clashes",2)]) ⟨rfl,by rfl,by rfl,by rfl,rfl,by rfl,by nofun⟩ rfl (JP (Ay T.x44.d (bV T) nofun (qA (qv 0) qN))) (λ_ _ _ _ _ _=>(CB (qA (qv 0) (qA (Ay T.x76.d (ZgO T) nofun (qA (qv 1) (qA (qv 2) (qA (qv 3) (qA (qv 0) qN))))) qN))))) qN)))),?_⟩;right;refine⟨wk,rfl,ok,?_⟩;rw[hJ];refine⟨GD (by rw[Ab,Ab];ext),λi ys M'=>∃f,L4 M M' (PB wk zs ps) (wk.nms.take i) f/\ys=(wk.nms.take i).map λn=>.tup [.str n,.ref (f n)],⟨λ_=>0,⟨Sub.refl _,λ_ h=>absurd h AS,λ_ h=>absurd h AS⟩,rfl⟩,?_,?_,?_⟩
 .rintro i ys M' ⟨f,_,rfl⟩;exact⟨trivial,by rw[Ab,AY];ext⟩
 .rintro i x ys M' hx ⟨f,hf,rfl⟩;obtain⟨n,hn,rfl⟩:=LW hx;unfold GC;dsimp only;rw[if_pos rfl];walk_at "cap";refine⟨wk,zs,ps,rfl,rfl,rfl,ok,pm,Aw hn,hl,λp hp=>?_⟩;have et:wk.nms.take (i+1)=wk.nms.take i++[n]:=by rw[A8,hn];rfl
  have fr:n∉wk.nms.take i:=λh=>by
   have h2:=(Gv (i+1) wk.nms).nodup nd;rw[et]at h2;exact(BJ.mp h2).2.2 n h n (AL.mpr rfl) rfl
  rw[et];refine⟨_,hf.more hp fr,?_⟩;rw[AI,List.map_singleton,if_pos rfl];congr 1
  exact Dj λa ha=>by rw[if_neg (λe:a=n=>fr (e ▸ ha))]
 .rintro ys M' ⟨f,hf,rfl⟩;rw[Ab,Bc]at hf ⊢;refine⟨ME wk.nms f,?_,GD (by unfold ME;rw[Ab,Ab];ext),?_⟩
  .simp only[GZ,ME,Bv];rfl
  .rw[bH _ (by unfold ME;rw[Bv];unfold Et at nd ⊢;rw[Cj];exact nd.imp λh e=>h (DI e))];exact Dn.of (q f M' hf)
abbrev ui:DO:=λds M Q=>FF ds λx y=>∃(wk:Wk) (zs:List Str),x=wk.D/\y=.lst (zs.map D.str)/\wk.Ok/\zs.Perm wk.nms/\∀f M',L4 M M' (PB wk zs (D3 wk zs)) wk.nms f->Q (.dic (ME wk.nms f)) M'
theorem sO:Od T T.x74 30 ui:=by
 refine CI.p2 T.x74.d.F ["works", "order"] λx y M Q hr nN h=>?_;obtain⟨wk,zs,e1',e2',ok,pm,q⟩:_:=h;have l8:=ok.r.1;refine⟨_,(qO (CC (Ay T.x75.d (ZfE T) nofun (qA (qv 0) (qA (qv 1) (qA (Ay T.x68.d (wJ T) nofun (qA (qv 0) (qA (qv 1) qN))) qN)))))),?_⟩;right;exact⟨wk,zs,rfl,rfl,ok,pm,wk,zs,_,rfl,rfl,rfl,ok,pm,AZ (jZ (by rw[pm.length_eq,Ab];exact l8)) (by decide),λf M' h=>Dn.of (q f M' h)⟩
abbrev Zdg:DO:=λds M Q=>FF ds λx y=>OW M x λ_=>EW y λk=>0<=k/\∀z:Int,Q (.int z) M
theorem UK:Od T T.x77 1 Zdg:=by
 refine CI.p2 T.x77.d.F ["script", "k"] λx y M Q hr nN h1=>?_;obtain⟨ns,hl,hs,h2⟩:=hW h1;obtain⟨k,rfl,hk,q⟩:=CU h2;refine⟨_,(qC (Ez (AX La (qv 1) (Cp LU T.B.len CG (qA (qv 0) qN))) (qO (CC (Be Hr (qv 0) (qv 1)))) qE) (qO (CC Aj))),?_⟩;right;simp only[hs,hl];grind;refine Cz (λc=>?_) λc=>Dn.of (q 0);obtain⟨o,ho,mo⟩:=aA (xs:=ns.map D.int) (i:=k) hk (by rw[Ab];ext);obtain⟨z,_,rfl⟩:=An.mp mo;simp only[ho,BR];exact Dn.of (q z)
noncomputable def CP:Str:="abcdefghijklmnopqrstuvwxyz"
theorem kL:CP.cps.toList.length=26:=by nofun
theorem ZfS:CP.cps.toList.all small=true:=by nofun
theorem yo:CP.cps.toList.Nodup:=by nofun
theorem kI (h0:0<=i)(h1:i<26):∃c,FG CP.cps.toList i=some c/\small c=true:=by
 obtain⟨a,rfl⟩:∃a:Nat,i=(a:Int):=⟨i.toNat,by ext⟩;have la:a<CP.cps.toList.length:=by rw[kL];ext
 exact⟨_,OE (Af la),CM.mp ZfS _ (FX la)⟩
theorem vB (hi:0<=i)(hj:0<=j)(h1:FG CP.cps.toList i=some c)(h2:FG CP.cps.toList j=some c)(i6:i<26)(j6:j<26):i=j:=by
 obtain⟨a,rfl⟩:∃a:Nat,i=(a:Int):=⟨i.toNat,by ext⟩;obtain⟨b,rfl⟩:∃b:Nat,j=(b:Int):=⟨j.toNat,by ext⟩;have la:a<CP.cps.toList.length:=by rw[kL];ext
 have lb:b<CP.cps.toList.length:=by rw[kL];ext
 rw[OE (Af la)]at h1;rw[OE (Af lb)]at h2;have:=(Jq yo).mp ((A9 h1).trans (A9 h2).symm);ext
theorem Yn (a b:Str):(a++b).cps.toList=a.cps.toList++b.cps.toList:=by
 show(a.cps++b.cps).toList=_;rw[Ot]
theorem rJ (h1:1<=z.length)(h8:z.length<=8)(hs:∀c∈z.cps.toList,small c=true):J3 z:=by
 refine⟨⟨?_,by ext⟩,?_⟩
 .unfold ZF;rw[<- Array.all_toList];refine CM.mpr λc hc=>?_;have:=hs c hc;unfold small at this;have:=of_decide_eq_true this;exact decide_eq_true (by ext)
 .unfold Gn;rw[CM.mpr hs,decide_eq_true ⟨h1,h8⟩];rfl
def UQ (n k:Int)(z:Str):Prop:=∃c d,FG CP.cps.toList (n / 192%26)=some c/\FG CP.cps.toList ((n / 4992+k)%26)=some d/\small c=true/\small d=true/\z=Ja c (n / 24%8%(1+n / 3%8))++(⟨#[d]⟩:Str)++Ja c (1+n / 3%8-1-n / 24%8%(1+n / 3%8))
theorem Sf (c)(n):(Ja c n).cps.toList=Ax n.toNat c:=rfl
theorem UQ.ok (h:UQ n k z):J3 z:=by
 obtain⟨c,d,_,_,sc,sd,rfl⟩:=h;have hm:=Ce (n / 24%8) (by omega:1+n / 3%8≠0);have hm2:=BL (n / 24%8) (by omega:0<1+n / 3%8)
 have len:(Ja c (n / 24%8%(1+n / 3%8))++(⟨#[d]⟩:Str)++Ja c (1+n / 3%8-1-n / 24%8%(1+n / 3%8))).length=(1+n / 3%8).toNat:=by
  show K6 _=_;rw[<- BE,Yn,Yn,Sf,Sf];simp;ext
 refine rJ (by rw[len];ext) (by rw[len];ext) λx hx=>?_;rw[Yn,Yn,Sf,Sf]at hx;simp only[Di,Pp,E1]at hx;rcases hx with(⟨_,rfl⟩|hx)|⟨_,rfl⟩
 .exact sc
 .rw[hx];exact sd
 .exact sc
theorem UQ.inj (h1:UQ n i z)(h2:UQ n j z):(n / 4992+i)%26=(n / 4992+j)%26:=by
 obtain⟨c,d,a1,a2,_,_,e1⟩:=h1;obtain⟨c',d',b1,b2,_,_,e2⟩:=h2;rw[a1]at b1;cases b1;have e:=congrArg (λs:Str=>s.cps.toList) (e1.symm.trans e2);simp only[Yn,Sf,Bo]at e;have e3:=(List.append_cancel_left e);have:d=d':=by simpa using congrArg List.head? e3
 subst this;exact vB (by ext) (by ext) a2 b2 (by ext) (by ext)
def QN (i m:Int)(z:Str):Prop:=∃c,FG CP.cps.toList i=some c/\small c=true/\z=Ja c m
theorem QN.ok (h:QN i m z)(h1:1<=m)(h8:m<=8):J3 z:=by
 obtain⟨c,_,sc,rfl⟩:=h
 have len:(Ja c m).length=m.toNat:=by
  show K6 _=_;rw[<- BE,Sf,Bn]
 refine rJ (by rw[len];ext) (by rw[len];ext) λx hx=>?_;rw[Sf]at hx;rw[(Pp.mp hx).2];exact sc
theorem QN.inj (h1:QN i m z)(h2:QN i' m' z)(hi:0<=i/\i<26)(hi':0<=i'/\i' < 26)(hm:1<=m)(hm':1<=m'):i=i'/\m=m':=by
 obtain⟨c,a,_,e1⟩:=h1;obtain⟨c',a',_,e2⟩:=h2;have e:=congrArg (λs:Str=>s.cps.toList) (e1.symm.trans e2);simp only[Sf]at e;have el:=congrArg Es e;rw[Bn,Bn]at el
 have ec:c=c':=by
  obtain⟨k,hk⟩:∃k,m.toNat=k+1:=⟨m.toNat-1,by ext⟩;obtain⟨k',hk'⟩:∃k,m'.toNat=k+1:=⟨m'.toNat-1,by ext⟩;rw[hk,hk',CY,CY]at e;injection e
 subst ec;exact⟨vB hi.1 hi'.1 a a' hi.2 hi'.2,by ext⟩
def KO (n k:Int)(z:Str):Prop:=if n%3=2 then(if k<5 then QN (n / 192%26) (1+(2*k+n / 192)%5) z else QN ((n / 192%26+1+n / 4992%25)%26) (1+(3*k+n / 192)%4) z)else UQ n (7*k) z
theorem KO.ok (h:KO n k z):J3 z:=by
 unfold KO at h;split at h
 .split at h
  .exact h.ok (by ext) (by ext)
  .exact h.ok (by ext) (by ext)
 .exact h.ok
theorem KO.inj (h1:KO n i z)(h2:KO n j z)(hi:0<=i/\i<9)(hj:0<=j/\j<9):i=j:=by
 unfold KO at h1 h2;split at h1
 .next hn=>
  rw[if_pos hn]at h2;split at h1
  .split at h2
   .have:=QN.inj h1 h2 (by ext) (by ext) (by ext) (by ext);ext
   .have:=QN.inj h1 h2 (by ext) (by ext) (by ext) (by ext);ext
  .split at h2
   .have:=QN.inj h1 h2 (by ext) (by ext) (by ext) (by ext);ext
   .have:=QN.inj h1 h2 (by ext) (by ext) (by ext) (by ext);ext
 .next hn=>
  rw[if_neg hn]at h2;have:=UQ.inj h1 h2;ext
theorem Yk (hi:i.natAbs<1000)(hj:j.natAbs<1000):O8 i j:=by
 unfold O8;ext
abbrev Ζ:DO:=λds M Q=>FF ds λx y=>EW x λn=>EW y λk=>(0<=n/\n<10^9/\0<=k/\k<26)/\∀z,KO n k z->Q (.str z) M
theorem lF:Od T T.x79 1 Ζ:=by
 refine CI.p2 T.x79.d.F ["number", "k", "letters", "fill", "long", "at", "sign"] λx y M Q hr nN h1=>?_;obtain⟨n,rfl,h2⟩:=CU h1;obtain⟨k,e1',⟨n0,n9,k0,k26⟩,q⟩:_:=CU h2;refine⟨_,(qC (Cw 2 nN BQ) (qC (Cw 3 nN (BC G3 (BC KD (qv 0) Aj) Aj)) (qC (Ez (AX CO (BC G3 (qv 0) Aj) Aj) (qC (Ez (AX La (qv 1) Aj) (qO (CC (BC aY (Be X8 (qv 2) (qv 3)) (BC Hl Aj (BC G3 (BC Hl (BC Uo Aj (qv 1)) (BC KD (qv 0) Aj)) Aj))))) qE) (qO (CC (BC aY (Be X8 (qv 2) (BC G3 (BC Hl (BC Hl (qv 3) Aj) (BC G3 (BC KD (qv 0) Aj) Aj)) Aj)) (BC Hl Aj (BC G3 (BC Hl (BC Uo Aj (qv 1)) (BC KD (qv 0) Aj)) Aj)))))) qE) (qC (Cw 4 nN (BC Hl Aj (BC G3 (BC KD (qv 0) Aj) Aj))) (qC (Cw 5 nN (BC G3 (BC G3 (BC KD (qv 0) Aj) Aj) (qv 4))) (qC (Cw 6 nN (Be X8 (qv 2) (BC G3 (BC Hl (BC KD (qv 0) Aj) (BC Uo Aj (qv 1))) Aj))) (qO (CC (BC uK (BC uK (BC aY (Be X8 (qv 2) (qv 3)) (qv 5)) (qv 6)) (BC aY (Be X8 (qv 2) (qv 3)) (BC ML (BC ML (qv 4) Aj) (qv 5)))))))))))),?_⟩;right;have hm:=Ce (n / 24%8) (by omega:1+n / 3%8≠0);have hm2:=BL (n / 24%8) (by omega:0<1+n / 3%8);have hL:("abcdefghijklmnopqrstuvwxyz":Str).length<=Am:=by nofun
 have len:∀c i,(Ja c i).length=i.toNat:=λc i=>by
  show K6 _=_;rw[<- BE,Sf,Bn]
 obtain⟨c,hc,sc⟩:=kI (i:=n / 192%26) (by ext) (by ext);refine⟨⟨by decide,by decide⟩,Cz (λh2=>Cz (λh5=>⟨hL,?_⟩) λh5=>⟨⟨by decide,by decide⟩,hL,?_⟩) λh2=>⟨⟨by decide,by decide⟩,⟨by decide,by decide⟩,by ext,⟨by decide,by decide⟩,Yk (by decide) (by ext),hL,?_⟩⟩
 .change Ck (FG CP.cps.toList _) _;rw[hc,BR];refine⟨Yk (by decide) (by ext),⟨by decide,by decide⟩,ZY ⟨by ext,by ext⟩ (Dn.of (q _ ?_))⟩;unfold KO;rw[if_pos h2,if_pos h5];exact⟨c,hc,sc,rfl⟩
 .obtain⟨d,hd,sd⟩:=kI (i:=(n / 192%26+1+n / 4992%25)%26) (by ext) (by ext);change Ck (FG CP.cps.toList _) _;rw[hd,BR];refine⟨Yk (by decide) (by ext),⟨by decide,by decide⟩,ZY ⟨by ext,by ext⟩ (Dn.of (q _ ?_))⟩;unfold KO;rw[if_pos h2,if_neg h5];exact⟨d,hd,sd,rfl⟩
 .obtain⟨d,hd,sd⟩:=kI (i:=(n / 4992+7*k)%26) (by ext) (by ext);change Ck (FG CP.cps.toList _) _;rw[hd,BR];refine⟨hL,?_⟩;change Ck (FG CP.cps.toList _) _;rw[hc,BR];refine ZY ⟨hm,by ext⟩ ⟨GD ?_,hL,?_⟩
  .rw[len];show _+1<=_;ext
  change Ck (FG CP.cps.toList _) _;rw[hc,BR];refine ZY ⟨by ext,by ext⟩ ⟨GD ?_,Dn.of (q _ ?_)⟩
  .rw[Str.length_append,len,len];show _+1+_<=_;ext
  .unfold KO;rw[if_neg h2];exact⟨c,d,hc,hd,sc,sd,rfl⟩
theorem SY (n:Nat):(0:Int)<2^n:=PV (by decide)
theorem Yz:∀{ws:List (Str×Int)},(ws.map (·.1)).Nodup->∀{p:Str×Int},p∈ws->ws.lookup p.1=some p.2
 |[],_,p,h=>nomatch h
 |(y,n)::r,nd,p,h=>by
  rw[AR,Eg]at nd;rcases A3.mp h with rfl|h
  .rw[BG,beq_self_eq_true]
  .have ne:(p.1 == y)=false:=by
    refine JM.mpr λe=>nd.1 ?_;exact An.mpr ⟨p,h,eq_of_beq e⟩
   rw[BG,ne];exact Yz nd.2 h
noncomputable abbrev Px (bs:List (Str×Int×Int)):List (Str×Int):=bs.map λb=>(b.1,b.2.1)
structure Sp (bs:List (Str×Int×Int))(es:List (Str×Int)):Prop where
 b:bs.length<=12/\∀b∈bs,J3 b.1/\1<=b.2.1/\b.2.1<=64
 d:es.length<=6/\∀d∈es,J3 d.1/\1<=d.2/\d.2<=64
 nb:(bs.map (·.1)).Nodup
 nd:(es.map (·.1)).Nodup
def Sk (bs:List (Str×Int×Int))(es:List (Str×Int))(w:Int)(t:Tm):Prop:=Wd (Px bs) es t w/\t.deep=1/\t.parts=1
abbrev Ε:DO:=λds M Q=>Ua ds λx1 x2 x3 x4=>EW x1 λn=>EW x2 λwd=>∃(bs:List (Str×Int×Int)) (es:List (Str×Int)),x3=.lst (bs.map E2)/\x4=.lst (es.map G1)/\Sp bs es/\(1<=wd/\wd<=64)/\0<=n/\∀t,Sk bs es wd t->Q t.D M
theorem bM:Od T T.x80 1 Ε:=by
 refine CI.p4 T.x80.d.F ["number", "want", "boxes", "doors", "fit"] λx1 x2 x3 x4 M Q hr nN h1=>?_;obtain⟨n,rfl,h2⟩:=CU h1;obtain⟨wd,e1',bs,es,e2',e3',sp,⟨w1,w64⟩,n0,q⟩:_:=CU h2;refine⟨_,(qC (kA (caps:=[("want",1)]) (i:=4) nN rfl rfl ⟨rfl,by rfl,by rfl,by rfl,rfl,by rfl,by nofun⟩ rfl (JP (qv 2)) (λ_ _ _ _ _ _=>(CB (qA BQ (qA (Be BA (qv 0) Aj) qN)))) (λ_ _ _ _ _ _=>(AX CO (Be BA (qv 0) Aj) (qv 1)))) (qC (Cw 4 nN (BC ZV (qv 4) (Jc (caps:=[("want",1)]) ⟨rfl,by rfl,by rfl,by rfl,rfl,by rfl,by nofun⟩ rfl (JP (qv 2)) (λ_ _ _ _ _ _=>(CB (qA BQ (qA (Be BA (qv 0) Aj) qN)))) (λ_ _ _ _ _ _=>(AX CO (Be BA (qv 0) Aj) (qv 1)))))) (qC (Cw 4 nN (BC zO (qv 4) (Jc (caps:=[("want",1)]) ⟨rfl,by rfl,by rfl,by rfl,rfl,by rfl,by nofun⟩ rfl (JP (qv 3)) (λ_ _ _ _ _ _=>(CB (qA BQ (qA (Be BA (qv 0) Aj) qN)))) (λ_ _ _ _ _ _=>(AX CO (Be BA (qv 0) Aj) (qv 1)))))) (qC (E3 (JX AN Bi Bh QJ (qv 4) (qA (CB (qA BQ (qA (qv 1) (qA (BC G3 (BC Uo (BC KD (qv 0) Aj) Aj) (BC VD Aj (qv 1))) qN)))) qN))) (qO (CC (Be Hr (qv 4) (BC G3 (qv 0) (Cp LU T.B.len CG (qA (qv 4) qN)))))))))),?_⟩;right;have hp0:=SY wd.toNat
 have lb:=sp.b.1;have ld':=sp.d.1
 have lkb:∀b∈bs,b.2.1=wd->(Px bs).lookup b.1=some wd:=λb hb e=>by
  have:=Yz (ws:=Px bs) (p:=(b.1,b.2.1)) (by unfold Px;rw[Bv];exact sp.nb) (An.mpr ⟨b,hb,rfl⟩);rw[e]at this;exact this
 have lkd:∀d∈es,d.2=wd->es.lookup d.1=some wd:=λd hd e=>by
  have:=Yz (p:=d) sp.nd hd;rw[e]at this;exact this
 refine EL.filt (ks:=bs) (g:=E2) (f:=λb=>(Tm.box b.1).D) (pr:=λb=>decide (b.2.1=wd)) (GD (by ext)) trivial (λd hd R r=>?_) (λd hd R r=>?_) ?_
 .simp only[E2];walk_at "cap";exact r
 .simp only[E2];walk_at "cap";exact r
 have f1:=Cu (λb:Str×Int×Int=>decide (b.2.1=wd)) bs;have f2:=Cu (λd:Str×Int=>decide (d.2=wd)) es;refine EL.filt (ks:=bs) (g:=E2) (f:=λb=>(Tm.late b.1).D) (pr:=λb=>decide (b.2.1=wd)) (GD (by ext)) trivial (λd hd R r=>?_) (λd hd R r=>?_) ?_
 .simp only[E2];walk_at "cap";exact r
 .simp only[E2];walk_at "cap";exact r
 refine⟨GD (by rw[Ab,Ab];ext),?_⟩;refine EL.filt (ks:=es) (g:=G1) (f:=λb=>(Tm.door b.1).D) (pr:=λb=>decide (b.2=wd)) (GD (by ext)) trivial (λd hd R r=>?_) (λd hd R r=>?_) ?_
 .simp only[G1];walk_at "cap";exact r
 .simp only[G1];walk_at "cap";exact r
 refine⟨GD (by rw[Ab,Ab,Ab];ext),λp hp=>⟨⟨by decide,by decide⟩,.inr (by decide),⟨by ext,by ext,by decide⟩,by ext,BU (by rw[Ab,Ab,Ab];ext),by ext,?_⟩⟩
 have all:∀d∈(((bs.filter λb=>decide (b.2.1=wd)).map λb=>(Tm.box b.1).D)++((bs.filter λb=>decide (b.2.1=wd)).map λb=>(Tm.late b.1).D)++((es.filter λb=>decide (b.2=wd)).map λb=>(Tm.door b.1).D)++[D.tup [D.str "num",D.int wd,D.int (n / 7*6364136223846793005%(1*2^wd.toNat))]]),∃t,Sk bs es wd t/\d=t.D:=λd hd=>by
  simp only[Di,E1]at hd;rcases hd with((hd|hd)|hd)|hd
  .obtain⟨b,hb,rfl⟩:=An.mp hd;obtain⟨hb,e⟩:=Br.mp hb;exact⟨_,⟨.box (lkb b hb (of_decide_eq_true e)),rfl,rfl⟩,rfl⟩
  .obtain⟨b,hb,rfl⟩:=An.mp hd;obtain⟨hb,e⟩:=Br.mp hb;exact⟨_,⟨.late (lkb b hb (of_decide_eq_true e)),rfl,rfl⟩,rfl⟩
  .obtain⟨b,hb,rfl⟩:=An.mp hd;obtain⟨hb,e⟩:=Br.mp hb;exact⟨_,⟨.door (lkd b hb (of_decide_eq_true e)),rfl,rfl⟩,rfl⟩
  .exact⟨.num wd (n / 7*6364136223846793005%(1*2^wd.toNat)),⟨.num ⟨w1,w64,Ce _ (by ext),by rw[U9];exact BL _ hp0⟩,rfl,rfl⟩,hd⟩
 generalize hL:(((bs.filter λb=>decide (b.2.1=wd)).map λb=>(Tm.box b.1).D)++((bs.filter λb=>decide (b.2.1=wd)).map λb=>(Tm.late b.1).D)++((es.filter λb=>decide (b.2=wd)).map λb=>(Tm.door b.1).D)++[D.tup [D.str "num",D.int wd,D.int (n / 7*6364136223846793005%(1*2^wd.toNat))]])=L at all ⊢;have len:((bs.filter λb=>decide (b.2.1=wd)).map λb=>(Tm.box b.1).D).length+((bs.filter λb=>decide (b.2.1=wd)).map λb=>(Tm.late b.1).D).length+((es.filter λb=>decide (b.2=wd)).map λb=>(Tm.door b.1).D).length+1=L.length:=by rw[<- hL];simp only[Aq,ES]
 rw[len];have lp:0<L.length:=by ext
 obtain⟨d,hd,md⟩:=aA (xs:=L) (i:=n%(L.length:Int)) (Ce _ (by ext)) (BL _ (by ext));rw[hd,BR];obtain⟨t,ht,rfl⟩:=all d md;exact QC (Sub.put hp) (q t ht)
noncomputable def pN:Nat->Nat
 |0=>1
 |n+1=>2*pN n+2
theorem iq (n:Nat):1<=pN n:=by cases n<;>simp[pN]
theorem iM {x w:Int}(h1:Wd bs es t x)(hk:u.kids=[t])(h:u.over [x]=some w):Wd bs es u w:=by
 refine .over (λi k a hk2 ha=>?_) h;rw[hk]at hk2
 match i with
 |0=>cases hk2;cases ha;exact h1
 |i+1=>cases hk2
theorem jq {x y w:Int}(h1:Wd bs es t x)(h2:Wd bs es u y)(h:(Tm.bin o t u).over [x,y]=some w):Wd bs es (.bin o t u) w:=by
 refine .over (λi k a hk ha=>?_) h
 match i with
 |0=>cases hk;cases ha;exact h1
 |1=>cases hk;cases ha;exact h2
 |i+2=>cases hk
theorem vd {w:Int}(h0:Wd bs es c 1)(h1:Wd bs es t w)(h2:Wd bs es u w):Wd bs es (.pick c t u) w:=by
 refine .over (ws:=[1,w,w]) (λi k a hk ha=>?_) (by simp[Tm.over])
 match i with
 |0=>cases hk;cases ha;exact h0
 |1=>cases hk;cases ha;exact h1
 |2=>cases hk;cases ha;exact h2
 |i+3=>cases hk
structure PL (bs:List (Str×Int×Int))(es:List (Str×Int))(w:Int)(n:Nat)(t:Tm):Prop where
 w:Wd (Px bs) es t w
 d:t.deep<=n+1
 p:t.parts<=pN n
abbrev YC (n:Nat)(ds:List D)(M:Mp)(Q:El):Prop:=XO ds λx1 x2 x3 x4 x5=>EW x1 λm=>EW x2 λwd=>x3=.int n/\n<=2/\∃(bs:List (Str×Int×Int)) (es:List (Str×Int)),x4=.lst (bs.map E2)/\x5=.lst (es.map G1)/\Sp bs es/\bs≠[]/\(1<=wd/\wd<=64)/\0<=m/\∀t,PL bs es wd n t->Q t.D M
theorem Sk.tm {w:Int}(h:Sk bs es w t)(n:Nat):PL bs es w n t:=⟨h.1,by rw[h.2.1];ext,by rw[h.2.2];cases n<;>simp[pN]⟩
theorem vP {n:Nat}{sq:DO}(G__law_term:Ok P w K mg base (n+1) T.x81.f T.x81.g ["number", "want", "deep", "boxes", "doors"] sq)(hq:∀m,n=m+1->sq=YC m):Od T T.x81 (n+2) (YC n):=by
 refine CI.p5 T.x81.d.F ["number", "want", "deep", "boxes", "doors", "kind", "rest", "base", "one", "two", "test", "low", "high", "wider", "row", "width", "word"] λx1 x2 x3 x4 x5 M Q hr nN h1=>?_;obtain⟨m,rfl,h2⟩:=CU h1;obtain⟨wd,e1',e2',n2,bs,es,e3',e4',sp,ne,⟨w1,w64⟩,m0,q⟩:_:=CU h2;refine⟨_,(qC (Cw 5 nN (BC G3 (qv 0) Aj)) (qC (Cw 6 nN (BC KD (qv 0) Aj)) (qC (Ez (AX CO (qv 2) Aj) (qO (CC (Ay T.x80.d (bM T) nofun (qA (qv 0) (qA (qv 1) (qA (qv 3) (qA (qv 4) qN))))))) qE) (qC (Ez (AX La (qv 5) Aj) (qO (CC (Ay T.x80.d (bM T) nofun (qA (qv 6) (qA (qv 1) (qA (qv 3) (qA (qv 4) qN))))))) qE) (qC (Cw 7 nN (Be Hr (HA (Yc (.int (.int (.int .nil))))) (qv 2))) (qC (Cw 8 nN (BC G3 (qv 6) (qv 7))) (EO (Cw 9 nN (BC KD (qv 6) (qv 7))) (qC (Ez (AX CO (qv 5) Aj) (qO (CC (CB (qA BQ (qA (Ay T.x81.d G__law_term nofun (qA (qv 6) (qA (qv 1) (qA (BC ML (qv 2) Aj) (qA (qv 3) (qA (qv 4) qN)))))) qN))))) qE) (qC (Ez (AX CO (qv 5) Aj) (qC (Cw 10 nN (Ay T.x81.d G__law_term nofun (qA (qv 8) (qA Aj (qA (BC ML (qv 2) Aj) (qA (qv 3) (qA (qv 4) qN))))))) (qO (CC (CB (qA BQ (qA (qv 10) (qA (Ay T.x80.d (bM T) nofun (qA (qv 9) (qA (qv 1) (qA (qv 3) (qA (qv 4) qN))))) (qA (Ay T.x80.d (bM T) nofun (qA (BC KD (qv 9) Aj) (qA (qv 1) (qA (qv 3) (qA (qv 4) qN))))) qN)))))))) qE) (EO (Ez ((VE (AX CO (qv 5) Aj) (VS (AX Lb (qv 1) Aj)))).pt (qC (Cw 11 nN (BC Hl Aj (BC G3 (qv 6) (BC ML (qv 1) Aj)))) (qC (Cw 12 nN (Ay T.x81.d G__law_term nofun (qA (qv 8) (qA (BC ML (qv 1) (qv 11)) (qA (BC ML (qv 2) Aj) (qA (qv 3) (qA (qv 4) qN))))))) (qO (CC (CB (qA BQ (qA (qv 12) (qA (Ay T.x81.d G__law_term nofun (qA (qv 9) (qA (qv 11) (qA (BC ML (qv 2) Aj) (qA (qv 3) (qA (qv 4) qN)))))) qN)))))))) qE) (EO (kA (caps:=[("want",1)]) (i:=13) nN rfl rfl ⟨rfl,by rfl,by rfl,by rfl,rfl,by rfl,by nofun⟩ rfl (JP (qv 3)) (λ_ _ _ _ _ _=>(qv 0)) (λ_ _ _ _ _ _=>(AX XS (Be BA (qv 0) Aj) (qv 1)))) (EO (Ez ((VE (AX CO (qv 5) Aj) (VS (AX (VC (Jz hr)) (qv 13) (HA qN))))).pt (qC (Cw 14 nN (Be Hr (qv 13) (BC G3 (qv 8) (Cp LU T.B.len CG (qA (qv 13) qN))))) (qO (CC (CB (qA BQ (qA (CB (qA (Be Hr (HA (qA BQ (qA BQ qN))) (BC G3 (qv 6) Aj)) (qA (Be BA (qv 14) Aj) qN))) (qA (BC G3 (qv 9) (BC Hl (BC ML (Be BA (qv 14) Aj) (qv 1)) Aj)) (qA (qv 1) qN)))))))) qE) (EO (Ez ((VE (AX OX (qv 5) (CB (qA Aj (qA Aj qN))) (by with_unfolding_all rfl)) (VS (AX CO (qv 1) Aj)))).pt (qC (Cw 15 nN (Be BA (Be Hr (qv 3) (BC G3 (qv 6) (Cp LU T.B.len CG (qA (qv 3) qN)))) Aj)) (qC (Cw 12 nN (Ay T.x81.d G__law_term nofun (qA (qv 8) (qA (qv 15) (qA (BC ML (qv 2) Aj) (qA (qv 3) (qA (qv 4) qN))))))) (qO (CC (CB (qA (Be Hr (HA (qA BQ (qA BQ qN))) (BC ML (qv 5) Aj)) (qA (qv 12) (qA (Ay T.x81.d G__law_term nofun (qA (qv 9) (qA (qv 15) (qA (BC ML (qv 2) Aj) (qA (qv 3) (qA (qv 4) qN)))))) qN)))))))) qE) (qC (Cw 16 nN (Be Hr (HA (Yc (.str (.str (.str (.str (.str .nil))))))) (BC G3 (qv 6) Aj))) (qC (Cw 12 nN (Ay T.x81.d G__law_term nofun (qA (qv 8) (qA (qv 1) (qA (BC ML (qv 2) Aj) (qA (qv 3) (qA (qv 4) qN))))))) (qO (CC (CB (qA (qv 16) (qA (qv 12) (qA (Ay T.x81.d G__law_term nofun (qA (qv 9) (qA (qv 1) (qA (BC ML (qv 2) Aj) (qA (qv 3) (qA (qv 4) qN)))))) qN))))))))))))))))))))),?_⟩;cases n with
 |zero=>right;exact⟨⟨by decide,by decide⟩,bs,es,rfl,rfl,sp,⟨w1,w64⟩,m0,λt ht=>Dn.of (q t (ht.tm _))⟩
 |succ n=>
 cases hq n rfl;right;have R0:0<=m / 12:=by ext
 refine⟨⟨by decide,by decide⟩,Cz (λc=>absurd c (by ext)) λ_=>Cz (λc=>⟨bs,es,rfl,rfl,sp,⟨w1,w64⟩,R0,λt ht=>Dn.of (q t (ht.tm _))⟩) λc3=>?_⟩
 obtain⟨bv,hbv,b0,b1⟩:∃bv,FG [D.int 1,D.int 31,D.int 9973] ((n+1:Nat):Int)=some (.int bv)/\0<bv/\bv<1073741824:=by
  rcases(by omega:n=0\/n=1)with rfl|rfl
  .exact⟨31,rfl,by decide,by decide⟩
  .exact⟨9973,rfl,by decide,by decide⟩
 rw[hbv,BR];grind;refine⟨b0,?_⟩;obtain⟨kd,hkd⟩:∃kd,kd=m%12:=⟨_,rfl⟩;obtain⟨rs,hrs⟩:∃rs,rs=m / 12:=⟨_,rfl⟩;obtain⟨on,hon⟩:∃on,on=m / 12%bv:=⟨_,rfl⟩;have on0:0<=on:=by rw[hon];exact Ce _ (by ext)
 rw[<- hkd,<- hon,<- hrs];rw[<- hrs]at R0;have k12:3<=kd/\kd<12:=by ext
 refine⟨λτ M'=>M'=M/\∃tw,0<=tw/\τ=[some (.int m),some (.int wd),some (.int ((n+1:Nat):Int)),some (.lst (bs.map E2)),some (.lst (es.map G1)),some (.int kd),some (.int rs),some (.int bv),some (.int on),some (.int tw),none,none,none,none,none,none,none],?_,?_⟩
 .grind;exact⟨⟨b0,b1⟩,_,Sw R0 (by ext),rfl⟩
 intro τ M';ext1⟨e1',tw,tw0,e2'⟩;grind;have en:D.int (((n+1:Nat):Int)-1)=D.int (n:Int):=by congr 1;ext
 have nn:n<=2:=by ext
 have lkb:∀b∈bs,(Px bs).lookup b.1=some b.2.1:=λb hb=>Yz (ws:=Px bs) (p:=(b.1,b.2.1)) (by unfold Px;rw[Bv];exact sp.nb) (An.mpr ⟨b,hb,rfl⟩);have pp:=iq n;have bin:∀{o:Gd} {t u:Tm} {x y:Int},PL bs es x n t->PL bs es y n u->(Tm.bin o t u).over [x,y]=some wd->PL bs es wd (n+1) (.bin o t u):=λ{o t u x y} h1 h2 h=>⟨jq h1.w h2.w h,by have:=h1.d;have:=h2.d;simp only[Tm.deep];ext,by have:=h1.p;have:=h2.p;simp only[Tm.parts,pN];ext⟩;refine Cz (λc=>⟨en,nn,bs,es,rfl,rfl,sp,ne,⟨w1,w64⟩,R0,λt ht=>Dn.of (q (.not t) ⟨iM ht.w rfl rfl,by have:=ht.d;simp only[Tm.deep];ext,by have:=ht.p;simp only[Tm.parts,pN];ext⟩)⟩) λc3'=>Cz (λc=>⟨en,nn,bs,es,rfl,rfl,sp,ne,on0,λt ht=>⟨bs,es,rfl,rfl,sp,⟨w1,w64⟩,tw0,λt1 h1=>⟨⟨by decide,by decide⟩,bs,es,rfl,rfl,sp,⟨w1,w64⟩,by ext,λt2 h2=>Dn.of (q (.pick t t1 t2) ⟨vd ht.w h1.1 h2.1,by have:=ht.d;have:=h1.2.1;have:=h2.2.1;simp only[Tm.deep];ext,by have:=ht.p;have:=h1.2.2;have:=h2.2.2;simp only[Tm.parts,pN];ext⟩)⟩⟩⟩) λc4=>?_;refine⟨λτ M2=>M2=M'/\τ=[some (.int m),some (.int wd),some (.int ((n+1:Nat):Int)),some (.lst (bs.map E2)),some (.lst (es.map G1)),some (.int kd),some (.int rs),some (.int bv),some (.int on),some (.int tw),none,none,none,none,none,none,none],?_,?_⟩
 .grind;refine Cz (λ_=>Cz (λc=>?_) λ_=>trivial) λ_=>trivial;have r0:=Ce rs (by omega:wd-1≠0);have r1:=BL rs (by omega:0<wd-1);refine⟨by ext,en,nn,bs,es,rfl,rfl,sp,ne,⟨by ext,by ext⟩,on0,λt ht=>⟨en,nn,bs,es,rfl,rfl,sp,ne,⟨by ext,by ext⟩,tw0,λt1 h1=>Dn.of (q (.bin .join t t1) (bin ht h1 ?_))⟩⟩;simp only[Tm.over,XY,XX,XW,rK,rL,rM];rw[if_pos (by ext)];congr 1
  ext
 rintro τ M2 ⟨rfl,rfl⟩;refine⟨λτ M'=>M'=M2/\τ=[some (.int m),some (.int wd),some (.int ((n+1:Nat):Int)),some (.lst (bs.map E2)),some (.lst (es.map G1)),some (.int kd),some (.int rs),some (.int bv),some (.int on),some (.int tw),none,none,none,some (.lst ((bs.filter λb=>decide (wd<=b.2.1)).map E2)),none,none,none],?_,?_⟩
 .grind;have lb:=sp.b.1;refine EL.filt (ks:=bs) (g:=E2) (f:=E2) (pr:=λb=>decide (wd<=b.2.1)) (GD (by ext)) trivial (λd hd R r=>?_) (λd hd R r=>?_) ?_
  .simp only[E2];walk_at "cap";exact r
  .walk_at "cap";exact r
  exact⟨rfl,rfl⟩
 rintro τ M3 ⟨rfl,rfl⟩;refine⟨λτ M'=>M'=M3/\τ=[some (.int m),some (.int wd),some (.int ((n+1:Nat):Int)),some (.lst (bs.map E2)),some (.lst (es.map G1)),some (.int kd),some (.int rs),some (.int bv),some (.int on),some (.int tw),none,none,none,some (.lst ((bs.filter λb=>decide (wd<=b.2.1)).map E2)),none,none,none],?_,?_⟩
 .grind;refine Cz (λ_=>Cz (λc=>?_) λ_=>trivial) λ_=>trivial;have fne:bs.filter (λb=>decide (wd<=b.2.1))≠[]:=λe=>by rw[e]at c;cases c
  have fp:=OQ.mpr fne;refine⟨by ext,?_⟩;obtain⟨d,hd,md⟩:=aA (xs:=(bs.filter λb=>decide (wd<=b.2.1)).map E2) (i:=on%((bs.filter λb=>decide (wd<=b.2.1)).length:Int)) (Ce _ (by ext)) (by rw[Ab];exact BL _ (by ext));rw[hd,BR];obtain⟨b,mb,rfl⟩:=An.mp md;obtain⟨mb,eb⟩:=Br.mp mb;have eb:=of_decide_eq_true eb;have lk:=lkb b mb;have p0:=Ce tw (by omega:b.2.1-wd+1≠0);have p1:=BL tw (by omega:0<b.2.1-wd+1);have big:4<=pN (n+1):=by simp only[pN];ext
  have ov:∀u,(Tm.part u (tw%(b.2.1-wd+1)) wd).over [b.2.1]=some wd:=λu=>by simp only[Tm.over,XY,XX,XW,rK,rL,rM];rw[if_pos (by ext)]
  rcases(by omega:rs%2=0\/rs%2=1)with h|h<;>rw[h]
  .rw[show FG [D.str "box",D.str "late"] (0:Int)=some (D.str "box")from rfl,BR];simp only[E2];grind;exact⟨by ext,Dn.of (q (.part (.box b.1) (tw%(b.2.1-wd+1)) wd) ⟨iM (.box lk) rfl (ov _),by simp only[Tm.deep];ext,by simp only[Tm.parts];ext⟩)⟩
  .rw[show FG [D.str "box",D.str "late"] (1:Int)=some (D.str "late")from rfl,BR];simp only[E2];grind;exact⟨by ext,Dn.of (q (.part (.late b.1) (tw%(b.2.1-wd+1)) wd) ⟨iM (.late lk) rfl (ov _),by simp only[Tm.deep];ext,by simp only[Tm.parts];ext⟩)⟩
 rintro τ M4 ⟨rfl,rfl⟩;refine⟨λτ M'=>M'=M4/\τ=[some (.int m),some (.int wd),some (.int ((n+1:Nat):Int)),some (.lst (bs.map E2)),some (.lst (es.map G1)),some (.int kd),some (.int rs),some (.int bv),some (.int on),some (.int tw),none,none,none,some (.lst ((bs.filter λb=>decide (wd<=b.2.1)).map E2)),none,none,none],?_,?_⟩
 .grind;refine Cz (λc78=>Cz (λc1=>?_) λ_=>trivial) λ_=>trivial;have bp:=OQ.mpr ne;refine⟨by ext,?_⟩;obtain⟨d,hd,md⟩:=aA (xs:=bs.map E2) (i:=rs%(bs.length:Int)) (Ce _ (by ext)) (by rw[Ab];exact BL _ (by ext));rw[hd,BR];obtain⟨b,mb,rfl⟩:=An.mp md;obtain⟨_,b1,b64⟩:=sp.b.2 b mb;simp only[E2];grind;refine⟨en,nn,bs,es,rfl,rfl,sp,ne,⟨b1,b64⟩,on0,λt ht=>?_⟩;rcases c78 with h|h
  .rw[show kd-7=0 by ext,show FG [D.str "less",D.str "same"] (0:Int)=some (D.str "less")from rfl,BR];exact⟨en,nn,bs,es,rfl,rfl,sp,ne,⟨b1,b64⟩,tw0,λt1 h1=>Dn.of (q (.bin .less t t1) (bin ht h1 (by simp[Tm.over,c1])))⟩
  .rw[show kd-7=1 by ext,show FG [D.str "less",D.str "same"] (1:Int)=some (D.str "same")from rfl,BR];exact⟨en,nn,bs,es,rfl,rfl,sp,ne,⟨b1,b64⟩,tw0,λt1 h1=>Dn.of (q (.bin .same t t1) (bin ht h1 (by simp[Tm.over,c1])))⟩
 rintro τ M5 ⟨rfl,rfl⟩;grind
 obtain⟨o,ho,oj⟩:∃o,FG [D.str "and",D.str "or",D.str "xor",D.str "plus",D.str "minus"] (rs%5)=some (.str o.nm)/\∀t u,(Tm.bin o t u).over [wd,wd]=some wd:=by
  rcases(by omega:rs%5=0\/rs%5=1\/rs%5=2\/rs%5=3\/rs%5=4)with h|h|h|h|h<;>rw[h]
  .exact⟨.and,rfl,λt u=>by simp[Tm.over]⟩
  .exact⟨.or,rfl,λt u=>by simp[Tm.over]⟩
  .exact⟨.xor,rfl,λt u=>by simp[Tm.over]⟩
  .exact⟨.plus,rfl,λt u=>by simp[Tm.over]⟩
  .exact⟨.minus,rfl,λt u=>by simp[Tm.over]⟩
 rw[ho,BR];exact⟨en,nn,bs,es,rfl,rfl,sp,ne,⟨w1,w64⟩,on0,λt ht=>⟨en,nn,bs,es,rfl,rfl,sp,ne,⟨w1,w64⟩,tw0,λt1 h1=>Dn.of (q (.bin o t t1) (bin ht h1 (oj t t1)))⟩⟩
theorem kQ (T:Tv P w K mg base):∀n,Od T T.x81 (n+2) (YC n)
 |0=>vP T (V0 λ_ _ _ h=>h) λm h=>by cases h
 |n+1=>vP T (kQ T n) λm h=>by cases h;rfl
theorem ZZ {j:Nat}{t:Ht}{E:JQ}{τ:Gu}{M:Mp}{p:Av}{xs:List D}(h:τ[j]? = some (some (.ref p)))(hM:M p=some (.lst xs)):Qa j t E τ M=t E (τ.set j (some (.lst xs))) (JA M p):=by
 unfold Qa;rw[h,Pb,BR,QB,hM]
structure bZ (bs:List (Str×Int×Int))(es:List (Str×Int))(k:Nat)(wr:List (Str×Tm)):Prop where
 s:List.Sublist (wr.map (·.1)) ((bs.take k).map (·.1))
 t:∀u∈wr,∃b∈bs,u.1=b.1/\PL bs es b.2.1 2 u.2
abbrev Zed:DO:=λds M Q=>Je ds λx1 x2 x3=>EW x1 λm=>∃(bs:List (Str×Int×Int)) (es:List (Str×Int)),x2=.lst (bs.map E2)/\x3=.lst (es.map G1)/\Sp bs es/\bs≠[]/\0<=m/\∀wr:List (Str×Tm),wr.length<=bs.length->(wr.map (·.1)).Nodup->(∀u∈wr,∃b∈bs,u.1=b.1/\PL bs es b.2.1 2 u.2)->Q (.lst (wr.map Kk)) M
theorem Zeo:Od T T.x82 5 Zed:=by
 refine CI.p3 T.x82.d.F ["number", "boxes", "doors", "which", "last_first", "writes", "row"] λx1 x2 x3 M Q hr nN h1=>?_;obtain⟨m,e1',bs,es,e2',e3',sp,ne,m0,q⟩:_:=CU h1;refine⟨_,(qC (Cw 3 nN (BC G3 (qv 0) Aj)) (qC (Cw 4 nN (BC G3 (BC KD (qv 0) Aj) Aj)) (qC (Cw 0 nN (BC KD (qv 0) Aj)) (EO (Cw 5 nN (Jv qN)) (EO (KG AK rfl (JP (qv 1)) (MM (i:=6) nN rfl (BX rfl)) (EO (Ez (AX CO (BC G3 (qv 3) Aj) Aj) (qO (E3 (JX AN Bi Bh QJ (qv 5) (qA (CB (qA (Be BA (qv 6) Aj) (qA (Ay T.x81.d (kQ T 2) nofun (qA (BC G3 (qv 0) (BC Sb Aj Aj)) (qA (Be BA (qv 6) Aj) (qA Aj (qA (qv 1) (qA (qv 2) qN)))))) qN))) qN)))) qE) (qC (Cw 3 nN (BC KD (qv 3) Aj)) (qO (Cw 0 nN (BC KD (qv 0) (BC Sb Aj Aj))))))) (EO (Ez (AX CO (qv 4) Aj) (qO (E3 (T7 AN PySem.F.slot_list_reverse PySem.F.type_list_reverse vx (qv 5)))) qE) (VR 5 (qO (CC (qv 5)))))))))),?_⟩;right;have lb:=sp.b.1;refine⟨⟨by decide,by decide⟩,⟨by decide,by decide⟩,?_⟩;refine⟨λτ M'=>∃p,M p=none/\M'=put M p (.lst [])/\τ=[some (.int (m / 16)),some (.lst (bs.map E2)),some (.lst (es.map G1)),some (.int (m%8)),some (.int (m / 8%2)),some (.ref p),none],?_,?_⟩
 .grind;exact λp hp=>⟨p,hp,rfl,rfl⟩
 intro τ M1;ext1⟨p,hp,e1',e2'⟩;refine⟨λτ M'=>∃(wr:List (Str×Tm)) (v0 v3 v6:Option D),M'=put M p (.lst (wr.map Kk))/\τ=[v0,some (.lst (bs.map E2)),some (.lst (es.map G1)),v3,some (.int (m / 8%2)),some (.ref p),v6]/\bZ bs es bs.length wr,?_,?_⟩
 .grind;refine⟨λk τ M'=>∃(wr:List (Str×Tm)) (m' w':Int) (v6:Option D),M'=put M p (.lst (wr.map Kk))/\τ=[some (.int m'),some (.lst (bs.map E2)),some (.lst (es.map G1)),some (.int w'),some (.int (m / 8%2)),some (.ref p),v6]/\0<=m'/\bZ bs es k wr,⟨[],m / 16,m%8,none,rfl,rfl,by ext,⟨by simp,λu hu=>nomatch hu⟩⟩,λ_ _ _ _=>trivial,?_,?_⟩
  .intro k d τ M' hd;ext1⟨wr,m',w',v6,e1',e2',m0',ws⟩;obtain⟨b,hb,rfl⟩:=LW hd;have mb:=Aw hb;obtain⟨_,b1,b64⟩:=sp.b.2 b mb;have hk:=(Ah.mp hb).1;have et:(bs.take (k+1)).map (·.1)=(bs.take k).map (·.1)++[b.1]:=by rw[A8,hb,AI];rfl
   have lw:wr.length<=k:=by
    have:=ws.s.length_le;rw[Ab,Ab,AY]at this;ext
   have keep:bZ bs es (k+1) wr:=⟨by rw[et];exact ws.s.trans (List.sublist_append_left ..),ws.t⟩;refine⟨λτ M''=>∃wr':List (Str×Tm),M''=put M p (.lst (wr'.map Kk))/\τ=[some (.int m'),some (.lst (bs.map E2)),some (.lst (es.map G1)),some (.int w'),some (.int (m / 8%2)),some (.ref p),some (E2 b)]/\bZ bs es (k+1) wr',?_,?_⟩
   .simp only[E2];grind;refine Cz (λc=>?_) λc=>⟨wr,rfl,keep⟩;refine⟨⟨by decide,by decide,by decide⟩,bs,es,rfl,rfl,sp,ne,⟨b1,b64⟩,by ext,λt ht=>⟨BU (by ext),wr++[(b.1,t)],by rw[AI];rfl,⟨?_,λu hu=>?_⟩⟩⟩
    .rw[et,AI];exact ws.s.append (Zg _)
    .rcases AT.mp hu with hu|hu
     .exact ws.t u hu
     .rw[AL.mp hu];exact⟨b,mb,rfl,ht⟩
   .intro τ M'';ext1⟨wr',e1',e2',ws'⟩;grind;exact⟨⟨by decide,by decide⟩,⟨by decide,by decide,by decide⟩,⟨by decide,by decide⟩,wr',_,_,_,rfl,rfl,by ext,ws'⟩
  .intro τ M';ext1⟨wr,m',w',v6,e1',e2',m0',ws⟩;rw[Ab]at ws;exact⟨wr,_,_,v6,rfl,rfl,ws⟩
 intro τ M2;ext1⟨wr,v0,v3,v6,e1',e2',ws⟩;have sub:=ws.s;rw[Bc]at sub;have nd:=Gi sub sp.nb
 have lw:wr.length<=bs.length:=by
  have:=sub.length_le;rw[Ab,Ab]at this;exact this
 refine⟨λτ M'=>∃(wr':List (Str×Tm)),M'=put M p (.lst (wr'.map Kk))/\τ=[v0,some (.lst (bs.map E2)),some (.lst (es.map G1)),v3,some (.int (m / 8%2)),some (.ref p),v6]/\(wr'=wr\/wr'=wr.reverse),?_,?_⟩
 .grind;refine Cz (λc=>?_) λc=>⟨wr,rfl,.inl rfl⟩;unfold Xj;rw[QB];refine⟨rfl,?_⟩;rw[C8];exact⟨wr.reverse,by rw[QH,Q3],.inr rfl⟩
 intro τ M3;ext1⟨wr',e1',e2',hw⟩;rw[ZZ rfl C8,Ti hp];simp only[B5,CD];grind;rcases hw with rfl|rfl
 .exact Dn.of (q _ lw nd ws.t)
 .refine Dn.of (q _ (by rw[OP];exact lw) ?_ λu hu=>ws.t u (QY.mp hu));rw[Q3];exact List.pairwise_reverse.mpr (nd.imp λh e=>h e.symm)
theorem PL.two (h:PL bs es wd n t)(hn:n<=2):PL bs es wd 2 t:=by
 have h1:=h.d;have h2:=h.p;rcases(by omega:n=0\/n=1\/n=2)with rfl|rfl|rfl
 .exact⟨h.w,by ext,AZ h2 (by decide)⟩
 .exact⟨h.w,by ext,AZ h2 (by decide)⟩
 .exact h
abbrev sX:DO:=λds M Q=>XO ds λx1 x2 x3 x4 x5=>EW x1 λm=>EW x2 λwd=>∃n:Nat,x3=.int n/\n<=2/\∃(bs:List (Str×Int×Int)) (es:List (Str×Int)),x4=.lst (bs.map E2)/\x5=.lst (es.map G1)/\Sp bs es/\bs≠[]/\(1<=wd/\wd<=64)/\0<=m/\∀t,PL bs es wd 2 t->Q t.D M
theorem ug:Od T T.x81 4 sX:=by
 have key:∀ds M Q,sX ds M Q->∃n,n<=2/\YC n ds M Q:=λds M Q h=>by
  obtain⟨x1,x2,x3,x4,x5,e1',h1⟩:_:=Ub h;obtain⟨m,rfl,h2⟩:=CU h1;obtain⟨wd,e1',n,e2',n2,bs,es,h3,h4,h5,h6,h7,h8,q⟩:_:=CU h2;exact⟨n,n2,rfl,n2,bs,es,h3,h4,h5,h6,h7,h8,λt ht=>q t (ht.two n2)⟩
 have F:∀n,n<=2->Od T T.x81 4 (YC n):=λn hn=>(kQ T n).mono (by ext);refine⟨λvs H Q E ⟨Z,ds,M,Q2,hr,a,h,k⟩=>?_,λA outer s H args us vs Q E e1 e2 e3 e4 ⟨Z,ds,M,Q2,hr,a,h,k⟩=>?_⟩
 .obtain⟨n,hn,h⟩:=key ds M Q2 h;exact(F n hn).len vs H Q E ⟨Z,ds,M,Q2,hr,a,h,k⟩
 .obtain⟨n,hn,h⟩:=key ds M Q2 h;exact(F n hn).run A outer s H args us vs Q E e1 e2 e3 e4 ⟨Z,ds,M,Q2,hr,a,h,k⟩
structure WkX (wk:Wk):Prop where
 ok:wk.Ok
 nb:1<=wk.bs.length/\wk.bs.length<=3
 nd:wk.ds.length<=2
def lX (ms:List Int)(nm:Int)(bs:List (Str×Int×Int)):Prop:=∀(i:Nat) b m,bs[i]? = some b->ms[i]? = some m->KO nm i b.1/\(1<=b.2.1/\b.2.1<=m/\m<=64)/\0<=b.2.2/\b.2.2<2^b.2.1.toNat
def lV (ms:List Int)(nm:Int)(es:List (Str×Int)):Prop:=∀(i:Nat) d m,es[i]? = some d->ms[3+i]? = some m->KO nm (3+i) d.1/\1<=d.2/\d.2<=m/\m<=64
noncomputable def Ga (r:Str×Tm×List (Str×Tm)):D:=.tup [.str r.1,r.2.1.D,.lst (r.2.2.map Kk)]
abbrev Zee:DO:=λds M Q=>Ua ds λx1 x2 x3 x4=>∃(ns ms:List Int),x1=.lst (ns.map D.int)/\x2=.tup (ms.map D.int)/\(∃md:Int,x3=.int md/\0<=md/\md<=2)/\x4=.int 4/\(ms.length=5/\∀m∈ms,1<=m/\m<=64)/\∀wk,WkX wk->Q (.tup [.lst (wk.bs.map E2),.lst (wk.ds.map G1),.lst (wk.rs.map Ga)]) M
def xF (bs:List (Str×Int×Int))(es:List (Str×Int))(nm:Int)(rs:List (Str×Tm×List (Str×Tm))):Prop:=∀(i:Nat) r,rs[i]? = some r->KO nm (5+i) r.1/\QM (Px bs) es r.2.1 r.2.2
theorem gZ {α:Type}{nm:Int}(f:α->Str)(c:Nat){xs:List α}(hl:c+xs.length<=9)(h:∀(i:Nat) x,xs[i]? = some x->KO nm ((c+i:Nat):Int) (f x)):(xs.map f).Nodup:=by
 unfold Et;rw[List.pairwise_iff_getElem];intro i j hi hj hij e;rw[Ab]at hi hj;have g1:=h i _ (Af hi);have g2:=h j _ (Af hj);rw[Jp,Jp]at e;rw[<- e]at g2;have:=KO.inj g1 g2 (by ext) (by ext);ext
theorem Sp.take {bs:List (Str×Int×Int)}{es:List (Str×Int)}(h:Sp bs es)(i j:Nat):Sp (bs.take i) (es.take j):=by
 refine⟨⟨by rw[AY];have:=h.b.1;ext,λb hb=>h.b.2 b (Gh hb)⟩,⟨by rw[AY];have:=h.d.1;ext,λb hb=>h.d.2 b (Gh hb)⟩,?_,?_⟩
 .exact Gi ((Gv i bs).map _) h.nb
 .exact Gi ((Gv j es).map _) h.nd
theorem dm {ms:List Int}{nm:Int}{bs:List (Str×Int×Int)}{es:List (Str×Int)}(m5:ms.length=5)(hb:lX ms nm bs)(he:lV ms nm es)(b3:bs.length<=3)(e2:es.length<=2):Sp bs es:=by
 have gb:∀(i:Nat) b,bs[i]? = some b->∃m,ms[i]? = some m:=λi b h=>⟨_,Af (by have:=(Ah.mp h).1;ext)⟩;have ge:∀(i:Nat) b,es[i]? = some b->∃m,ms[3+i]? = some m:=λi b h=>⟨_,Af (by have:=(Ah.mp h).1;ext)⟩;refine⟨⟨by ext,λb mb=>?_⟩,⟨by ext,λd md=>?_⟩,gZ (α:=Str×Int×Int) (nm:=nm) (·.1) 0 (by ext) λi x hx=>?_,gZ (α:=Str×Int) (nm:=nm) (·.1) 3 (by ext) λi x hx=>?_⟩
 .obtain⟨i,hi⟩:=Bm.mp mb;obtain⟨m,hm⟩:=gb i b hi;obtain⟨h1,h2,_⟩:=hb i b m hi hm;exact⟨h1.ok,by ext,by ext⟩
 .obtain⟨i,hi⟩:=Bm.mp md;obtain⟨m,hm⟩:=ge i d hi;obtain⟨h1,h2,h3,h4⟩:=he i d m hi hm;exact⟨h1.ok,by ext,by ext⟩
 .obtain⟨m,hm⟩:=gb i x hx;have:=(hb i x m hx hm).1;rw[EI];exact this
 .obtain⟨m,hm⟩:=ge i x hx;have:=(he i x m hx hm).1;rw[show((3+i:Nat):Int)=3+(i:Int) by ext];exact this
theorem Wd.mono2 {bs bs' es es':List (Str×Int)}{t:Tm}{n:Int}(hb:∀z n,bs.lookup z=some n->bs'.lookup z=some n)(he:∀z n,es.lookup z=some n->es'.lookup z=some n)(h:Wd bs es t n):Wd bs' es' t n:=by
 induction h with
 |num a=>exact .num a
 |box a=>exact .box (hb _ _ a)
 |late a=>exact .late (hb _ _ a)
 |door a=>exact .door (he _ _ a)
 |over _ ho ih=>exact .over ih ho
theorem jA:∀k (ws:List (Str×Int)) (z:Str) (n:Int),(ws.take k).lookup z=some n->ws.lookup z=some n
 |0,_,_,_,h=>by rw[Ls]at h;cases h
 |k+1,[],_,_,h=>by cases h
 |k+1,(y,a)::ws,z,n,h=>by
  rw[OO,BG]at h;rw[BG];cases e:z == y with
  |true=>rw[e]at h;exact h
  |false=>rw[e]at h;exact jA k ws z n h
theorem Zep:Od T T.x83 6 Zee:=by
 refine CI.p4 T.x83.d.F ["script", "mods", "most_doors", "most_rules", "head", "sizes", "firsts", "naming", "boxes", "k", "width", "doors", "rules", "many", "number", "guard", "writes"] λx1 x2 x3 x4 M Q hr nN h=>?_;obtain⟨ns,ms,e1',e2',⟨md,e3',md0,md2⟩,e4',⟨m5,hms⟩,q⟩:_:=h;refine⟨_,(qC (Cw 4 nN (BC G3 (Ay T.x77.d (UK T) nofun (qA (qv 0) (qA Aj qN))) (BC Sb Aj Aj))) (qC (Cw 5 nN (BC G3 (Ay T.x77.d (UK T) nofun (qA (qv 0) (qA Aj qN))) (BC Sb Aj Aj))) (qC (Cw 6 nN (BC G3 (Ay T.x77.d (UK T) nofun (qA (qv 0) (qA Aj qN))) (BC Sb Aj Aj))) (EO (Cw 7 nN (BC G3 (Ay T.x77.d (UK T) nofun (qA (qv 0) (qA Aj qN))) (BC Sb Aj Aj))) (qC (Cw 8 nN (Jv qN)) (EO (KG AK rfl (bB T.B.range (qA (BC Hl Aj (BC G3 (qv 4) Aj)) qN)) (MM (i:=9) nN rfl (BX rfl)) (qC (Cw 10 nN (BC Hl Aj (BC G3 (qv 5) (Be BA (qv 1) (qv 9))))) (qC (E3 (JX AN Bi Bh QJ (qv 8) (qA (CB (qA (Ay T.x79.d (lF T) nofun (qA (qv 7) (qA (qv 9) qN))) (qA (qv 10) (qA (BC G3 (qv 6) (BC VD Aj (qv 10))) qN)))) qN))) (qC (Cw 5 nN (BC KD (qv 5) Aj)) (qO (Cw 6 nN (BC KD (qv 6) Aj))))))) (VR 8 (qC (Cw 11 nN (Jv qN)) (EO (KG AK rfl (bB T.B.range (qA (BC G3 (BC KD (qv 4) Aj) (BC Hl (qv 2) Aj)) qN)) (MM (i:=9) nN rfl (BX rfl)) (qC (E3 (JX AN Bi Bh QJ (qv 11) (qA (CB (qA (Ay T.x79.d (lF T) nofun (qA (qv 7) (qA (BC Hl Aj (qv 9)) qN))) (qA (BC Hl Aj (BC G3 (qv 5) (Be BA (qv 1) (BC Hl Aj (qv 9))))) qN))) qN))) (qO (Cw 5 nN (BC KD (qv 5) Aj))))) (VR 11 (qC (Cw 12 nN (Jv qN)) (EO (Cw 13 nN (BC Hl Aj (BC G3 (BC KD (qv 4) Aj) (qv 3)))) (EO (KG AK rfl (bB T.B.range (qA (qv 13) qN)) (MM (i:=9) nN rfl (BX rfl)) (EO (Cw 14 nN (BC G3 (Ay T.x77.d (UK T) nofun (qA (qv 0) (qA (BC Hl Aj (BC Uo Aj (qv 9))) qN))) (BC Sb Aj Aj))) (EO (Cw 15 nN (Ay T.x81.d (ug T) nofun (qA (qv 14) (qA Aj (qA (Be Hr (HA (Yc (.int (.int (.int (.int .nil)))))) (BC ML (qv 13) Aj)) (qA (IA Ym (qv 8) VP (Tg Aj)) (qA (IA Ym (qv 11) VP (Tg Aj)) qN))))))) (EO (Cw 16 nN (Ay T.x82.d (Zeo T) nofun (qA (BC G3 (Ay T.x77.d (UK T) nofun (qA (qv 0) (qA (BC Hl Aj (BC Uo Aj (qv 9))) qN))) (BC Sb Aj Aj)) (qA (qv 8) (qA (qv 11) qN))))) (qO (E3 (JX AN Bi Bh QJ (qv 12) (qA (CB (qA (Ay T.x79.d (lF T) nofun (qA (qv 7) (qA (BC Hl Aj (qv 9)) qN))) (qA (qv 15) (qA (qv 16) qN)))) qN)))))))) (VR 12 (qO (CC (CB (qA (qv 8) (qA (qv 11) (qA (qv 12) qN)))))))))))))))))))),?_⟩;right;intro z0;refine⟨⟨by decide,by decide,by decide⟩,λz1=>⟨⟨by decide,by decide,by decide⟩,λz2=>⟨⟨by decide,by decide,by decide⟩,?_⟩⟩⟩;obtain⟨hd,ehd,hd0⟩:∃hd:Int,hd=z0%1000000/\0<=hd:=⟨_,rfl,by ext⟩;obtain⟨sz,esz,sz0⟩:∃sz:Int,sz=z1%1000000000000/\0<=sz:=⟨_,rfl,by ext⟩;obtain⟨fr,efr,fr0⟩:∃fr:Int,fr=z2%10000000000000000000000000000000000000000/\0<=fr:=⟨_,rfl,by ext⟩;rw[<- ehd,<- esz,<- efr];refine⟨λτ M'=>M'=M/\∃nm:Int,(0<=nm/\nm<10^9)/\τ=[some (.lst (ns.map D.int)),some (.tup (ms.map D.int)),some (.int md),some (.int 4),some (.int hd),some (.int sz),some (.int fr),some (.int nm),none,none,none,none,none,none,none,none,none],?_,?_⟩
 .grind;exact λz=>⟨⟨by decide,by decide,by decide⟩,_,⟨by ext,by ext⟩,rfl⟩
 intro τ M1;ext1⟨e1',nm,nb,e2'⟩;grind;intro p hp;refine⟨λτ M'=>∃(bs:List (Str×Int×Int)) (sz fr:Int) (v9 v10:Option D),M'=put M1 p (.lst (bs.map E2))/\0<=sz/\(1<=bs.length/\bs.length<=3)/\lX ms nm bs/\τ=[some (.lst (ns.map D.int)),some (.tup (ms.map D.int)),some (.int md),some (.int 4),some (.int hd),some (.int sz),some (.int fr),some (.int nm),some (.ref p),v9,v10,none,none,none,none,none,none],?_,?_⟩
 .grind;refine⟨by ext,λk τ M'=>∃(bs:List (Str×Int×Int)) (sz fr:Int) (v9 v10:Option D),M'=put M1 p (.lst (bs.map E2))/\0<=sz/\0<=fr/\bs.length=k/\lX ms nm bs/\τ=[some (.lst (ns.map D.int)),some (.tup (ms.map D.int)),some (.int md),some (.int 4),some (.int hd),some (.int sz),some (.int fr),some (.int nm),some (.ref p),v9,v10,none,none,none,none,none,none],⟨[],sz,fr,none,none,rfl,sz0,fr0,rfl,(λi b m h=>by simp at h),rfl⟩,λ_ _ _ _=>trivial,?_,?_⟩
  .intro k d τ M' hd';ext1⟨bs,sz,fr,v9,v10,e1',sz0,fr0,hl,hb,e2'⟩;obtain⟨hk,rfl⟩:=Yl hd';have hk3:k<3:=by ext
   obtain⟨mk,hmk⟩:∃mk,ms[k]? = some mk:=⟨_,Af (by ext)⟩;obtain⟨mQ,mk64⟩:=hms mk (Aw hmk);grind;rw[Wy,OE (show(ms.map D.int)[k]? = some (.int mk) by rw[AH,hmk];rfl),BR];grind;have w0:=Ce sz (by omega:mk≠0);have w1:=BL sz (by omega:0<mk);have hp0:=SY (1+sz%mk).toNat
   refine⟨by ext,⟨nb.1,nb.2,by ext,by ext⟩,λz hz=>⟨⟨by ext,by ext,by decide⟩,by ext,BU (by ext),⟨by decide,by decide⟩,⟨by decide,by decide⟩,bs++[(z,1+sz%mk,fr%(1*2^(1+sz%mk).toNat))],_,_,_,_,by rw[AI];rfl,by ext,by ext,by rw[Aq,hl];rfl,λi b m hi hm=>?_,rfl⟩⟩;rcases JT i bs.length with h|h|h
   .rw[CZ h]at hi;exact hb i b m hi hm
   .subst h;rw[Cf (AJ _)]at hi;simp at hi;rw[<- hl]at hmk hz;rw[hmk]at hm;cases hm;rw[<- hi]
    exact ⟨hz,⟨by show 1<=1+sz%mk;ext,by show 1+sz%mk<=mk;ext,by ext⟩,Ce _ (by ext),by
     exact BL _ hp0⟩
   .rw[Bu (by simp;ext)]at hi;cases hi
  .intro τ M';ext1⟨bs,sz,fr,v9,v10,e1',sz0,fr0,hl,hb,e2'⟩;rw[VT]at hl;exact⟨bs,sz,fr,v9,v10,rfl,sz0,⟨by ext,by ext⟩,hb,rfl⟩
 intro τ M2;ext1⟨bs,sz,fr,v9,v10,e1',sz0,⟨b1,b3⟩,hb,e2'⟩;rw[ZZ rfl C8,Ti hp];simp only[B5,CD];grind;intro p hp;refine⟨λτ M'=>∃(es:List (Str×Int)) (sz:Int) (v9:Option D),M'=put M1 p (.lst (es.map G1))/\es.length<=2/\lV ms nm es/\τ=[some (.lst (ns.map D.int)),some (.tup (ms.map D.int)),some (.int md),some (.int 4),some (.int hd),some (.int sz),some (.int fr),some (.int nm),some (.lst (bs.map E2)),v9,v10,some (.ref p),none,none,none,none,none],?_,?_⟩
 .grind;have q0:=Ce (hd / 3) (by omega:md+1≠0);have q1:=BL (hd / 3) (by omega:0<md+1);refine⟨⟨by decide,by decide⟩,by ext,⟨by ext,by ext⟩,λk τ M'=>∃(es:List (Str×Int)) (sz:Int) (v9:Option D),M'=put M1 p (.lst (es.map G1))/\0<=sz/\es.length=k/\lV ms nm es/\τ=[some (.lst (ns.map D.int)),some (.tup (ms.map D.int)),some (.int md),some (.int 4),some (.int hd),some (.int sz),some (.int fr),some (.int nm),some (.lst (bs.map E2)),v9,v10,some (.ref p),none,none,none,none,none],⟨[],sz,v9,rfl,sz0,rfl,(λi b m h=>by simp at h),rfl⟩,λ_ _ _ _=>trivial,?_,?_⟩
  .intro k d τ M' hd';ext1⟨es,sz,v9,e1',sz0,hl,he,e2'⟩;obtain⟨hk,rfl⟩:=Yl hd';have hk2:k<2:=by ext
   obtain⟨mk,hmk⟩:∃mk,ms[3+k]? = some mk:=⟨_,Af (by ext)⟩;obtain⟨mQ,mk64⟩:=hms mk (Aw hmk);grind;rw[show(3:Int)+(0+(k:Int))=((3+k:Nat):Int) by ext,OE (show(ms.map D.int)[3+k]? = some (.int mk) by rw[AH,hmk];rfl)];simp only[BR];grind;have w0:=Ce sz (by omega:mk≠0);have w1:=BL sz (by omega:0<mk);refine⟨⟨nb.1,nb.2,by ext,by ext⟩,λz hz=>⟨by ext,BU (by ext),⟨by decide,by decide⟩,es++[(z,1+sz%mk)],_,_,by rw[AI];rfl,by ext,by rw[Aq,hl];rfl,λi b m hi hm=>?_,rfl⟩⟩;rcases JT i es.length with h|h|h
   .rw[CZ h]at hi;exact he i b m hi hm
   .subst h;rw[Cf (AJ _)]at hi;simp at hi;rw[<- hl]at hmk hz;rw[hmk]at hm;cases hm;rw[<- hi];exact⟨by rw[show(3:Int)+(es.length:Int)=((3+es.length:Nat):Int) by ext];exact hz,by show 1<=1+sz%mk;ext,by show 1+sz%mk<=mk;ext,by ext⟩
   .rw[Bu (by simp;ext)]at hi;cases hi
  .intro τ M';ext1⟨es,sz,v9,e1',sz0,hl,he,e2'⟩;rw[VT]at hl;exact⟨es,sz,v9,rfl,by ext,he,rfl⟩
 intro τ M3;ext1⟨es,sz,v9,e1',e2,he,e2'⟩;rw[ZZ rfl C8,Ti hp];simp only[B5,CD];grind;intro p hp;have sp:=dm m5 hb he b3 e2;have sp2:=sp.take 2 1;have bne:bs≠[]:=λe=>by rw[e]at b1;cases b1
 have bne2:bs.take 2≠[]:=λe=>by
  have:=congrArg Es e;rw[AY,E9]at this;ext
 refine⟨λτ M'=>M'=put M1 p (.lst [])/\∃mn:Int,(1<=mn/\mn<=4)/\τ=[some (.lst (ns.map D.int)),some (.tup (ms.map D.int)),some (.int md),some (.int 4),some (.int hd),some (.int sz),some (.int fr),some (.int nm),some (.lst (bs.map E2)),v9,v10,some (.lst (es.map G1)),some (.ref p),some (.int mn),none,none,none],?_,?_⟩
 .grind;exact⟨⟨by decide,by decide⟩,_,⟨by ext,by ext⟩,rfl⟩
 intro τ M4;ext1⟨e1',mn,⟨mn1,mn4⟩,e2'⟩;refine⟨λτ M'=>∃(rs:List (Str×Tm×List (Str×Tm))) (v9 v14 v15 v16:Option D),M'=put M1 p (.lst (rs.map Ga))/\rs.length<=4/\xF bs es nm rs/\τ=[some (.lst (ns.map D.int)),some (.tup (ms.map D.int)),some (.int md),some (.int 4),some (.int hd),some (.int sz),some (.int fr),some (.int nm),some (.lst (bs.map E2)),v9,v10,some (.lst (es.map G1)),some (.ref p),some (.int mn),v14,v15,v16],?_,?_⟩
 .grind;refine⟨by ext,λk τ M'=>∃(rs:List (Str×Tm×List (Str×Tm))) (v9 v14 v15 v16:Option D),M'=put M1 p (.lst (rs.map Ga))/\rs.length=k/\xF bs es nm rs/\τ=[some (.lst (ns.map D.int)),some (.tup (ms.map D.int)),some (.int md),some (.int 4),some (.int hd),some (.int sz),some (.int fr),some (.int nm),some (.lst (bs.map E2)),v9,v10,some (.lst (es.map G1)),some (.ref p),some (.int mn),v14,v15,v16],⟨[],v9,none,none,none,rfl,rfl,(λi r h=>by simp at h),rfl⟩,λ_ _ _ _=>trivial,?_,?_⟩
  .intro k d τ M' hd';ext1⟨rs,v9,v14,v15,v16,e1',hl,hrs,e2'⟩;obtain⟨hk,rfl⟩:=Yl hd';have hk4:k<4:=by ext
   refine⟨λτ M'=>M'=put M1 p (.lst (rs.map Ga))/\∃nu:Int,0<=nu/\τ=[some (.lst (ns.map D.int)),some (.tup (ms.map D.int)),some (.int md),some (.int 4),some (.int hd),some (.int sz),some (.int fr),some (.int nm),some (.lst (bs.map E2)),some (.int (0+(k:Int))),v10,some (.lst (es.map G1)),some (.ref p),some (.int mn),some (.int nu),v15,v16],?_,?_⟩
   .grind;exact⟨Yk (by decide) (by ext),by ext,λz=>⟨⟨by decide,by decide,by decide⟩,_,by ext,rfl⟩⟩
   intro τ M5;ext1⟨e1',nu,nu0,e2'⟩;refine⟨λτ M'=>M'=put M1 p (.lst (rs.map Ga))/\∃t:Tm,PL (bs.take 2) (es.take 1) 1 2 t/\τ=[some (.lst (ns.map D.int)),some (.tup (ms.map D.int)),some (.int md),some (.int 4),some (.int hd),some (.int sz),some (.int fr),some (.int nm),some (.lst (bs.map E2)),some (.int (0+(k:Int))),v10,some (.lst (es.map G1)),some (.ref p),some (.int mn),some (.int nu),some t.D,v16],?_,?_⟩
   .grind
    obtain⟨dp,hdp,dp2⟩:∃dp:Nat,FG [D.int 2,D.int 2,D.int 2,D.int 1] (mn-1)=some (.int dp)/\dp<=2:=by
     rcases(by omega:mn=1\/mn=2\/mn=3\/mn=4)with h|h|h|h<;>rw[h]
     .exact⟨2,rfl,by decide⟩
     .exact⟨2,rfl,by decide⟩
     .exact⟨2,rfl,by decide⟩
     .exact⟨1,rfl,by decide⟩
    rw[hdp,BR];exact⟨dp,rfl,dp2,bs.take 2,es.take 1,by rw[L3.cutD_toI _ (by decide),<- KU];rfl,by rw[L3.cutD_toI _ (by decide),<- KU];rfl,sp2,bne2,nu0,λt ht=>⟨t,ht,rfl⟩⟩
   intro τ M6;ext1⟨e1',t,ht,e2'⟩;refine⟨λτ M'=>M'=put M1 p (.lst (rs.map Ga))/\∃wr:List (Str×Tm),QM (Px bs) es t wr/\τ=[some (.lst (ns.map D.int)),some (.tup (ms.map D.int)),some (.int md),some (.int 4),some (.int hd),some (.int sz),some (.int fr),some (.int nm),some (.lst (bs.map E2)),some (.int (0+(k:Int))),v10,some (.lst (es.map G1)),some (.ref p),some (.int mn),some (.int nu),some t.D,some (.lst (wr.map Kk))],?_,?_⟩
   .grind;refine⟨Yk (by decide) (by ext),by ext,λz=>⟨⟨by decide,by decide,by decide⟩,bs,es,rfl,rfl,sp,bne,by ext,λwr hwl hwn hwt=>⟨wr,⟨?_,by ext,λu hu=>?_,hwn⟩,rfl⟩⟩⟩
    .refine⟨⟨AZ ht.p (by decide),AZ ht.d (by decide)⟩,Wd.mono2 (λz n h=>?_) (λz n h=>jA _ _ z n h) ht.w⟩;refine jA 2 _ z n ?_;unfold Px at h ⊢;rw[<- KU];exact h
    .obtain⟨b,mb,e,hu'⟩:=hwt u hu;rw[e];exact⟨b.2.1,Yz (p:=(b.1,b.2.1)) (by unfold Px;rw[Bv];exact sp.nb) (An.mpr ⟨b,mb,rfl⟩),⟨AZ hu'.p (by decide),AZ hu'.d (by decide)⟩,hu'.w⟩
   intro τ M7;ext1⟨e1',wr,hwr,e2'⟩;grind;refine⟨⟨nb.1,nb.2,by ext,by ext⟩,λz hz=>⟨BU (by ext),rs++[(z,t,wr)],_,_,_,_,by rw[AI];rfl,by rw[Aq,hl];rfl,λi r hi=>?_,rfl⟩⟩;rcases JT i rs.length with h|h|h
   .rw[CZ h]at hi;exact hrs i r hi
   .subst h;rw[Cf (AJ _)]at hi;simp at hi;rw[<- hi];rw[Wy,<- hl]at hz;exact⟨hz,hwr⟩
   .rw[Bu (by simp;ext)]at hi;cases hi
  .intro τ M';ext1⟨rs,v9,v14,v15,v16,e1',hl,hrs,e2'⟩;rw[VT]at hl;exact⟨rs,v9,v14,v15,v16,rfl,by ext,hrs,rfl⟩
 intro τ M8;ext1⟨rs,v9,v14,v15,v16,e1',r4,hrs,e2'⟩;rw[ZZ rfl C8,Ti hp];simp only[B5,CD];grind;have gb:∀(i:Nat) b,bs[i]? = some b->∃m,ms[i]? = some m:=λi b h=>⟨_,Af (by have:=(Ah.mp h).1;ext)⟩;have ge:∀(i:Nat) b,es[i]? = some b->∃m,ms[3+i]? = some m:=λi b h=>⟨_,Af (by have:=(Ah.mp h).1;ext)⟩;refine Dn.of (q ⟨bs,es,rs⟩ ⟨⟨⟨sp.b.1,λb mb=>?_⟩,sp.d,⟨by show rs.length<=8;ext,λr mr=>?_⟩,?_⟩,⟨b1,b3⟩,e2⟩)
 .obtain⟨i,hi⟩:=Bm.mp mb;obtain⟨m,hm⟩:=gb i b hi;obtain⟨h1,h2,h3,h4⟩:=hb i b m hi hm;exact⟨h1.ok,by ext,by ext,h3,h4⟩
 .obtain⟨i,hi⟩:=Bm.mp mr;obtain⟨h1,h2⟩:=hrs i r hi;exact⟨h1.ok,h2⟩
 .show(bs.map (·.1)++es.map (·.1)++rs.map (·.1)).Nodup
  have ix:∀x∈bs.map (·.1),∃i:Nat,i<3/\KO nm i x:=λx hx=>by
   obtain⟨b,mb,rfl⟩:=An.mp hx;obtain⟨i,hi⟩:=Bm.mp mb;obtain⟨m,hm⟩:=gb i b hi;exact⟨i,by have:=(Ah.mp hi).1;ext,(hb i b m hi hm).1⟩
  have iy:∀x∈es.map (·.1),∃i:Nat,(3<=i/\i<5)/\KO nm i x:=λx hx=>by
   obtain⟨b,mb,rfl⟩:=An.mp hx;obtain⟨i,hi⟩:=Bm.mp mb;obtain⟨m,hm⟩:=ge i b hi;exact⟨3+i,by have:=(Ah.mp hi).1;ext,by have:=(he i b m hi hm).1;rw[show((3+i:Nat):Int)=3+(i:Int) by ext];exact this⟩
  have iz:∀x∈rs.map (·.1),∃i:Nat,(5<=i/\i<9)/\KO nm i x:=λx hx=>by
   obtain⟨r,mr,rfl⟩:=An.mp hx;obtain⟨i,hi⟩:=Bm.mp mr;exact⟨5+i,by have:=(Ah.mp hi).1;ext,by have:=(hrs i r hi).1;rw[show((5+i:Nat):Int)=5+(i:Int) by ext];exact this⟩
  rw[Fk,Fk];refine⟨⟨sp.nb,sp.nd,λx hx y hy e=>?_⟩,gZ (α:=Str×Tm×List (Str×Tm)) (nm:=nm) (·.1) 5 (by ext) (λi r hi=>by have:=(hrs i r hi).1;rw[show((5+i:Nat):Int)=5+(i:Int) by ext];exact this),λx hx y hy e=>?_⟩
  .subst e;obtain⟨i,hi,h1⟩:=ix x hx;obtain⟨j,hj,h2⟩:=iy x hy;have:=KO.inj h1 h2 (by ext) (by ext);ext
  .subst e;obtain⟨j,hj,h2⟩:=iz x hy;rcases AT.mp hx with hx|hx
   .obtain⟨i,hi,h1⟩:=ix x hx;have:=KO.inj h1 h2 (by ext) (by ext);ext
   .obtain⟨i,hi,h1⟩:=iy x hx;have:=KO.inj h1 h2 (by ext) (by ext);ext
theorem qp (h:Bf M (.ref p)=some xs):Hz M (.ref p)=some xs:=h
theorem vy (ls:List Str)(j:Nat):(ls.eraseIdx j).map D.str=(ls.map D.str).eraseIdx j:=by
 induction ls generalizing j with
 |nil=>rfl
 |cons x r ih=>cases j with
  |zero=>rfl
  |succ j=>simp[ih]
abbrev Zfp:DO:=λds M Q=>FF ds λx y=>EW x λn=>∃rs:List (Str×Tm×List (Str×Tm)),y=.lst (rs.map Ga)/\rs.length<=8/\0<=n/\∀zs:List Str,zs.Perm (rs.map (·.1))->Q (.lst (zs.map D.str)) M
theorem ZfK:Od T T.x84 1 Zfp:=by
 refine CI.p2 T.x84.d.F ["number", "rules", "left", "order", "at"] λx y M Q hr nN h1=>?_;obtain⟨n,e1',rs,e2',hl,n0,q⟩:_:=CU h1;clear h1;refine⟨_,(qC (nr (caps:=[]) (i:=2) nN rfl rfl ⟨rfl,by rfl,by rfl,by rfl,rfl,by rfl,by nofun⟩ rfl (JP (qv 1)) (λ_ _ _ _ _ _=>(Be BA (qv 0) Aj))) (qC (Cw 3 nN (Jv qN)) (EO (UE AK (AX (VC (Jz hr)) (qv 2) (HA qN)) (qC (Cw 4 nN (BC G3 (qv 0) (Cp LU T.B.len CG (qA (qv 2) qN)))) (qC (Cw 0 nN (BC KD (qv 0) (Cp LU T.B.len CG (qA (qv 2) qN)))) (qO (E3 (JX AN Bi Bh QJ (qv 3) (qA (JX AN Mc Mb fb (qv 2) (qA (qv 4) qN)) qN))))))) (VR 3 (qO (CC (qv 3))))))),?_⟩;right;refine EL.of (f:=λr=>D.str r.1) (GD (by ext)) trivial (λr hr R h=>?_) ?_
 .simp only[Ga];walk_at "cap";exact h
 intro p hp p1 hp1;have ne:p≠p1:=λe=>by rw[e,C8]at hp1;cases hp1
 have hM1:M p1=none:=by rw[Ds (Bj ne)]at hp1;exact hp1
 generalize D.lst (rs.map Ga)=Y;refine⟨λτ M'=>∃zs:List Str,(zs.Perm (rs.map (·.1))/\Sub M M'/\M' p1=some (.lst (zs.map D.str)))/\∃a b,τ=[a,some Y,some (.ref p),some (.ref p1),b],?_,?_⟩
 .refine⟨λk τ M'=>∃(n:Int) (ls os:List Str),(0<=n/\ls.length=k/\(os++ls).Perm (rs.map (·.1))/\Sub M M'/\M' p=some (.lst (ls.map D.str))/\M' p1=some (.lst (os.map D.str)))/\∃b,τ=[some (.int n),some Y,some (.ref p),some (.ref p1),b],⟨_,n,rs.map (·.1),[],⟨n0,rfl,by rw[FI],(Sub.put hp).puts hM1,by rw[Ds ne,C8,Bv];rfl,C8⟩,none,rfl⟩,?_⟩;intro k τ M' hI';refine Ao λG' kk'=>?_;obtain⟨n,ls,os,⟨n0,lk,pm,sb,h1,h2⟩,b,e1'⟩:=hI';refine kk' ?_;clear kk';subst e1';have ll:=pm.length_eq;rw[Aq,Ab]at ll;grind;rw[gE h1,BR];refine Cz (λc=>?_) λc=>?_
  .have lp:0<ls.length:=by
    cases ls with
    |nil=>cases c
    |cons x r=>exact Nl _
   have b0:=Ce n (show(ls.length:Int)≠0 by ext);have b1:=BL n (show(0:Int)<ls.length by ext);obtain⟨j,hj⟩:=Int.eq_ofNat_of_zero_le b0;have jl:j<ls.length:=by ext
   rw[qp (gE h1),BR,BR,h1,kl,Ab,hj];refine⟨by ext,⟨by ext,by ext⟩,Ix h2,Ix h1,j,.str ls[j],rfl,by ext,by rw[AH,Af jl];rfl,?_⟩;rw[VL (by rw[Ds (Bj ne)];exact h2)];refine⟨BU (by rw[Ab];ext),ls.length-1,by ext,n / ls.length,ls.eraseIdx j,os++[ls[j]],⟨Sw n0 (by ext),by rw[F7 jl],?_,(sb.puts hp).puts hM1,by rw[Ds ne,C8,<- vy],by rw[C8,AI];rfl⟩,_,rfl⟩;rw[Bo];exact((Kn ls j jl).append_left os).trans pm
  .have e:ls=[]:=by
    cases ls with
    |nil=>rfl
    |cons x r=>exact absurd rfl c
   subst e;rw[CH]at pm;exact⟨os,⟨pm,sb,h2⟩,_,_,rfl⟩
 intro τ M';ext1⟨zs,⟨pm,sb,hz⟩,a,b,e1'⟩;rw[pX (p:=p1) rfl hz];simp only[B5,CD];grind;refine QC (λx o e=>?_) (q zs pm);have nx:x≠p1:=λc=>by rw[c,hM1]at e;cases e
 rw[IQ nx];exact sb x o e
noncomputable def Tm.items:Tm->List (L3.D×Option Tm)
 |.num w n=>[(.int w,none),(.int n,none)]
 |.box x | .late x | .door x=>[(.str x,none)]
 |.not t=>[(t.D,some t)]
 |.bin _ t u=>[(t.D,some t),(u.D,some u)]
 |.pick c t u=>[(c.D,some c),(t.D,some t),(u.D,some u)]
 |.part t lo many=>[(t.D,some t),(.int lo,none),(.int many,none)]
noncomputable def Tm.head:Tm->Str
 |.num _ _=>"num" |.box _=>"box" |.late _=>"late" |.door _=>"door" |.not _=>"not" |.bin o _ _=>o.nm | .pick _ _ _=>"pick" |.part _ _ _=>"part"
theorem Tm.D_items (t:Tm):t.D=.tup (.str t.head::t.items.map (·.1)):=by cases t<;>rfl
noncomputable def G0 (form:Str)(i:L3.D×Option Tm):List Str:=match i.2 with
 |some u=>u.names form
 |none=>[]
noncomputable def B3 (form:Str):List (L3.D×Option Tm)->List Str
 |[]=>[]
 |i::r=>G0 form i++B3 form r
theorem YB (form:Str):∀a b,B3 form (a++b)=B3 form a++B3 form b
 |[],b=>rfl
 |i::r,b=>by rw[Ed,B3,B3,YB form r b,Bo]
theorem zr {t:Tm}(h:¬t.head=form):t.names form=B3 form t.items:=by
 cases t<;>simp[Tm.names,Tm.leaves,Tm.items,B3,G0,Tm.nameOf,HJ,Tm.head]at h ⊢<;>(try (intro e;exact absurd e.symm h))
theorem yy {t:Tm}(h:HF t.head):∃x,t.items=[(.str x,none)]/\t.names t.head=[x]:=by
 cases t with
 |box x | late x | door x=>exact⟨x,rfl,by simp[Tm.names,Tm.leaves,Tm.nameOf,Tm.head]⟩
 |num _ _=>exact absurd h (by unfold HF;simp only[Tm.head];nofun)
 |not _=>exact absurd h (by unfold HF;simp only[Tm.head];nofun)
 |pick _ _ _=>exact absurd h (by unfold HF;simp only[Tm.head];nofun)
 |part _ _ _=>exact absurd h (by unfold HF;simp only[Tm.head];nofun)
 |bin o _ _=>
  have:=Gd.nm_ne (o:=o);rcases h with h|h|h
  .exact absurd h this.2.1
  .exact absurd h this.2.2.1
  .exact absurd h this.2.2.2.1
theorem uz {t u:Tm}(h:(d,some u)∈t.items):d=u.D/\u∈t.kids:=by
 cases t<;>simp[Tm.items,Tm.kids]at h ⊢
 .exact⟨by rw[h.1,h.2],h.2⟩
 .rcases h with h|h<;>exact⟨by rw[h.1,h.2],by simp[h.2]⟩
 .rcases h with h|h|h<;>exact⟨by rw[h.1,h.2],by simp[h.2]⟩
 .exact⟨by rw[h.1,h.2],h.2⟩
theorem yk {t:Tm}(h:(d,none)∈t.items):(∃i,d=.int i)\/∃x,d=.str x:=by
 cases t<;>simp[Tm.items]at h
 .rcases h with h|h<;>exact .inl ⟨_,h⟩
 .exact .inr ⟨_,h⟩
 .exact .inr ⟨_,h⟩
 .exact .inr ⟨_,h⟩
 .rcases h with h|h<;>exact .inl ⟨_,h⟩
theorem tj (d:L3.D)(ds:List L3.D):L3.cutD (d::ds) (some 1) none=ds:=by
 rw[xq _ (by decide)];rfl
theorem wy (form:Str)(t:Tm):(t.names form).length<=t.parts:=AZ (DS _ _) t.leaves_len
abbrev bO (n:Nat)(ds:List D)(M:Mp)(Q:El):Prop:=FF ds λx f=>Ck (Iy x) λt=>Gb f λform=>t.deep<=n/\t.parts<=1000/\HF form/\Q (.lst ((t.names form).map D.str)) M
theorem ZcJ (G__law_read:Od T T.x85 (n+3) (bO n)):Od T T.x85 (n+4) (bO (n+1)):=by
 refine CI.p2 T.x85.d.F ["term", "word", "found", "part"] λx f M Q hr nN h1=>?_;obtain⟨t,rfl,h2⟩:=N4 h1;obtain⟨form,e1',hd,hp,hn,q⟩:_:=D4 h2;refine⟨_,(qC (Ez (AX CO (Be BA (qv 0) Aj) (qv 1)) (qO (CC (HA (qA (Be BA (qv 0) Aj) qN)))) qE) (qC (Cw 2 nN (HA qN)) (EO (KG AK rfl (QD (IA oH (qv 0) (Tg Aj) VP)) (MM (i:=3) nN rfl (BX rfl)) (qO (Ez (GF (Cp (nR "tuple") T.B.isinstance YT (qA (qv 3) (qA (mO T.B.tuple Is) qN)))) (qO (Cw 2 nN (BC ZV (qv 2) (Ay T.x85.d G__law_read nofun (qA (qv 3) (qA (qv 1) qN)))))) qE))) (qO (CC (qv 2)))))),?_⟩;rw[t.D_items];right;by_cases hf:t.head=form
 .rw[if_pos hf];subst hf;obtain⟨x,e1,e2⟩:=yy hn;rw[e2]at q;rw[e1];simp only[AR,Dr];grind;exact Dn.of q
 rw[if_neg hf];have hlen:=wy form t;rw[zr hf]at q hlen;refine⟨λτ M'=>M'=M/\∃v3,τ=[some (.tup (.str t.head::t.items.map (·.1))),some (.str form),some (.lst ((B3 form t.items).map D.str)),v3],?_,?_⟩
 .grind;rw[show L3.cutD (D.str t.head::t.items.map (·.1)) (some 1) none=t.items.map (·.1)from tj _ _];refine⟨λk τ M'=>M'=M/\∃v3,τ=[some (.tup (.str t.head::t.items.map (·.1))),some (.str form),some (.lst ((B3 form (t.items.take k)).map D.str)),v3],⟨rfl,none,rfl⟩,λ_ _ _ _=>trivial,?_,?_⟩
  .rintro k y τ M' hy ⟨rfl,v3,rfl⟩;obtain⟨i,hu,rfl⟩:=LW hy;obtain⟨d,o⟩:=i;dsimp only at hy ⊢;have e1:t.items.take (k+1)=t.items.take k++[(d,o)]:=by rw[A8,hu];rfl
   have hmem:=Aw hu
   have e2:B3 form t.items=B3 form (t.items.take k)++G0 form (d,o)++B3 form (t.items.drop (k+1)):=by
    have:B3 form (t.items.take (k+1))=B3 form (t.items.take k)++G0 form (d,o):=by
     rw[e1,YB];simp[B3]
    rw[<- this,<- YB,HI]
   rw[e2]at hlen;simp only[Aq]at hlen;cases o with
   |none=>
    have hd2:=yk hmem
    have e3:B3 form (t.items.take (k+1))=B3 form (t.items.take k):=by
     rw[e1,YB];simp[B3,G0]
    rcases hd2 with⟨i,rfl⟩|⟨x,rfl⟩
    .grind;rw[e3];exact⟨_,rfl⟩
    .grind;rw[e3];exact⟨_,rfl⟩
   |some u=>
    obtain⟨rfl,hku⟩:=uz hmem;have du:=Tm.deep_kid hku;have pu:=Tm.parts_of_kid hku;have hd3:=u.D_items
    have e3:B3 form (t.items.take (k+1))=B3 form (t.items.take k)++u.names form:=by
     rw[e1,YB];simp[B3,G0]
    have isT:∀M2,MZ M2 u.D=some "tuple":=λM2=>by rw[hd3];rfl
    grind;rw[isT];simp only[G0]at hlen;grind;refine⟨by ext,by ext,hn,GD (by ext),some u.D,?_⟩;rw[e3,AI]
  .rintro τ M' ⟨rfl,v3,rfl⟩;refine⟨rfl,v3,?_⟩;rw[Ab,Bc]
 .rintro τ M' ⟨rfl,v3,rfl⟩;grind;exact Dn.of q
theorem kP (T:Tv P w K mg base):∀n:Nat,Od T T.x85 (n+3) (bO n)
 |0=>by
  have no:∀ds M Q,¬bO 0 ds M Q:=λds M Q h=>by
   obtain⟨x,f,rfl,h1⟩:=MG h;obtain⟨t,rfl,h2⟩:=N4 h1;obtain⟨form,e1',hd,hp,hn,q⟩:_:=D4 h2;have:=t.deep_pos;ext
  exact V0 no
 |n+1=>ZcJ T (kP T n)
theorem jI (f:Str)(g:Tm)(ts:List Tm)(t:Tm):C3 f g (ts++[t])=C3 f g ts++t.names f:=by simp[C3]
theorem pC (h:N6 zs g ts)(f:Str):∀k,(C3 f g (ts.take k)).length<=100*(k+1)
 |0=>by
  have:=(h.t g AF).1.2;have l1:(g.names f).length<=g.leaves.length:=DS _ _;have l2:=g.leaves_len;simp[C3];ext
 |k+1=>by
  have ih:=pC h f k;rw[A8];cases e:ts[k]? with
  |none=>simpa using AZ ih (by ext)
  |some t=>have:=(h.t t (AE _ (Aw e))).1.2;have l1:(t.names f).length<=t.leaves.length:=DS _ _;have l2:=t.leaves_len;show(C3 f g (ts.take k++[t])).length<=_;rw[jI,Aq];ext
theorem sf (h:k∉AQ.map (·.1)):Hj AQ k v=AQ++[(k,v)]:=by
 unfold Hj;rw[if_neg];intro e;obtain⟨x,hx,e⟩:=C4.mp e;exact h (An.mpr ⟨x,hx,of_decide_eq_true e⟩)
theorem vc (h:k∉f.map (·.1)):Do (f++[(k,v)]) k=some v:=by
 unfold Do;rw[List.find?_append,EV.mpr λx hx e=>h (An.mpr ⟨x,hx,of_decide_eq_true e⟩)];simp
theorem nk (h:p≠q):put (put M q b) p a=put (put M p a) q b:=by
 funext x;unfold put;by_cases h1:x=p
 .rw[if_pos h1,if_neg (λe=>h (h1.symm.trans e)),if_pos h1]
 .rw[if_neg h1,if_neg h1]
abbrev Rl:=Str×Tm×List (Str×Tm)
noncomputable def LN (r:Rl):List Str:=C3 "late" r.2.1 (r.2.2.map (·.2))
noncomputable def Ll (nms zs:List Str)(ps:List (Str×Str))(r o:Rl):Bool:=(decide (nms.idxOf o.1<nms.idxOf r.1) && SX ps o.1 r.1) || (decide (o.1∈PJ zs r.1) && !((o.2.2.map (·.1)).filter λz=>decide (z∈LN r)).isEmpty)
noncomputable def PD (wk:Wk)(zs:List Str)(ps:List (Str×Str))(r:Rl):List Str:=(wk.rs.filter (Ll wk.nms zs ps r)).map (·.1)
noncomputable def Zz (wk:Wk)(zs:List Str)(ps:List (Str×Str)):List (Str×List Str):=wk.rs.map λr=>(r.1,PD wk zs ps r)
abbrev Zfq:DO:=λds M Q=>Je ds λx y z=>∃(wk:Wk) (zs:List Str) (ps:List (Str×Str)),x=.lst (wk.rs.map Ga)/\y=.lst (zs.map D.str)/\z=.lst (ps.map Nc)/\wk.Ok/\zs.Perm wk.nms/\ps.length<=100/\Q (.dic (Kr (Zz wk zs ps))) M
theorem ZfL:Od T T.x86 16 Zfq:=by
 refine CI.p3 T.x86.d.F ["rules", "order", "pairs", "wanted", "row", "rule", "late", "pair", "ahead", "other", "writes", "urgent", "clashing_v"] λx y z M Q hr nN h=>?_;obtain⟨wk,zs,ps,e1',e2',e3',ok,pm,hl,q⟩:_:=h;have l8:=ok.r.1;have ll:zs.length<=8:=by rw[pm.length_eq,Ab];exact l8
 refine⟨_,(qC (Cw 3 nN Jb) (qC (sR (caps:=[]) (i:=4) nN rfl rfl ⟨rfl,by rfl,by rfl,by rfl,rfl,by rfl,by nofun⟩ rfl (JP (qv 0)) (λ_ _ _ _ _ _=>(Be BA (qv 0) Aj))) (EO (KG AK rfl (JP (qv 0)) (MM (i:=5) nN rfl (BX rfl)) (EO (ZX (i:=6) nN rfl (G4 rfl) (Ay T.x85.d (kP T 12) nofun (qA (Be BA (qv 5) Aj) (qA BQ qN)))) (EO (KG AK rfl (JP (Be BA (qv 5) Aj)) (MM (i:=7) nN rfl (BX rfl)) (qO (ZX (i:=6) nN rfl (G4 rfl) (BC ZV (qv 6) (Ay T.x85.d (kP T 12) nofun (qA (Be BA (qv 7) Aj) (qA BQ qN))))))) (qC (Cw 8 nN (IA Ym (qv 1) VP (Tg (JX AN Gg Gf (aJ (O1 hr)) (qv 1) (qA (Be BA (qv 5) Aj) qN))))) (qC (VQ (J2 hr) (qv 3) (Be BA (qv 5) Aj) (Jv qN) rfl) (EO (KG AK rfl (JP (qv 0)) (MM (i:=9) nN rfl (BX rfl)) (EO (kA (caps:=[("late",6)]) (i:=10) nN rfl rfl ⟨rfl,by rfl,by rfl,by rfl,rfl,by rfl,by nofun⟩ rfl (JP (Be BA (qv 9) Aj)) (λ_ _ _ _ _ _=>(Be BA (qv 0) Aj)) (λ_ _ _ _ _ _=>(AX OX (Be BA (qv 0) Aj) (qv 1) (by with_unfolding_all rfl)))) (EO (Cw 11 nN (Jx La (JX AN Gg Gf (aJ (O1 hr)) (qv 4) (qA (Be BA (qv 9) Aj) qN)) (JX AN Gg Gf (aJ (O1 hr)) (qv 4) (qA (Be BA (qv 5) Aj) qN)))) (EO (Cw 12 nN (fZ (Jx (ZK (Jz hr)) (CB (qA (Be BA (qv 9) Aj) (qA (Be BA (qv 5) Aj) qN))) (qv 2) (by with_unfolding_all rfl)) (NQ (Jx (ZK (Jz hr)) (CB (qA (Be BA (qv 5) Aj) (qA (Be BA (qv 9) Aj) qN))) (qv 2) (by with_unfolding_all rfl))))) (qO (Ez ((Tf ((VE (GF (qv 11)) (VS (GF (qv 12))))).pt (VF ((VE (AX OX (Be BA (qv 9) Aj) (qv 8) (by with_unfolding_all rfl)) (VS (AX (VC (Jz hr)) (qv 10) (HA qN))))).pt))).pt (qO (E3 (JX AN Bi Bh QJ (Fg (J2 hr) (qv 3) (Be BA (qv 5) Aj) (λ_ _=>rfl)) (qA (Be BA (qv 9) Aj) qN)))) qE)))))) (nv 3 qE))))))) (qO (CC (K9 (qv 3))))))),?_⟩;right;intro p hp;refine EL.of (f:=λr=>D.str r.1) (GD (by ext)) trivial (λr hr R h=>?_) ?_
 .simp only[Ga];walk_at "cap";exact h
 generalize eZ:D.lst (zs.map D.str)=Z1;generalize eP:D.lst (ps.map Nc)=P1;generalize eR:D.lst (wk.rs.map Ga)=R1;generalize eN:D.lst (wk.rs.map λr=>D.str r.1)=N1;refine⟨λτ M'=>M'=put M p (.dic (Kr (Zz wk zs ps)))/\∃a5 a6 a7 a8 a9 b0 b1 b2,τ=[some R1,some Z1,some P1,some (.ref p),some N1,a5,a6,a7,a8,a9,b0,b1,b2],?_,?_⟩
 .subst eR;grind;refine⟨λk τ M'=>M'=put M p (.dic (Kr ((wk.rs.take k).map λr=>(r.1,PD wk zs ps r))))/\∃a5 a6 a7 a8 a9 b0 b1 b2,τ=[some (.lst (wk.rs.map Ga)),some Z1,some P1,some (.ref p),some N1,a5,a6,a7,a8,a9,b0,b1,b2],⟨rfl,none,none,none,none,none,none,none,none,rfl⟩,λ_ _ _ _=>trivial,?_,?_⟩
  .intro k y τ M' hy;ext1⟨e1',a5,a6,a7,a8,a9,b0,b1,b2,e2'⟩;obtain⟨r,hr1,rfl⟩:=LW hy;have mr:=Aw hr1;have rd:=ok.rd mr;have one:=rd.t;have rl:=pC rd "late";generalize eR:D.lst (wk.rs.map Ga)=R1;generalize eM:put M p (.dic (Kr ((wk.rs.take k).map λr=>(r.1,PD wk zs ps r))))=M1;simp only[Ga];grind;refine⟨λτ M2=>M2=M1/\τ=[some R1,some Z1,some P1,some (.ref p),some N1,some (Ga r),some (.lst ((r.2.1.names "late").map D.str)),a7,a8,a9,b0,b1,b2],?_,?_⟩
   .grind;exact⟨(one _ AF).1.1,AZ (one _ AF).1.2 (by decide),.inr (.inl rfl),rfl⟩
   rintro τ M2 ⟨rfl,rfl⟩;refine⟨λτ M3=>M3=M2/\∃a7,τ=[some R1,some Z1,some P1,some (.ref p),some N1,some (Ga r),some (.lst ((LN r).map D.str)),a7,a8,a9,b0,b1,b2],?_,?_⟩
   .simp only[Ga];grind;refine⟨λi τ M3=>M3=M2/\∃a7,τ=[some R1,some Z1,some P1,some (.ref p),some N1,some (Ga r),some (.lst ((C3 "late" r.2.1 ((r.2.2.map (·.2)).take i)).map D.str)),a7,a8,a9,b0,b1,b2],⟨rfl,a7,by simp[C3,Ga]⟩,λ_ _ _ _=>trivial,?_,?_⟩
    .rintro i d τ M3 hd ⟨rfl,a7,rfl⟩;obtain⟨w0,hw0,rfl⟩:=LW hd;have h1:(r.2.2.map (·.2))[i]? = some w0.2:=by rw[AH,hw0];rfl
     have hin:w0.2∈r.2.1::r.2.2.map (·.2):=AE _ (Aw h1);have hi:=(Ah.mp h1).1;have hl6:=rd.l;have r1:=rl i;have r2:=rl (i+1);have et:(r.2.2.map (·.2)).take (i+1)=(r.2.2.map (·.2)).take i++[w0.2]:=by rw[A8,h1];rfl
     rw[et]at r2;rw[jI,Aq]at r2;simp only[Kk];grind;refine⟨(one _ hin).1.1,AZ (one _ hin).1.2 (by decide),.inr (.inl rfl),GD (by first | ext | (simp;ext)),some (Kk w0),?_⟩;rw[et,jI,AI];rfl
    .rintro τ M3 ⟨rfl,a7,rfl⟩;rw[Ab,show r.2.2.length=(r.2.2.map (·.2)).length by rw[Ab],Bc];exact⟨rfl,a7,rfl⟩
   rintro τ M3 ⟨rfl,a7,rfl⟩;subst eZ;simp only[Ga];grind;rw[O5,BR,Yo (pm.mem_iff.mpr (An.mpr ⟨r,mr,rfl⟩)),BR];intro q0 hq;have h3:M3 p=some (.dic (Kr ((wk.rs.take k).map λr=>(r.1,PD wk zs ps r)))):=by rw[<- eM,C8]
   have ne:p≠q0:=λe=>by rw[<- e,h3]at hq;cases hq
   rw[Ds ne,h3];generalize ef:Kr ((wk.rs.take k).map λr=>(r.1,PD wk zs ps r))=f at h3 ⊢;have fl:f.length<=8:=by rw[<- ef];unfold Kr;rw[Ab,Ab,AY];ext
   refine⟨BU (by ext),?_⟩
   have hfr:(Fx r.1:B4)∉f.map (·.1):=λh=>by
    rw[<- ef]at h;unfold Kr at h;rw[Bv,Bv]at h;obtain⟨r',h1,h2⟩:=An.mp h;have e2:=DI h2;obtain⟨i,hi⟩:=Bm.mp h1;rw[List.getElem?_take]at hi;split at hi
    .next hik=>
     have nd:=ZU ok;rw[KW]at nd;have il:i<wk.nms.length:=by rw[Ab];exact(Ah.mp hi).1
     have:=(List.getElem?_inj il nd).mp (show wk.nms[i]? = wk.nms[k]? by unfold Wk.nms;rw[AH,AH,hi,hr1,GS,GS,e2]);ext
    .cases hi
   rw[sf hfr,nk ne,iI,show zs.take (zs.idxOf r.1)=PJ zs r.1 from rfl];generalize eD:(MO.dic (f++[(.inr r.1,.ref q0)]))=d1;subst eR;generalize eA:D.lst ((PJ zs r.1).map D.str)=A1;generalize eL:D.lst ((LN r).map D.str)=L1;refine⟨λτ M4=>M4=put (put M3 p d1) q0 (.lst ((PD wk zs ps r).map D.str))/\∃a9 b0 b1 b2,τ=[some (.lst (wk.rs.map Ga)),some (.lst (zs.map D.str)),some P1,some (.ref p),some N1,some (Ga r),some L1,a7,some A1,a9,b0,b1,b2],?_,?_⟩
   .grind;refine⟨λj τ M4=>M4=put (put M3 p d1) q0 (.lst ((((wk.rs.take j).filter (Ll wk.nms zs ps r)).map (·.1)).map D.str))/\∃a9 b0 b1 b2,τ=[some (.lst (wk.rs.map Ga)),some (.lst (zs.map D.str)),some P1,some (.ref p),some N1,some (Ga r),some L1,a7,some A1,a9,b0,b1,b2],⟨rfl,a9,b0,b1,b2,rfl⟩,λ_ _ _ _=>trivial,?_,?_⟩
    .intro j y τ M4 hy;ext1⟨e1',a9,b0,b1,b2,e2'⟩;obtain⟨o,ho,rfl⟩:=LW hy;have mo:=Aw ho;have o6:=(ok.r.2 o mo).2.l;have hM:put (put M3 p d1) q0 (.lst ((((wk.rs.take j).filter (Ll wk.nms zs ps r)).map (·.1)).map D.str)) q0=some (.lst ((((wk.rs.take j).filter (Ll wk.nms zs ps r)).map (·.1)).map D.str)):=C8;have hP:put (put M3 p d1) q0 (.lst ((((wk.rs.take j).filter (Ll wk.nms zs ps r)).map (·.1)).map D.str)) p=some d1:=by rw[Ds ne,C8]
     have hS:∀u,put (put (put M3 p d1) q0 (.lst ((((wk.rs.take j).filter (Ll wk.nms zs ps r)).map (·.1)).map D.str))) q0 u=put (put M3 p d1) q0 u:=λu=>QH;generalize eM4:put (put M3 p d1) q0 (.lst ((((wk.rs.take j).filter (Ll wk.nms zs ps r)).map (·.1)).map D.str))=M4 at hM hP hS ⊢;simp only[Ga];grind;refine⟨λτ M5=>M5=M4/\τ=[some (.lst (wk.rs.map Ga)),some (.lst (zs.map D.str)),some P1,some (.ref p),some N1,some (Ga r),some L1,a7,some A1,some (Ga o),some (.lst (((o.2.2.map (·.1)).filter λz=>decide (z∈LN r)).map D.str)),b1,b2],?_,?_⟩
     .subst eL;grind;refine EL.filt (f:=λw0=>D.str w0.1) (pr:=λw0=>decide (w0.1∈LN r)) (GD (by ext)) trivial (λw0 hw R q1=>?_) (λw0 hw R q1=>?_) ⟨rfl,?_⟩
      .simp only[Kk];walk_at "cap";exact q1
      .simp only[Kk];walk_at "cap";exact q1
      .rw[RA,Bv];rfl
     rintro τ M5 ⟨rfl,rfl⟩;refine⟨λτ M6=>M6=M5/\τ=[some (.lst (wk.rs.map Ga)),some (.lst (zs.map D.str)),some P1,some (.ref p),some N1,some (Ga r),some L1,a7,some A1,some (Ga o),some (.lst (((o.2.2.map (·.1)).filter λz=>decide (z∈LN r)).map D.str)),some (.bl (decide (wk.nms.idxOf o.1<wk.nms.idxOf r.1))),b2],?_,?_⟩
     .subst eN;simp only[Ga];grind;rw[show(wk.rs.map λr=>D.str r.1)=wk.nms.map D.str by unfold Wk.nms;rw[Bv];rfl,O5,BR,Yo (An.mpr ⟨o,mo,rfl⟩),BR,BR,Yo (An.mpr ⟨r,mr,rfl⟩),BR];rw[show decide ((wk.nms.idxOf o.1:Int)<(wk.nms.idxOf r.1:Int))=decide (wk.nms.idxOf o.1<wk.nms.idxOf r.1)from decide_eq_decide.mpr Int.ofNat_lt]
     rintro τ M6 ⟨rfl,rfl⟩;refine⟨λτ M7=>M7=M6/\τ=[some (.lst (wk.rs.map Ga)),some (.lst (zs.map D.str)),some P1,some (.ref p),some N1,some (Ga r),some L1,a7,some A1,some (Ga o),some (.lst (((o.2.2.map (·.1)).filter λz=>decide (z∈LN r)).map D.str)),some (.bl (decide (wk.nms.idxOf o.1<wk.nms.idxOf r.1))),some (.bl (SX ps o.1 r.1))],?_,?_⟩
     .subst eP;simp only[Ga];grind;refine aQ ?_;show if decide ((o.1,r.1)∈ps)=true then _ else _
      refine Cz (λc=>⟨rfl,?_⟩) λc=>aQ ⟨rfl,?_⟩
      .rw[show SX ps o.1 r.1=true from decide_eq_true (.inl (of_decide_eq_true c))]
      .rw[show SX ps o.1 r.1=decide ((r.1,o.1)∈ps)from decide_eq_decide.mpr ⟨λh=>h.resolve_left (by simpa using c),.inr⟩]
     rintro τ M7 ⟨rfl,rfl⟩;subst eA;simp only[Ga];grind;have et:wk.rs.take (j+1)=wk.rs.take j++[o]:=by rw[A8,ho];rfl
     have hj:=(Ah.mp ho).1;have sl:((((wk.rs.take j).filter (Ll wk.nms zs ps r)).map (·.1)).map D.str).length<Am:=BU (by rw[Ab,Ab];have:=Cu (Ll wk.nms zs ps r) (wk.rs.take j);rw[AY]at this;ext)
     have yes:∀{R:Prop},Ll wk.nms zs ps r o=true->R->Ck (D5 M7 (.ref p)) λAQ=>Ck (Do AQ (.inr r.1)) λv=>MZ M7 v=some "list"/\GX v [.str o.1] M7 λx M1=>M1=put (put M3 p d1) q0 (.lst ((((wk.rs.take (j+1)).filter (Ll wk.nms zs ps r)).map (·.1)).map D.str))/\R:=λhb h=>by
      rw[show D5 M7 (.ref p)=some (f++[(.inr r.1,.ref q0)]) by rw[<- eD]at hP;simp only[D5,hP],BR,vc hfr,BR];refine⟨Ix hM,?_⟩;rw[VL hM,hS];refine⟨sl,?_,h⟩;rw[et,DN,FY,if_pos hb,AI,AI];rfl
     have no:Ll wk.nms zs ps r o=false->M7=put (put M3 p d1) q0 (.lst ((((wk.rs.take (j+1)).filter (Ll wk.nms zs ps r)).map (·.1)).map D.str)):=λhb=>by
      rw[<- eM4,et,DN,FY,if_neg (by rw[hb];exact Al),Kf,CH]
     have tl:(decide (wk.nms.idxOf o.1<wk.nms.idxOf r.1) && SX ps o.1 r.1)=false->∀{A B:Prop},(Ll wk.nms zs ps r o=true->A)->(Ll wk.nms zs ps r o=false->B)->if o.1∈PJ zs r.1 then if (((o.2.2.map (·.1)).filter λz=>decide (z∈LN r)).map D.str).isEmpty=false then A else B else B:=λh A B a b=>by
      have eq1:Ll wk.nms zs ps r o=(decide (o.1∈PJ zs r.1) && !((o.2.2.map (·.1)).filter λz=>decide (z∈LN r)).isEmpty):=by unfold Ll;rw[h,Mj]
      rw[List.isEmpty_map];refine Cz (λc=>Cz (λd=>a ?_) λd=>b ?_) λc=>b ?_
      .rw[eq1,decide_eq_true c,d];rfl
      .rw[eq1,show List.isEmpty _=true by simpa using d,IZ,DJ]
      .rw[eq1,decide_eq_false c,E6]
     refine Cz (λc1=>Cz (λc2=>yes ?_ ⟨_,_,_,_,rfl⟩) λc2=>tl ?_ (λh=>yes h ⟨_,_,_,_,rfl⟩) λh=>⟨no h,_,_,_,_,rfl⟩) λc1=>tl ?_ (λh=>yes h ⟨_,_,_,_,rfl⟩) λh=>⟨no h,_,_,_,_,rfl⟩
     .unfold Ll;rw[decide_eq_true c1,c2];rfl
     .rw[JM.mpr c2,DJ]
     .rw[decide_eq_false c1,E6]
    .rintro τ M4 ⟨rfl,h⟩;rw[Ab,Bc];exact⟨rfl,h⟩
   intro τ M4;ext1⟨e1',a9,b0,b1,b2,e2'⟩;refine⟨p,q0,f,.inr r.1,(PD wk zs ps r).map D.str,rfl,by rw[Ds ne,C8,eD],C8,?_⟩;refine⟨?_,some (Ga r),some L1,a7,some A1,a9,b0,b1,b2,rfl⟩;rw[VO (by rw[Ds (Bj ne)];exact hq),QH,<- eM,QH,A8,hr1,AI];rw[show Kr ((wk.rs.take k).map (λr=>(r.1,PD wk zs ps r))++(some r).toList.map λr=>(r.1,PD wk zs ps r))=f++[(.inr r.1,.lst ((PD wk zs ps r).map D.str))] by rw[<- ef];unfold Kr;rw[AI];rfl]
  .rintro τ M' ⟨rfl,h⟩;rw[Ab,Bc];exact⟨rfl,h⟩
 .intro τ M';ext1⟨e1',a5,a6,a7,a8,a9,b0,b1,b2,e2'⟩;grind;rw[C8];dsimp only;rw[VO hp];exact Dn.of q
theorem QE:Fe ["script", "boxes", "doors", "rules", "works", "order", "due", "handed", "found", "name"] ["script"] (IP (Dt 106)):=(⟨rfl,rfl,rfl,by nofun,rfl,by nofun,by nofun⟩)
theorem tD :∀{l:List Str}{k:Nat},o∈l->(o∈l.take k↔l.idxOf o<k)
 |[],_,h=>nomatch h
 |a::l,0,_=>by simp
 |a::l,k+1,h=>by
  by_cases e:a=o
  .subst e;simp
  .have hl:=(A3.mp h).resolve_left λc=>e c.symm;rw[OO,By,Rz,show(a == o)=false by simpa using e,cond_false,tD hl];exact⟨λh=>by have:=h.resolve_left λc=>e c.symm;ext,λh=>.inr (by ext)⟩
theorem rZ {rs:List Rl}(nd:(rs.map (·.1)).Nodup)(ho:o∈rs):rs.find? (DK o.1)=some o:=by
 induction rs with
 |nil=>exact nomatch ho
 |cons a l ih=>
  rw[AR,Eg]at nd;rw[Cn];rcases A3.mp ho with rfl|h
  .rw[show DK o.1 o=true from decide_eq_true rfl]
  .rw[show DK o.1 a=false from decide_eq_false λe=>nd.1 (e ▸ An.mpr ⟨o,h,rfl⟩)];exact ih nd.2 h
theorem uu {a b:List Str}(h:∀z,z∈a↔z∈b):a.isEmpty=b.isEmpty:=by
 cases a with
 |nil=>cases b with
  |nil=>rfl
  |cons y l=>exact absurd ((h y).mpr AF) AS
 |cons x k=>cases b with
  |nil=>exact absurd ((h x).mp AF) AS
  |cons y l=>rfl
theorem zM {wk:Wk}(ok:wk.Ok){zs:List Str}{ps:List (Str×Str)}:Zz wk zs ps=Zw wk zs ps:=by
 have nd:=ZU ok;rw[KW]at nd;unfold Zz Zw Wk.nms;rw[Bv];refine Dj λr hr=>?_;show(r.1,PD wk zs ps r)=(r.1,PB wk zs ps r.1);congr 1
 unfold PD PB Wk.nms;rw[RA];congr 1
 refine List.filter_congr λo ho=>?_;show Ll _ zs ps r o=OY wk zs ps r.1 o.1;unfold Ll OY;rw[qW (rZ nd ho) (rZ nd hr),Bool.or_comm];congr 1
 .congr 2
  refine uu λz=>?_;unfold Kp Kz Qe;rw[Gr,Eh,Eh,Pq,decide_eq_true_eq,decide_eq_true_eq,Gr];rfl
 .unfold Zv;rw[Dm,BI,decide_eq_true_eq,decide_eq_true_eq,Eh];unfold PJ;rw[tD (An.mpr ⟨o,ho,rfl⟩)]
theorem L4.set {M M':Mp}{g:Str->List Str}{ns:List Str}{f:Str->Av}(h:L4 M M' g ns f){n:Str}(hn:n∈ns){ys:List Str}:L4 M (put M' (f n) (.lst (ys.map D.str))) (λx=>if x=n then ys else g x) ns f:=by
 refine⟨h.s.puts (h.n n hn).1,λa ha=>?_,h.i⟩;refine⟨(h.n a ha).1,?_⟩;by_cases c:a=n
 .rw[c,C8,if_pos rfl]
 .rw[Ds (λe=>c (h.i a ha n hn e)),if_neg c];exact(h.n a ha).2
theorem L4.cg {M M':Mp}{g g':Str->List Str}{ns:List Str}{f:Str->Av}(h:L4 M M' g ns f)(e:∀a∈ns,g' a=g a):L4 M M' g' ns f:=⟨h.s,λa ha=>by rw[e a ha];exact h.n a ha,h.i⟩
theorem bi {zs:List Str}(h:M p=some (.lst (zs.map D.str))):DR M 40 (.ref p) (.lst (zs.map D.str))=some true:=by
 unfold DR;rw[if_neg (by simp[Ea])];simp only[Bf,h]
 exact aU λd hd=>by
  obtain⟨z,-,rfl⟩:=An.mp hd;simp[DR,Ea,Ku]
theorem pB {ns:List Str}{f:Str->Av}(nd:ns.Nodup){n:Str}(hn:n∈ns):Do (ME ns f) (.inr n)=some (.ref (f n)):=
 V6 (by unfold ME;rw[Bv];unfold Et at nd ⊢;rw[Cj];exact nd.imp λh e=>h (DI e)) (An.mpr ⟨n,hn,rfl⟩)
theorem ei {ns:List Str}{g:Str->List Str}(nd:ns.Nodup){n:Str}(hn:n∈ns):Do (Kr (ns.map λn=>(n,g n))) (.inr n)=some (.lst ((g n).map D.str)):=
 V6 (zL (by rw[Bv];exact(KW ns).symm ▸ nd)) (An.mpr ⟨(n,g n),An.mpr ⟨n,hn,rfl⟩,rfl⟩)
theorem L4.eq {M M':Mp}{g:Str->List Str}{ns:List Str}{f:Str->Av}(h:L4 M M' g ns f):∃ks,D5 M' (.dic (ME ns f))=some (Ui ks)/\D5 M' (.dic (Kr (ns.map λn=>(n,g n))))=some (LI ks)/\∀p∈ks,DR M' 40 p.2.1 p.2.2=some true:=by
 refine⟨ns.map λn=>(.inr n,.ref (f n),.lst ((g n).map D.str)),?_,?_,λp hp=>?_⟩
 .show some (ME ns f)=_;unfold Ui ME;rw[Bv];rfl
 .show some (Kr _)=_;unfold LI Kr;rw[Bv,Bv];rfl
 .obtain⟨n,hn,rfl⟩:=An.mp hp;exact bi (h.n n hn).2
theorem ib:Od T T.x87 50 spLaw2:=by
 refine CI.ok2 T.x87.d.F QE (λds M Q h=>?_) (λcdv A outer s H E ds M Q hr h=>?_)
 .obtain⟨ns,rfl,_⟩:=h;rfl
 obtain⟨ns,rfl,h63,q⟩:=h;refine⟨_,(EO (gi (Ay T.x83.d (Zep T) nofun (qA (qv 0) (qA (CB (Yc (.int (.int (.int (.int (.int .nil))))))) (qA Aj (qA Aj qN))))) (VN (is:=[1,2,3]) rfl (MN (LX (i:=1) QE.nd rfl (BX rfl)) (MN (LX (i:=2) QE.nd rfl (BX rfl)) (MN (LX (i:=3) QE.nd rfl (BX rfl)) UB))))) (EO (Cw 4 QE.nd (Ay T.x35.d (oy T) nofun (qA (D9 Yi T.B.list Lz (qA (qv 1) qN)) (qA (D9 Yi T.B.list Lz (qA (qv 2) qN)) (qA (D9 Yi T.B.list Lz (qA (qv 3) qN)) qN))))) (EO (Cw 5 QE.nd (Ay T.x84.d (ZfK T) nofun (qA (BC G3 (Ay T.x77.d (UK T) nofun (qA (qv 0) (qA Aj qN))) (BC Sb Aj Aj)) (qA (qv 3) qN)))) (EO (Cw 6 QE.nd (Ay T.x86.d (ZfL T) nofun (qA (qv 3) (qA (qv 5) (qA (Ay T.x68.d (wJ T) nofun (qA (qv 4) (qA (D9 Yi T.B.list Lz (qA (qv 5) qN)) qN))) qN))))) (qC (Cw 7 QE.nd (D9 Yi T.B.list Lz (qA (qv 5) qN))) (EO (Cw 8 QE.nd (Ay T.x74.d (sO T) nofun (qA (qv 4) (qA (qv 7) qN)))) (EO (Ez ((Tf (Li (GF (Cp (nR "dict") T.B.isinstance YT (qA (qv 8) (qA (mO T.B.dict LA) qN))))) (Tf (AX (zR (O1 hr)) (qv 8) (qv 6)) (VF (AX (VC (Jz hr)) (qv 7) (qv 5)))))).pt (qO (CC T8)) qE) (EO (KG AK rfl (JP (qv 5)) (MM (i:=9) QE.nd rfl (BX rfl)) (qO (E3 (JX AN Bi Bh QJ (Fg (J2 hr) (qv 8) (qv 9) (λ_ _=>rfl)) (qA (Be Hr (qv 5) Aj) qN))))) (EO (KG AK rfl (JP (qv 5)) (MM (i:=9) QE.nd rfl (BX rfl)) (qO (Ez (AX (VC (Jz hr)) (Fg (J2 hr) (qv 8) (qv 9) (λ_ _=>rfl)) (BC ZV (Fg (J2 hr) (qv 6) (qv 9) (λ_ _=>rfl)) (HA (qA (Be Hr (qv 5) Aj) qN)))) (qO (CC T8)) qE))) (qO (CC (RP (Jx (zP (O1 hr)) (Ay T.x74.d (sO T) nofun (qA (qv 4) (qA (qv 7) qN))) (qv 6)) (NQ (Jx (hU (Jz hr)) (qv 7) (qv 5))))))))))))))),?_⟩
 (try simp only[MC,Mz,MA])
 refine⟨λτ M'=>∃wk:Wk,wk.Ok/\τ=[some (.lst (ns.map D.int)),some (.lst (wk.bs.map E2)),some (.lst (wk.ds.map G1)),some (.lst (wk.rs.map Ga)),none,none,none,none,none,none],?_,?_⟩
 .grind;refine⟨ns,[3,3,64,3,64],rfl,rfl,⟨2,rfl,by decide,by decide⟩,⟨rfl,by decide⟩,λwk wx=>⟨wk,wx.ok,rfl⟩⟩
 rintro τ M1 ⟨wk,ok,rfl⟩;have l8:=ok.r.1;refine⟨λτ M'=>τ=[some (.lst (ns.map D.int)),some (.lst (wk.bs.map E2)),some (.lst (wk.ds.map G1)),some (.lst (wk.rs.map Ga)),some wk.D,none,none,none,none,none],?_,?_⟩
 .grind;refine⟨wk,_,ok,rfl,rfl,rfl,by rw[Ab],λi x r hx hr=>?_,rfl⟩;rw[AH,hr]at hx;cases hx;exact⟨_,rfl,rfl⟩
 rintro τ M2 rfl;refine⟨λτ M'=>∃zs:List Str,zs.Perm wk.nms/\τ=[some (.lst (ns.map D.int)),some (.lst (wk.bs.map E2)),some (.lst (wk.ds.map G1)),some (.lst (wk.rs.map Ga)),some wk.D,some (.lst (zs.map D.str)),none,none,none,none],?_,?_⟩
 .grind;exact λz=>⟨⟨by decide,by decide,by decide⟩,wk.rs,rfl,l8,by ext,λzs pm=>⟨zs,pm,rfl⟩⟩
 rintro τ M3 ⟨zs,pm,rfl⟩;have lz:(D3 wk zs).length<=100:=AZ (jZ (by rw[pm.length_eq,Ab];exact l8)) (by decide);have ll:zs.length<=8:=by rw[pm.length_eq,Ab];exact l8
 have nd:wk.nms.Nodup:=by have:=ZU ok;rwa[KW]at this
 refine⟨λτ M'=>τ=[some (.lst (ns.map D.int)),some (.lst (wk.bs.map E2)),some (.lst (wk.ds.map G1)),some (.lst (wk.rs.map Ga)),some wk.D,some (.lst (zs.map D.str)),some (.dic (Kr (Zw wk zs (D3 wk zs)))),none,none,none],?_,?_⟩
 .grind;refine⟨wk,zs,rfl,rfl,ok,pm,wk,zs,_,rfl,rfl,rfl,ok,pm,lz,?_⟩;rw[zM ok]
 rintro τ M4 rfl
 have gl:∀n,(PB wk zs (D3 wk zs) n).length<=8:=λn=>by
  unfold PB;exact AZ (Cu _ _) (by rw[Ab];exact l8)
 have eK:Zw wk zs (D3 wk zs)=wk.nms.map λn=>(n,PB wk zs (D3 wk zs) n):=rfl;rw[eK];generalize eg:PB wk zs (D3 wk zs)=g at gl ⊢;generalize eB:D.lst (wk.bs.map E2)=B1;generalize eD:D.lst (wk.ds.map G1)=D1;generalize eR:D.lst (wk.rs.map Ga)=R1;generalize eN:D.lst (ns.map D.int)=N1;generalize eW:wk.D=W1;grind;refine⟨λτ M'=>(∃f,L4 M4 M' g wk.nms f/\τ=[some N1,some B1,some D1,some R1,some W1,some (.lst (zs.map D.str)),some (.dic (Kr (wk.nms.map λn=>(n,g n)))),some (.lst (zs.map D.str)),some (.dic (ME wk.nms f)),none]),?_,?_⟩
 .grind;exact⟨wk,zs,eW.symm,rfl,ok,pm,λf M' h=>⟨f,eg ▸ h,rfl⟩⟩
 rintro τ M5 ⟨f,hf,rfl⟩;refine⟨λτ M'=>M'=M5/\τ=[some N1,some B1,some D1,some R1,some W1,some (.lst (zs.map D.str)),some (.dic (Kr (wk.nms.map λn=>(n,g n)))),some (.lst (zs.map D.str)),some (.dic (ME wk.nms f)),none],?_,?_⟩
 .grind;refine⟨hf.eq,?_⟩
  (try grind)
  rw[aO,BR];trivial
 rintro τ M6 ⟨rfl,rfl⟩;generalize hz0:zs.headD "" = z0
 have R5:∀{k:Nat} {n:Str},zs[k]? = some n->FG (zs.map D.str) 0=some (.str z0):=λ{k n} h=>by
  cases zs with
  |nil=>cases h
  |cons a l=>cases hz0;exact OE (j:=0) rfl
 refine⟨λτ M'=>∃a,L4 M4 M' (λn=>g n++[z0]) wk.nms f/\τ=[some N1,some B1,some D1,some R1,some W1,some (.lst (zs.map D.str)),some (.dic (Kr (wk.nms.map λn=>(n,g n)))),some (.lst (zs.map D.str)),some (.dic (ME wk.nms f)),a],?_,?_⟩
 .grind;refine⟨λk τ M'=>∃a,L4 M4 M' (λn=>if n∈zs.take k then g n++[z0]else g n) wk.nms f/\τ=[some N1,some B1,some D1,some R1,some W1,some (.lst (zs.map D.str)),some (.dic (Kr (wk.nms.map λn=>(n,g n)))),some (.lst (zs.map D.str)),some (.dic (ME wk.nms f)),a],⟨none,hf.cg λa _=>by simp,rfl⟩,λ_ _ _ _=>trivial,?_,?_⟩
  .rintro k y τ M' hy ⟨a,h,rfl⟩;obtain⟨n,hn,rfl⟩:=LW hy;have mn:=pm.mem_iff.mp (Aw hn);grind;rw[pB nd mn,BR,R5 hn,BR,VL (h.n n mn).2];refine⟨Ix (h.n n mn).2,BU (by rw[Ab];have:=gl n;split<;>simp<;>ext),_,?_,rfl⟩;have et:zs.take (k+1)=zs.take k++[n]:=by rw[A8,hn];rfl
   have fr:n∉zs.take k:=λh=>by
    have h2:=(Gv (k+1) zs).nodup (pm.nodup_iff.mpr nd);rw[et]at h2;exact(BJ.mp h2).2.2 n h n (AL.mpr rfl) rfl
   have:=h.set mn (ys:=g n++[z0]);rw[if_neg fr];rw[AI]at this;refine this.cg λa ha=>?_;rw[et];by_cases c:a=n
   .rw[if_pos c,c,if_pos (AT.mpr (.inr AF))]
   .rw[if_neg c];simp[c]
  .rintro τ M' ⟨a,h,rfl⟩;rw[Ab,Bc]at h;exact⟨a,h.cg λa ha=>by rw[if_pos (pm.mem_iff.mpr ha)],rfl⟩
 rintro τ M6 ⟨a,h6,rfl⟩;refine⟨λτ M'=>∃a,L4 M4 M' (λn=>g n++[z0]) wk.nms f/\τ=[some N1,some B1,some D1,some R1,some W1,some (.lst (zs.map D.str)),some (.dic (Kr (wk.nms.map λn=>(n,g n)))),some (.lst (zs.map D.str)),some (.dic (ME wk.nms f)),a],?_,?_⟩
 .grind;refine⟨λk τ M'=>∃a,L4 M4 M' (λn=>g n++[z0]) wk.nms f/\τ=[some N1,some B1,some D1,some R1,some W1,some (.lst (zs.map D.str)),some (.dic (Kr (wk.nms.map λn=>(n,g n)))),some (.lst (zs.map D.str)),some (.dic (ME wk.nms f)),a],⟨a,h6,rfl⟩,λ_ _ _ _=>trivial,?_,λτ M' h=>h⟩;rintro k y τ M' hy ⟨a,h,rfl⟩;obtain⟨n,hn,rfl⟩:=LW hy;have mn:=pm.mem_iff.mp (Aw hn);grind;have lf:Bf M' (.ref (f n))=some ((g n++[z0]).map D.str):=by simp only[Bf,(h.n n mn).2]
  rw[pB nd mn,BR,ei nd mn,BR,R5 hn,BR,show Bf M' (.lst ((g n).map D.str))=some ((g n).map D.str)from rfl,BR];refine⟨GD (by rw[Ab];have:=gl n;ext),?_⟩;rw[oY,lf,BR,show Bf M' (.lst ((g n).map D.str++[D.str z0]))=some ((g n++[z0]).map D.str) by rw[AI];rfl,BR,aO,BR];exact⟨_,h,rfl⟩
 rintro τ M7 ⟨a,h7,rfl⟩;grind;refine⟨wk,zs,eW.symm,rfl,ok,pm,λf M' h=>?_⟩;rw[eg]at h;refine⟨h.eq,?_⟩;rw[aO,BR];exact Dn.of (q _)
end
end My
namespace My
open PySem PySem.W PyProof.Rows
open L2 (R3 NZ IP D6)
noncomputable abbrev Ud:Ai:=.str "beatwright.words" 335
noncomputable abbrev NX:Ai:=.str "beatwright.terms" 383
noncomputable abbrev Nd:Ai:=.str "beatwright.dims" 551
noncomputable abbrev PC:Ai:=.str "beatwright.works" 682
noncomputable abbrev Lj:Ai:=.str "beatwright.papers" 789
noncomputable abbrev Vr:Ai:=.str "beatwright.clashes" 968
noncomputable abbrev Uc:Ai:=.str "beatwright.orders" 1013
noncomputable abbrev Zy:Ai:=.str "beatwright.plans" 1058
noncomputable abbrev OZ:Ai:=.str "law_beatwright_k41_needs" 1090
def Ta (s:DG):Str:=match s with
 |.FunctionDef n _ _ _ _ _ _ _ _ _=>n
 |.ClassDef n _ _ _ _ _ _ _ _ _ _=>n
 |.Assign [.Name n _] _ _=>n
 |_=>""
def mV (s:DG):Nat:=match s with
 |.FunctionDef _ _ _ _ _ _ _ _ _ p=>p.line
 |_=>0
noncomputable abbrev kE (P:Kh)(n:Str)(t:Nat)(v:Ai):HZ:=⟨PyData.keyHash P n,.str n t,v⟩
noncomputable abbrev kR (P:Kh)(n:Str)(t b:Nat):HZ:=kE P n t (.ref b)
abbrev fk (u:Nat):Nat:=bif u == 3 then 3 else 5
noncomputable abbrev fF (n q:Str)(s:DG)(m:Ai)(c:Nat):DH:=fnOf n q (R3 s) (NZ s) (IP s) .none .none .none m none (.ref c) .none
noncomputable abbrev fO (n q:Str)(s:DG)(m:Ai)(c:Nat):Obj:=⟨.type "function",none,.func (fF n q s m c),#[]⟩
noncomputable abbrev cO (n q:Str)(s:DG)(u b t:Nat):Obj:=⟨.type "code",none,.fields #[.str n t,.str q (t+1),.str "/claim/cut.py" (t+2),.int (mV s) 0,.int (R3 s).args.length 0,.int 0 0,.int 0 0,.int 3 0,.ref b,.bool true,.int 181 0,.ref (b+1),.none,bif u == 3 then .none else .ref (b+2),bif u == 3 then .none else .ref (b+3),.ref (bif u == 3 then b+2 else b+4),.int (t+u:Nat) 0,.int (mV s) 0,.str "/claim/cut.py" (t+u+1)],#[]⟩
def fR (m:Ai):List Nat->Nat->Nat->Nat->WE->WE
 |[],_,_,_,l=>l
 |u::us,i,b,t,l=>(b+fk u,cO (Ta (Dt i)) (Ta (Dt i)) (Dt i) u b t)::(b+fk u+1,fO (Ta (Dt i)) (Ta (Dt i)) (Dt i) m (b+fk u))::fR m us (i+1) (b+fk u+2) (t+u+3) l
def fA:List Nat->Nat->List Nat->List Nat
 |[],_,l=>l
 |u::us,b,l=>(b+fk u)::(b+fk u+1)::fA us (b+fk u+2) l
def fD (P:Kh):List Nat->Nat->Nat->Nat->List HZ->List HZ
 |[],_,_,_,l=>l
 |u::us,i,b,t,l=>kR P (Ta (Dt i)) (t+u+2) (b+fk u+1)::fD P us (i+1) (b+fk u+2) (t+u+3) l
def mR (m:Ai)(k:Nat):List Nat->List Str->Nat->Nat->Nat->WE->WE
 |u::us,q::qs,j,b,t,l=>(b+fk u,cO (Ta (tm k j)) q (tm k j) u b t)::(b+fk u+1,fO (Ta (tm k j)) q (tm k j) m (b+fk u))::mR m k us qs (j+1) (b+fk u+2) (t+u+3) l
 |_,_,_,_,_,l=>l
abbrev dX:List Nat:=[4,5,4,5,5,3]
abbrev dU:List Nat:=[4,8,7,3,5,5,6,6,4,5,6,5,7,3]
abbrev dS:List Nat:=[3,4,9,3,6,6,4,6,4,11,5,6,6,5,6]
abbrev dR:List Nat:=[3,6,3,5,5,9,8,11,6,3,3]
abbrev dQ:List Nat:=[10,5,5,3]
abbrev mL:List Nat:=[8,5,4,5,9,7,8,4,5,6,4,3]
abbrev dP:List Nat:=[10]
abbrev dO:List Nat:=[3,5,5,7,8]
abbrev dN:List Nat:=[3,5,3,6,3,5]
abbrev dM:List Nat:=[5,3,13]
abbrev T1:List Nat:=[5,4,10,3,3,10,20]
abbrev T0:List Nat:=[3,7,3,13]
noncomputable abbrev pP (P:Kh):Array HZ:=#[kE P "num" 389 (.int (0) 390),kE P "box" 391 (.int (0) 392),kE P "late" 393 (.int (0) 394),kE P "door" 395 (.int (0) 396),kE P "not" 397 (.int (1) 398),kE P "and" 399 (.int (2) 400),kE P "or" 401 (.int (2) 402),kE P "xor" 403 (.int (2) 404),kE P "plus" 405 (.int (2) 406),kE P "minus" 407 (.int (2) 408),kE P "less" 409 (.int (2) 410),kE P "same" 411 (.int (2) 412),kE P "pick" 413 (.int (3) 414),kE P "join" 415 (.int (2) 416),kE P "part" 417 (.int (1) 418)]
noncomputable def hK (P:Kh):WE:=((3:Av),(⟨(.type "dict"),none,.dict ⟨kE P "__name__" 165 (.str "law_beatwright_k41_needs" 1090)::kE P "__doc__" 166 .none::kE P "__package__" 167 .none::kE P "__loader__" 168 (.builtin "__main__.__loader__#opaque")::kE P "__spec__" 169 .none::kR P "__annotations__" 170 6::kR P "__builtins__" 171 4::kE P "__file__" 173 (.str "/claim/cut.py" 172)::kE P "__cached__" 174 .none::kR P "BeatError" 206 24::kR P "NoName" 222 37::kR P "Twice" 238 49::kR P "NoWidth" 254 61::kR P "NoWord" 270 73::kR P "TooMany" 286 85::kR P "Unknown" 302 97::kR P "Unlike" 318 109::kR P "NoOrder" 334 121::kE P "WIDEST" 338 (.int (64) 337)::fD P dX 12 124 339 ( kE P "MOST_PARTS" 386 (.int (100) 385)::kE P "MOST_DEEP" 388 (.int (12) 387)::kR P "HELD" 434 164::fD P dU 22 165 435 ( fD P dS 37 259 553 ( kE P "MOST_BOXES" 685 (.int (12) 684)::kE P "MOST_DOORS" 687 (.int (6) 686)::kE P "MOST_RULES" 689 (.int (8) 688)::kE P "MOST_WRITES" 691 (.int (6) 690)::kE P "LONGEST_NAME" 693 (.int (8) 692)::fD P dR 58 360 694 ( kE P "MOST_CUBES" 792 (.int (64) 791)::fD P dQ 71 429 793 ( kR P "Known" 954 546::fD P dP 76 551 955 ( fD P dO 78 558 970 ( fD P dN 84 591 1015 ( fD P dM 91 627 1060 ( fD P T1 95 646 1092 ( kR P "_law_words" 1177 697::fD P T0 103 698 1178 ( [])))))))))))⟩ 106,#[]⟩:Obj))::fR Ud dX 12 124 339 ( ((164:Av),(⟨.type "dict",none,.dict (pP P) 15,#[]⟩:Obj))::fR NX dU 22 165 435 ( fR Nd dS 37 259 553 ( fR PC dR 58 360 694 ( fR Lj dQ 71 429 793 ( mR Lj 75 mL ["Known.__init__", "Known.learn", "Known.forget", "Known.know", "Known.go_on", "Known.settled_at", "Known.put", "Known.turn", "Known.guard_marks", "Known.guard_mark", "Known.both_words", "Known.low_words"] 0 462 840 ( ((545:Av),(⟨(.type "dict"),none,.dict #[kE P "__module__" 835 (.str "beatwright.papers" 789),kE P "__firstlineno__" 839 (.int (283) 838),kR P "__init__" 850 468,kR P "learn" 858 475,kR P "forget" 865 482,kR P "know" 873 489,kR P "go_on" 885 496,kR P "settled_at" 895 503,kR P "put" 906 510,kR P "turn" 913 517,kR P "guard_marks" 921 524,kR P "guard_mark" 930 531,kR P "both_words" 937 538,kR P "low_words" 943 543,kR P "__static_attributes__" 947 544,kR P "__dict__" 949 547,kR P "__weakref__" 951 548,kE P "__doc__" 952 .none] 4,#[]⟩:Obj))::((546:Av),(⟨(.type "type"),none,.cls {name:="Known",bases:=[(.type "object")],mro:=[(.ref 546),(.type "object")],ns:=545,qualname:="Known",hasDict:=true,slotNames:=[],subclasses:=[],abstract:=false,collection:=none,hasDel:=false},#[none,none,some (.str "Known" 828),some (.str "Known" 836),some (.builtin "object.__new__"),some (.bool true)]⟩:Obj))::fR Lj dP 76 551 955 ( fR Vr dO 78 558 970 ( fR Uc dN 84 591 1015 ( fR Zy dM 91 627 1060 ( fR OZ T1 95 646 1092 ( fR OZ T0 103 698 1178 ( []))))))))))))
noncomputable def has:List Av:=3::fA dX 124 ( 164::fA dU 165 ( fA dS 259 ( fA dR 360 ( fA dQ 429 ( fA mL 462 ( 545::546::fA dP 551 ( fA dO 558 ( fA dN 591 ( fA dM 627 ( fA T1 646 ( fA T0 698 ( []))))))))))))
def lo (p:Bq):List Str:=[(1,9),(11,7),(19,17),(37,15),(53,16),(70,7),(78,5),(84,6),(91,3),(95,11)].flatMap λx=>((p.main.body.drop x.1).take x.2).map Ta
noncomputable def hq:Bq:=view Bz [106]
noncomputable def hloose:List Str:=lo Bz
noncomputable def hXt (q:Bq)(s:Ar):Bool:=xlAt q [] s && recOk [] s
noncomputable def hrun (H₀:Kh->CV)(p q:Bq)(w:BM)(os:Vh):=SH.whole (H₀ w.params) p q (lo p) (hXt q) (λs=>has.map s.heap.get?) 11 (some (.ref 6)) 5328 w os
noncomputable def hgood (K:Kh->WE)(p q:Bq)(w:BM):=some (true,openGood q (lo p),(K w.params).map λp=>some p.2)
theorem hrun_self:hrun=hrun:=rfl
theorem hgood_self:hgood=hgood:=rfl
lay_quick My.hrun My.hgood
name_quick hrunQ for My.hrun by My.hrun_self
name_quick hgoodQ for My.hgood by My.hgood_self
theorem zc (w:BM):(λos=>PySem.W.Fast.hrunQ Er Bz hq (w.withFollow "special-get-raises" false) os)=λ_=>PySem.W.Fast.hgoodQ hK Bz hq (w.withFollow "special-get-raises" false):=by kernel_rfl
theorem yj (w:BM):(λos=>PySem.W.Fast.hrunQ Er Bz hq (w.withFollow "special-get-raises" true) os)=λ_=>PySem.W.Fast.hgoodQ hK Bz hq (w.withFollow "special-get-raises" true):=by kernel_rfl
theorem yi:∀w:BM,(λos=>PySem.W.Fast.hrunQ Er Bz hq w os)=λ_=>PySem.W.Fast.hgoodQ hK Bz hq w:=byRow2 "special-get-raises" zc yj
noncomputable def hYf (s:Ar):List (Option Obj):=has.map s.heap.get?
noncomputable def hYa (w:BM):List (Option Obj):=(hK w.params).map λp=>some p.2
theorem ws_self:OL=OL:=rfl
lay_quick PySem.W.OpenLaw.wellSaid
name_quick wsQ for PySem.W.OpenLaw.wellSaid by My.ws_self
theorem hsaid:PySem.W.Fast.wsQ HQ=true:=by kernel_rfl
theorem hleft:LeftO Bz hq hloose (hXt hq) hYf hYa 11356:=SH.left_of (Yf:=hYf) (Ya:=hYa) (M:=5328) (n₀:=11) (ann:=(some (.ref 6))) (by kernel_rfl) (by decide) (λs=>by kernel_rfl) (λP=>by kernel_rfl) (λw=>by kernel_rfl) (by decide) λw os=>(congrFun (congrFun (congrFun (congrFun (congrFun PySem.W.Fast.hrunQ_eq _) _) _) w) os).trans ((congrFun (yi w) os).trans (congrFun (congrFun (congrFun (congrFun PySem.W.Fast.hgoodQ_eq _) _) _) w).symm)
structure Hd (w:BM)(n:Str)(s:DG)(c:Nat)(m:Ai):Prop where
 a:nsIn (hK w.params) BW n=some (some (.ref (c+1)))
 l:(hK w.params).lookup (c+1)=some (fO n n s m c)
 o:codeIn (hK w.params) (.ref c) n=true
 k:keepIn (hK w.params) (.ref (c+1))=true
structure Hm (w:BM)(C:Av)(n q:Str)(s:DG)(c:Nat)(m:Ai):Prop where
 a:findIn (hK w.params) (.ref C) n=some (some (.ref (c+1)))
 i:isFn (hK w.params) (.ref (c+1))=true
 l:(hK w.params).lookup (c+1)=some (fO n q s m c)
 o:codeIn (hK w.params) (.ref c) q=true
 k:keepIn (hK w.params) (.ref (c+1))=true
theorem NJ {α:Type}{us:List α}{n:Nat}(h:us.length=n+1):∃a t,us=a::t/\t.length=n:=by
 cases us with
 |nil=>cases h
 |cons a t=>exact⟨a,t,rfl,GJ h⟩
theorem S4 {fd:DH}{ps:List Str}{us:List Ai}(hl:us.length=1)(h:∀a0,En fd ⟨[a0],[]⟩=pure (ps.zip [a0])):En fd ⟨us,[]⟩=pure (ps.zip us):=by
 obtain⟨a0,u0,rfl,l0⟩:=NJ hl;cases AG l0;exact h a0
theorem S3 {fd:DH}{ps:List Str}{us:List Ai}(hl:us.length=2)(h:∀a0 a1,En fd ⟨[a0,a1],[]⟩=pure (ps.zip [a0,a1])):En fd ⟨us,[]⟩=pure (ps.zip us):=by
 obtain⟨a0,u0,rfl,l0⟩:=NJ hl;obtain⟨a1,u1,rfl,l1⟩:=NJ l0;cases AG l1;exact h a0 a1
theorem S2 {fd:DH}{ps:List Str}{us:List Ai}(hl:us.length=3)(h:∀a0 a1 a2,En fd ⟨[a0,a1,a2],[]⟩=pure (ps.zip [a0,a1,a2])):En fd ⟨us,[]⟩=pure (ps.zip us):=by
 obtain⟨a0,u0,rfl,l0⟩:=NJ hl;obtain⟨a1,u1,rfl,l1⟩:=NJ l0;obtain⟨a2,u2,rfl,l2⟩:=NJ l1;cases AG l2;exact h a0 a1 a2
theorem S1 {fd:DH}{ps:List Str}{us:List Ai}(hl:us.length=4)(h:∀a0 a1 a2 a3,En fd ⟨[a0,a1,a2,a3],[]⟩=pure (ps.zip [a0,a1,a2,a3])):En fd ⟨us,[]⟩=pure (ps.zip us):=by
 obtain⟨a0,u0,rfl,l0⟩:=NJ hl;obtain⟨a1,u1,rfl,l1⟩:=NJ l0;obtain⟨a2,u2,rfl,l2⟩:=NJ l1;obtain⟨a3,u3,rfl,l3⟩:=NJ l2;cases AG l3;exact h a0 a1 a2 a3
theorem S0 {fd:DH}{ps:List Str}{us:List Ai}(hl:us.length=5)(h:∀a0 a1 a2 a3 a4,En fd ⟨[a0,a1,a2,a3,a4],[]⟩=pure (ps.zip [a0,a1,a2,a3,a4])):En fd ⟨us,[]⟩=pure (ps.zip us):=by
 obtain⟨a0,u0,rfl,l0⟩:=NJ hl;obtain⟨a1,u1,rfl,l1⟩:=NJ l0;obtain⟨a2,u2,rfl,l2⟩:=NJ l1;obtain⟨a3,u3,rfl,l3⟩:=NJ l2;obtain⟨a4,u4,rfl,l4⟩:=NJ l3;cases AG l4;exact h a0 a1 a2 a3 a4
section
variable {w:BM}{h:CV}{mg:Str->Option Ai}
noncomputable def hd {n:Str}{s:DG}{ps:List Str}(c:Nat)(m:Ai)(X:(hK w.params).In h:=by assumption)(G:h.Ns BW mg:=by assumption)(H:Hd w n s c m:=by exact⟨by kernel_rfl,by kernel_rfl,by kernel_rfl,by kernel_rfl⟩)
  (b:∀(kV dc pm:Ai) (an:Option Av) (cd ct:Ai) (us:List Ai),us.length=ps.length->En (fnOf n n (R3 s) (NZ s) (IP s) .none kV dc pm an cd ct) ⟨us,[]⟩=pure (ps.zip us):=by intro _ _ _ _ _ _ us h;first | exact S4 h (λ_=>rfl) | exact S3 h (λ_ _=>rfl) | exact S2 h (λ_ _ _=>rfl) | exact S1 h (λ_ _ _ _=>rfl) | exact S0 h (λ_ _ _ _ _=>rfl)):DF (hK w.params) mg n s ps:=
 ⟨c+1,fF n n s m c,L2.fun_mk (st:=s) H.l H.o H.k,(L2.fun_mk (st:=s) H.l H.o H.k).binds b,mg_of X G H.a⟩
noncomputable def PF {n q:Str}{s:DG}{ps:List Str}{C:Av}(c:Nat)(m:Ai)(H:Hm w C n q s c m:=by exact⟨by kernel_rfl,by kernel_rfl,by kernel_rfl,by kernel_rfl,by kernel_rfl⟩)
  (b:∀(kV dc pm:Ai) (an:Option Av) (cd ct:Ai) (us:List Ai),us.length=ps.length->En (fnOf n q (R3 s) (NZ s) (IP s) .none kV dc pm an cd ct) ⟨us,[]⟩=pure (ps.zip us):=by intro _ _ _ _ _ _ us h;first | exact S4 h (λ_=>rfl) | exact S3 h (λ_ _=>rfl) | exact S2 h (λ_ _ _=>rfl) | exact S1 h (λ_ _ _ _=>rfl) | exact S0 h (λ_ _ _ _ _=>rfl)):DM (hK w.params) C n q s ps:=
 ⟨c+1,fF n q s m c,L2.fun_mk (st:=s) H.l H.o H.k,(L2.fun_mk (st:=s) H.l H.o H.k).binds b,⟨H.a,H.i,H.k⟩⟩
theorem hs {n:Str}{v:Ai}(X:(hK w.params).In h)(G:h.Ns BW mg)(e:nsIn (hK w.params) BW n=some (some v):=by kernel_rfl):mg n=some v:=mg_of X G e
theorem hn {n:Str}(X:(hK w.params).In h)(G:h.Ns BW mg)(e:nsIn (hK w.params) BW n=some none:=by kernel_rfl):mg n=none:=mg_none_of X G e
end
theorem qr (w:BM):L2.TabOk (hK w.params) w 164 QK:=⟨pP w.params,15,by kernel_rfl,by k_keys,λx v e=>by
 have m:=L2.lookup_mem e;unfold QK at m;simp only[By,QX,AS,or_false]at m;rcases m with⟨rfl,rfl⟩|⟨rfl,rfl⟩|⟨rfl,rfl⟩|⟨rfl,rfl⟩|⟨rfl,rfl⟩|⟨rfl,rfl⟩|⟨rfl,rfl⟩|⟨rfl,rfl⟩|⟨rfl,rfl⟩|⟨rfl,rfl⟩|⟨rfl,rfl⟩|⟨rfl,rfl⟩|⟨rfl,rfl⟩|⟨rfl,rfl⟩|⟨rfl,rfl⟩
 .exact⟨390,by kernel_rfl⟩
 .exact⟨392,by kernel_rfl⟩
 .exact⟨394,by kernel_rfl⟩
 .exact⟨396,by kernel_rfl⟩
 .exact⟨398,by kernel_rfl⟩
 .exact⟨400,by kernel_rfl⟩
 .exact⟨402,by kernel_rfl⟩
 .exact⟨404,by kernel_rfl⟩
 .exact⟨406,by kernel_rfl⟩
 .exact⟨408,by kernel_rfl⟩
 .exact⟨410,by kernel_rfl⟩
 .exact⟨412,by kernel_rfl⟩
 .exact⟨414,by kernel_rfl⟩
 .exact⟨416,by kernel_rfl⟩
 .exact ⟨418,by kernel_rfl⟩⟩
theorem all_mk {P:Bq}{w:BM}{h:CV}{mg:Str->Option Ai}{fa:Av}(X:(hK w.params).In h)(G:h.Ns BW mg)(hfa:mg "law" = some (.ref fa)):∃fd:DH,(∀(s:Ar) (v:Ai),MY s fd ⟨[v],[]⟩ [("script",v)])/\∀base:CV,(hK w.params).In base->base.Ns BW mg->L2.FnOk P w (hK w.params) mg base L2.CX0 50 fa fd ["script"] (L3.lSp (hK w.params) L3.spLaw2):=by
 have e:=hfa.symm.trans (hs X G (v:=.ref 721));cases e
 let T:Tx (hK w.params) w mg:=⟨546,
  ⟨by kernel_rfl,by kernel_rfl,by kernel_rfl,by kernel_rfl⟩,
  hs X G,
  (show D6 _ _ _ by unfold D6;kernel_rfl),
  (show D6 _ _ _ by unfold D6;kernel_rfl),
  (show D6 _ _ _ by unfold D6;kernel_rfl),
  hd 129 Ud,
  hd 136 Ud,
  hd 143 Ud,
  hd 150 Ud,
  hd 157 Ud,
  hd 162 Ud,
  hd 170 NX,
  hd 177 NX,
  hd 184 NX,
  hd 189 NX,
  hd 196 NX,
  hd 203 NX,
  hd 210 NX,
  hd 217 NX,
  hd 224 NX,
  hd 231 NX,
  hd 238 NX,
  hd 245 NX,
  hd 252 NX,
  hd 257 NX,
  hd 262 Nd,
  hd 269 Nd,
  hd 276 Nd,
  hd 281 Nd,
  hd 288 Nd,
  hd 295 Nd,
  hd 302 Nd,
  hd 309 Nd,
  hd 316 Nd,
  hd 323 Nd,
  hd 330 Nd,
  hd 337 Nd,
  hd 344 Nd,
  hd 351 Nd,
  hd 358 Nd,
  hd 363 PC,
  hd 370 PC,
  hd 375 PC,
  hd 382 PC,
  hd 389 PC,
  hd 396 PC,
  hd 403 PC,
  hd 410 PC,
  hd 417 PC,
  hd 422 PC,
  hd 427 PC,
  hd 434 Lj,
  hd 441 Lj,
  hd 448 Lj,
  hd 453 Lj,
  PF 467 Lj,
  ⟨by kernel_rfl,by kernel_rfl,by kernel_rfl,by kernel_rfl⟩,
  PF 474 Lj,
  PF 481 Lj,
  PF 488 Lj,
  PF 495 Lj,
  PF 502 Lj,
  PF 509 Lj,
  PF 516 Lj,
  PF 523 Lj,
  PF 530 Lj,
  PF 537 Lj,
  PF 542 Lj,
  hd 556 Lj,
  hd 561 Vr,
  hd 568 Vr,
  hd 575 Vr,
  hd 582 Vr,
  hd 589 Vr,
  hd 594 Uc,
  hd 601 Uc,
  hd 606 Uc,
  hd 613 Uc,
  hd 618 Uc,
  hd 625 Uc,
  hd 632 Zy,
  hd 637 Zy,
  hd 644 Zy,
  hd 651 OZ,
  hd 658 OZ,
  hd 665 OZ,
  hd 670 OZ,
  hd 675 OZ,
  hd 682 OZ,
  hd 689 OZ,
  hd 701 OZ,
  hd 708 OZ,
  hd 713 OZ,
  hd 720 OZ,
  _,
  hs X G (v:=(.int (64) 337)),
  _,
  hs X G (v:=(.int (100) 385)),
  _,
  hs X G (v:=(.int (12) 387)),
  _,
  hs X G (v:=(.int (12) 684)),
  _,
  hs X G (v:=(.int (6) 686)),
  _,
  hs X G (v:=(.int (8) 688)),
  _,
  hs X G (v:=(.int (6) 690)),
  _,
  hs X G (v:=(.int (8) 692)),
  _,
  hs X G (v:=(.int (64) 791)),
  164,
  hs X G,
  qr w,
  ⟨hn X G,hn X G,hn X G,hn X G,hn X G,hn X G,hn X G,hn X G,hn X G,hn X G,hn X G,hn X G,hn X G,hn X G,hn X G,hn X G,hn X G,hn X G⟩⟩
 exact⟨_,λs v=>.of_eq rfl,λbase _ _=>ib T⟩
end My
open PySem PySem.W PyProof.Rows
set_option maxRecDepth 100000 in
set_option maxHeartbeats 0 in
theorem PySem.Challenge.cw_beatwright_k41_needs_holds : PySem.Challenge.rw_beatwright_k41_needs.Holds := by
 refine holds_law ((congrFun PySem.W.Fast.wsQ_eq _).trans My.hsaid) λsaid=>?_;refine PySem.W.holds_open (q:=My.hq) (loose:=My.hloose) (Xt:=My.hXt My.hq) (XP:=XL My.hq []) (Yf:=My.hYf) (Ya:=My.hYa) (YP:=InK My.hK) (N:=11356) My.hleft (InK.of λ_=>by kernel_rfl) InK.keeps (λs e=>xl_of s (Bool.and_eq_true_iff.mp e).1) XL.keeps (by rfl) (by rfl) (by rfl) (λs e=>recFacts_of (Bool.and_eq_true_iff.mp e).2) (by rfl) (by first | assumption | nofun) (by nofun) ⟨rfl,rfl,rfl,rfl,rfl,by nofun⟩ ?hw ?hc
 case hw=>w_witness2
 refine L3.walk2 (l:=rw_beatwright_k41_needs) (k:=50) rfl rfl ⟨rfl,by decide,by decide⟩ (λw h Y=>Y) ?F;intro w mg fa h KX G hmg;exact My.all_mk KX G hmg
#print axioms PySem.Challenge.cw_beatwright_k41_needs_holds
