import PyProof.Rows.All
import Wide.All
import OpenK.AllK
import Wide.FinOn
import Lean
import PyProof.EqAt
import PyProof.EqKinds
import PyProof.TupleCall
import PyProof.ZipIter
import PyProof.DictIter
import PyProof.DictWalks
import PyProof.CollectWalk
import PyProof.Rows.SetFrom
import PyProof.FactsAll.set_1
import PyProof.Rows.SortStr
import PyProof.DictItems
import KE.KDictList
import PyProof.AttrMissHeap
import PyProof.DictList
import KE.KDictOf
import PyProof.MeetsStr
import PyProof.StrOps2
import PyProof.EnumMake
import PyProof.Rows.EnumRows
import PyProof.SetKind
import PyProof.TupleKey
import PyProof.FactsAll.set_2
import PyProof.FactsAll.dict_3
import PyProof.FactsAll.tuple_2
import PyProof.FactsAll.tuple_3
import PySem.Challenge.RW_beatwright_k43_settling
set_option Elab.async false
set_option linter.all false
set_option maxRecDepth 100000
def Am {g:Prop}(h:¬g->False):g:=by
 false_or_by_contra
 rename_i n;exact h n
set_option compiler.extract_closed false
set_option bootstrap.genMatcherCode false
noncomputable section
theorem nG (h:True:=by rfl):True:=h
def BV:=nG._auto_1
def nF (h:True:=by decide):True:=h
def Gy:=nF._auto_1
def nE (h:True:=by intro _;rfl):True:=h
def NM:=nE._auto_1
def nA (h:True:=by first | exact .inl rfl | exact .inr rfl | assumption):True:=h
def VN:=nA._auto_1
def mZ (h:True:=by exact⟨rfl,rfl,rfl,by nofun,rfl,by nofun,by nofun⟩):True:=h
def ZS:=mZ._auto_1
def mY (h:True:=by with_unfolding_all rfl):True:=h
def tP:=mY._auto_1
def mX (h:True:=by first | exact Cd rfl | exact Im (Cd rfl) | exact Im (Im rfl)):True:=h
def tO:=mX._auto_1
def mW (h:True:=by exact nomark _):True:=h
def tM:=mW._auto_1
def mV (h:True:=by intros;rfl):True:=h
def tL:=mV._auto_1
def mT (h:True:=by assumption):True:=h
def tJ:=mT._auto_1
def ZV (h:True:=by intro _ _ _ _ _ _ us h;first | exact lenU1 h (λ_=>rfl) | exact lenU2 h (λ_ _=>rfl) | exact lenU3 h (λ_ _ _=>rfl) | exact lenU4 h (λ_ _ _ _=>rfl) | exact lenU5 h (λ_ _ _ _ _=>rfl)):True:=h
def ZW:=ZV._auto_1
def ZT (h:True:=by kernel_rfl):True:=h
def ZU:=ZT._auto_1
open List.Perm (of_eq)
local macro_rules | `(tactic| ext)=>`(tactic| first | lia | omega)
local macro_rules | `(tactic| nofun)=>`(tactic| decide +kernel)
open PySem renaming wpAny_bind->Aa,wpAny_pure->Ae,Value->Ai,sizeLine->An,starEach->Ap,Shared->As,wpAny->Au,Addr->Av,model->Ax,Spec->AA,wpAny_setState_of->A5,compareOp->Bc,scanBound->Bh,foldedSetIterable->Bn,Program->Bs,wpAny_mono->Bw,binaryOp->Bz,strKind->BC,mainGlobals->BF,World->BK,Expr->BY,wpAny_holding->B4,backTo->B5,wpAny_newObj_type->B7,boot_len->B8,wpAny_Call_Name_kw->Cb,wpAny_call_entry->Cg,wpAny_of_eq->Cn,Around->CH,attributeBase->CL,bootBuiltins->CM,Heap->CN,swapsWith->C0,assignEach->C1,Stmt->C6,wpAny_askSetting->Dq,wpAny_setField->Dt,SetTable->Dx,FuncData->Dy,codeAny_builtin->DK,wpAny_truthy_bool->DN,wpAny_storeSet_of->DO,keywordEach->DQ,codeAny->D4,cLine->D8,Paired->Eo,Builtin->Es,wpAny_passesOwn->Ey,bindArgs->Ez,mem_of_lookup->EL,wpAny_execs_nil->Fl,Keyword->Fn,sysModules->Fp,wpAny_typeOf->FE,hashStr->FL,codeAny_mono->FO,backToKw->FP,NameKind->FR,builtinLookup_eq_fast->F1,DictEntry->F6,plainId_quiet->Gh,behindInMarks->Gj,sliceBounds->Gk,holding->G6,wpAny_rule->Hi,tupleKind_room_in1->Hj,wpAny_pyIter_list->HS,sizeLine_eq->HU,wpAny_comprehension_free->HW,Params->HZ,wpAny_isInstance->Ir,wpAny_callSpecial?_slot->Is,relayAll->Iu,pickOrder->Iv,call->Ix,setsByText->IT,setAddHashed->IU,pyNext->IV,call_meets->IZ,typeLookup_type->Jn,letOwnedTupleGo->Jo,merged->JS,entryFor_alias->JV,getMethod->Kd,getItem->Ke,callerA->Kf,Scope->KG,valueAt->Ln,sub_set_self->Lp,entryFor->Lw,Operator->LA,wpAny_execs_cons->L0,wpAny_eqBool_int->L4,tupleKind->L5,setDiscardHashed->L7,rawInt->L8,assign->Mc,Builtin->Mh,IsPart->Mi,subscripted->MJ,IsRangeIter->MU,importedModules->MZ,Within->Na,unaryOp->Nv,standAt->Nw,notedBy->Nx,BindsTo->NE,wpAny_seqItems->NR,wpAny_call->NS,typeLookup->NT,typeIs_str->NU,newFunctionEnv->NY,compEnvC->N4,again->N6,PlainAttrs->Oa,setWalkUnseen->Po,call->Pq,bindL->Qf,bindC->Qg,atKey->Qh,PassesOwn->Ql,wpAny_pyNext_range_end->QI,wpAny_pyNext_list_item->QJ,wpAny_pyIter_rangeiter->QK,wpAny_Call_method_late->QM,typeOf->QN,setFind->QQ,newList->QS,isTrue->QW,wpAny_setFlight_noneW->RZ,wpAny_pyNext_list_end->R3,wpAny_notOrdered_dict->R4,wpAny_field->Sx,rule->Sy,lookup_relabel_local->Sz,callWith->SA,wpAny_binaryOp_same->TQ,wpAny_pyIter_range->UR,wpAny_Name->US,setEntries->UT,pyIter->UU,getattributeRaised->UW,builtinsNs->UX,Result->UZ,stored->U0,wpAny_pyIter_slot->Wv,wpAny_pyIter_enum->Ww,wpAny_assign_Name->Wx,wpAny_Assign_Name->Wy,table->Wz,spliced->WA,slot_list_getitem->WB,setNext->WC,leaving->WF,OsState->WL,wpAny_setScan_of->XR,wpAny_pyIter_zip->XT,wpAny_getItem_of->XU,treeTable->XV,step->XX,seqIndex?->XY,entryFor_of_tree->XZ,cellsFrom->X0,wpAny_updateSeq->bZ,wpAny_specialOf->cA,codeAny_of_tree->cC,wpAny_runValue->iT,wpAny_fieldsOf->iU,setEpoch->iX,retInt->iY,recursionLimit->iZ,isSubtype_type->jA,dictSetDefault->jC,argsOk->jD,Slot->jE,GenState->jG
open List renaming length_map->Ab,getElem?_eq_getElem->Af,getElem?_eq_some_iff->Ah,mem_map->Ao,length_append->Aq,mem_cons_self->Aw,mem_cons_of_mem->Ay,replicate->Az,mem_of_getElem?->AB,mem_singleton->AD,eq_nil_of_length_eq_zero->AH,getElem?_map->AI,map_append->AJ,length_cons->AO,mem_append->AQ,mem_cons->AR,mem_append_right->AS,not_mem_nil->AT,map_cons->AU,size_toArray->AW,length_take->A3,set_cons_succ->Ba,take_add_one->Bb,mem_filter->Bl,take_length->Bm,set_cons_zero->Bo,filterMap_cons->Bq,mem_iff_getElem?->Bt,length_replicate->Bu,append_assoc->Bv,range->Bx,lookup_cons->By,getElem?_eq_none->BA,map_map->BB,mem_cons->BD,lookup->BL,take_of_length_le->BR,all_eq_true->Ca,append_nil->Cc,length_range->Ch,nodup_append->Ci,getElem?_append_right->Cr,getD_eq_getElem?_getD->Ct,find?_cons->Cy,length_filter_le->CF,mem_range->CG,mem_append_left->CQ,mem_filterMap->CT,pairwise_map->C4,filter_append->C5,replicate_succ->C8,getElem?_append_left->C9,any_eq_true->Dh,length_singleton->Dr,pairwise_mergeSort->Du,mem_append->Dv,map_nil->DB,length->DC,mem_of_find?_eq_some->DP,filter_cons->DR,foldl_cons->DY,length_filterMap_le->D3,mergeSort_perm->D5,map_congr_left->D6,getElem?_toArray->D7,nodup_cons->Ek,nodup_append->El,mem_filter->Em,range_succ_eq_map->EI,getElem?_eq_none_iff->EM,drop_eq_getElem_cons->EN,getElem?_range->ET,cons_append->EU,all_cons->EV,eq_of_mem_replicate->E3,find?_eq_none->Fa,getElem?_cons_zero->Fd,getElem?_cons_succ->Fe,mem_singleton->Fj,any_cons->Fk,map->Fm,length_nil->Fq,take_append_drop->Fx,Nodup->FD,mem_map_of_mem->FG,ext_getElem?->FM,nodup_cons->F2,length_drop->Gn,getElem_mem->Go,length_eraseIdx_of_lt->GB,mem_of_mem_take->GO,findIdx?_eq_none_iff->GZ,reverse_cons->G4,nil_append->Hl,forIn_cons->Ho,filterMap_append->Io,nodup_nil->Iw,replicate_zero->Jq,filterMap_map->JO,getElem_map->JT,getElem_inj->JU,take_succ_eq_append_getElem->Ki,take_sublist->Kj,foldl_append->Kk,eraseIdxIfInBounds_toArray->Kv,drop_length->KH,filter_nil->KO,take_nil->Lo,map_take->Lu,idxOf_lt_length_of_mem->LB,perm_ext_iff_of_nodup->LP,take_zero->L6,drop_zero->Mb,findIdx?->MT,reverse_replicate->Ny,length_eq_one_iff->Nz,getElem?_set_self->NA,drop_eq_nil_of_le->NB,of_mem_zip->NX,drop_nil->N3,erase_of_not_mem->Ob,contains_iff_mem->Oc,cons_lt_cons_iff->Oe,reverse_reverse->O2,replicate_succ'->O3,range'->O4,mem_iff_getElem->O5,getElem?_set_ne->O6,take_succ_cons->Pw,length_reverse->Px,length_pos_iff->Py,flatMap_append->Pz,dropWhile_cons->PB,forIn_nil->Qc,pairwise_cons->Qn,mem_replicate->Qo,mem_mergeSort->Qp,map_filterMap->Qq,getElem_idxOf->Qr,getElem?_cons->Qs,map_id'->QV,all_map->QX,getElem?_set->Q3,any_eq_false->Q4,mem_reverse->R9,mem_flatten->Sa,mem_flatMap->Sb,map_reverse->Sc,range_succ->SK,length_zip->SM,idxOf_cons->SN,filter_map->SO,any_nil->WM,all_nil->WN
open PySem.W renaming Frag->Ac,emptyDict->Cz,kitOne->CU,findIn->CV,instObj->Dm,hideAll->Do,hideAll_none->En,boot_heap->ED,kia_one->EJ,keepIn->Fc,fnOf->FX,plainGet->G7,hideAll_get->HV,lookIn->HX,exmOne->HY,excIn->IL,of_hideAll->IX,hasDictIn->Ju,takerIn->Kt,callWith_K->KP,codeIn->KQ,kitx_dict->L9,nsIn->Md,isFn->Me,cellsFrom_some->Mg,plainGet_of->ML,methodCall_KW->MP,boot_drawn->N5,plainOver->OY,methodObj->OZ,handedIn->Pr,kitx_list->Qb,boot_toks->Qd,makesIn->Qj,OpenLaw->Qk,Frag->Q6,mg_of->R6,WalkO->R7,kitx_tuple->UV,SharedT->WK,findIn->jB
open PySem.Heap renaming get?_push_of_some->Ag,lt_size->Ar,get?_push_size->AC,get?_update_other->A9,SameBut->BM,get?_update_self->Ei,size_push->GC,FunFrames->LQ
open Bool renaming false_ne_true->Ak,and_eq_true->Br,eq_iff_iff->Dz,false_and->DU,and_false->DV,false_eq_true->Gi,eq_false_iff->G8,or_eq_true->IW,true_and->Jy,or_false->Jz,not_true->JA,and_true->JB,and_self->JC,noConfusion->KI,not_eq_eq_eq_not->Oh,beq_eq_decide_eq->Oi,and_eq_true_iff->O8,not_eq_true'->Q7,decide_and->SW,not_false->T2,false_or->Vb,or_true->WS
open PySem.Str renaming ofString->Al
open PySem.Value renaming ref->AE,str->Ds,int->DS,type->D0,isStrOf->Ec,none->Gp,bool->Jt,float->N7,isInt->WI,bytes->WJ
open PySem.Builtin renaming bitAnd->AF,bitOr->AM,bitXor->Bd,bitNot->Ep
open PySem.PassesOwn renaming never->AK
open Nat renaming le_refl->AL,le_trans->A4,ne_of_lt->A6,lt_of_lt_of_le->Bj,lt_of_succ_lt_succ->Dw,zero_le->Ej,lt_succ_of_lt->EB,lt_irrefl->EC,zero_add->ES,ne_of_gt->Fi,min_eq_left->Ft,min_eq_right->FF,lt_succ_self->FI,lt_of_le_of_lt->FJ,le_of_lt->FK,le_add_right->G5,lt_or_ge->Hn,succ_lt_succ->HG,add_sub_cancel_left->HH,add_le_add_left->Jw,sub_self->JR,le_succ->Kc,lt_trichotomy->Ku,min_self->Ls,reduceAdd->Nb,succ_pos->NV,sub_zero->NW,le_of_ble_eq_true->O1,mod_lt->QU,add_right_comm->Q0,succ_ne_zero->SG,succ_ne_self->SI,reduceLeDiff->SJ,not_lt_zero->TZ,mul_add->WE,le_of_eq->Yd,and_comm->Ye,div_one->dA,not_lt->jF
open PySem.F renaming plainAttrs_list->AN,type_list_append->A7,slot_list_append->A8,type_list_extend->CC,slot_list_extend->CD,slot_dict_setdefault->FQ,type_list_index->GL,slot_list_index->GN,args_dict_setdefault_3->JW,entry_dict_setdefault->Kh,slot_tuple_index->Lz,type_list_pop->MQ,slot_list_pop->MR
open Array renaming getElem?_eq_getElem->AY,length_toList->BI,getElem?_toList->Dd,getElem?_eq_none->D1,getD_eq_getD_getElem?->F7,toList_setIfInBounds->Gu,getElem?_eq_some_iff->Gv,toList_replicate->HJ,toArray_toList->IE,mem_toList_iff->IF,size_extract->IS,eq_empty_of_size_eq_zero->Kx,forIn_toList->Lv,size->LD,size_append->MK,toList_extract->Oj,getElem_toList->Ol,toList_append->O9,append_assoc->PF,toList_push->Qu,size_map->SX,toList->Vc
open Option.some renaming inj->AZ,injEq->IA
open PySem.Heap.SameBut renaming update->Be,refl->CO
open Ne renaming symm->Bk
open PySem.Challenge renaming pw_beatwright_k43_settling->Bp,rw_beatwright_k43_settling->Hk,rw_beatwright_k43_settling->U5,pw_beatwright_k43_settling->U8
open PyProof.Rows renaming callWith_type1->BG,slot_tuple_getitem->E1,callWith_builtin1->E9,envOfC->FN,bitOr_and->F5,AllBare->G9,bitAnd_pp->Iy,boot_tuple->I8,boot_list->Kg,sortedS->Lq,StrsAre->Lx,subscriptTail->Pn,boot_dict->Qe,subscriptTail_builtinR->QP,IntsAre->Q5,boot_sorted->SD,Subscript_->UY,boot_isinstance->cD,call_int_bit_length->cY,bitAnd_zero->cZ,tail_any->iV,slicePart_none->iW
open Int renaming toNat_natCast->BH,emod_lt_of_pos->BP,emod_nonneg->Co,reduceNeg->DI,reduceToNat->Eh,pow_succ->Gm,reduceLE->Gr,fdiv_eq_ediv_of_nonneg->Mj,reduceEq->Of,le_of_lt->Og,pow_pos->QR,ediv_nonneg->T1,mul_nonneg->Va,one_mul->WD,reduceAdd->WO,mul_assoc->WP,zero_add->Yi,pow_zero->Yj,ofNat_le->Yk,mul_comm->Yl,ediv_one->Ym,mul_one->dE,le_refl->dF
open PySem.Builtin.Frozenset renaming unchanged->BQ,updateFrom->Ia,isAnySet->ID,sizeOf->I9,baseOf->Ja,symmetricDifferenceUpdate->SQ,newFrom->SR,newClass->SS,merge->SU,intersection->SV
open Or renaming inl->Cd,inr->Im
open PySem.NameKind renaming free->Ce,cell->IB
open False renaming elim->Cp
open True renaming intro->Cu
open PySem.Around renaming under_plainId->CY,under->MV
open PySem.SetTable renaming below->Dc,grown->DE,eraseAt->DG,fits->EK,sizeAbove->EQ,fill->Iz,insertAt->Jp,laid->Lb,layClean->N8,roomFor->OX,relaid->Pp,fresh->Qi
open ForInStep renaming yield->Dj
open PySem.Paired renaming length->D9,snoc->U9
open PySem.Builtin.Slice renaming slicePlaces->Ed,sliceAdjust->FS,sliceApplied->Jx,slicePartIndex->Yp,sliceFields->Yq
open List.Perm renaming refl->Eg,eq_of_pairwise->Hq,swap->PC
open PySem.Builtin.Int renaming intBits->Er
open PySem.Builtin.Range renaming rangeSize->EE,rangeFitsLong->Jr,small->Lc
open Sum.inr renaming inj->EZ
open PySem.SeqAt renaming EqAt->E4,in_tupleAt->QY,in_listAt->R5
open Option renaming join_eq_some_iff->E5,map_eq_some_iff->Fg,map_some->FH,map->Hz,isSome_iff_exists->LO,join_some->Ma,map_eq_none_iff->MS,isSome_map->NZ,isSome_some->O0,getD_none->Qm
open PySem.Builtin.List renaming listExtendWith->Fu,listTooLong->Kl,listSameRef->Km,listTouch->dG,listLengthHint->dH
open Sum renaming inr->FU,inl->Ks
open PUnit renaming unit->Gq
open PySem.Calls renaming spliced_cons->Gs,spliced_nil->G0,callWith_builtin->HI,evalArgs_plain->IC,Name_function_global->LC,Constant_str->PD
open List.Pairwise renaming sublist->GP,filter->KS,nil->Yg,imp_of_mem->Yh
open Nat.succ renaming inj->He
open PySem.Obj renaming mapSeq->H9,data_mapDictKeys->Pt,data_mapFields->QZ
open PySem.SeqAt.EqAt renaming of_refs->Il,str_int->MM,int_str->MN,same->N9
open PySem.Data renaming set->IM,fields->O7
open PySem.W.OpenLaw renaming wellSaid->Jv,wellSaid->Ps
open PySem.Builtin.Dict renaming updateFrom->Kw,selfAndRest->dI,pairItems->dJ,keyAndDefault->dM,addKeywords->dN
open PySem.Manifest renaming sig_set_iterator->KR,owners->Pu
open PySem.pickOrder renaming go->Lr
open PySem.SetTable.below renaming go->Ly
open PySem.AutoSeq1 renaming wpAny_loadPart'->MY
open PySem.Heap.DictOf renaming new->NC
open PySem.Code renaming isFrame->ND,frames->Yn
open List.cons renaming inj->Qt
open Prod.mk renaming injEq->R8,inj->TW
open String renaming ofList->SE
open PySem.Shared renaming TypeIs->SF
open Std.Legacy.Range renaming size->TR,forIn_eq_forIn_range'->TU
open Prod renaming snd->TV,ext->TY
open PySem.IsRange renaming new->T0
open PySem.Walks renaming range->WG,list->X1
open PySem.W.WShape renaming has->WH
open PySem.Heap.IsSliceOf renaming new->WQ
open PySem.Heap.FunFrames renaming of_keeps->WR
open PySem.W.Looks renaming ld->X2,here->X3
open PySem.EqMixed renaming ne_str_int->X4,ne_str_bool->X5,ne_int_str->X6,ne_bool_str->X7,eq_str_int->X8,eq_str_bool->X9,eq_int_str->Yb,eq_bool_str->Yc
open PySem.Builtin.Tuple renaming tupleItemsOf->Yo
open PySem.W.WData renaming int->cE
open PySem.SeqAt.RcNeAt renaming tuples->cF,lists_lengths->cG,lists->cH
open PySem.Within renaming cons->cI
open PySem.EqNone renaming ne_str_none->cJ,ne_none_str->cK,ne_none_none->cL,ne_none_int->cM,ne_none_bool->cN,ne_int_none->cP,ne_bool_none->cQ,eq_str_none->cR,eq_none_str->cS,eq_none_none->cT,eq_none_int->cU,eq_none_bool->cV,eq_int_none->cW,eq_bool_none->cX
open List.Sublist renaming refl->dC
open PySem.Builtin.Str renaming tooLong->jH
set_option hygiene false
local macro_rules|`('b')=>`((Bf BE (qv 0) Aj))
local macro_rules|`('c')=>`((!(w.params.followText "set-order")))
local macro_rules|`('d')=>`((Ax X.prog X.w))
local macro_rules|`('f')=>`((by simp))
local macro_rules|`('g')=>`((by decide))
local macro_rules|`('h')=>`((GI X scope cl C (x::(ns++caps.map (·.1))) fp pn s H))
local macro_rules|`('j')=>`(((x == ("__debug__":Str))=false))
local macro_rules|`('k')=>`((by nofun))
local macro_rules|`('l')=>`((Str×Str×Nat))
local macro_rules|`('m')=>`((Ax prog w))
local macro_rules|`(tactic| symm)=>`(tactic| (refine kk' ?_;clear kk'))
local macro_rules|`(tactic| cutsat)=>`(tactic| (refine Am λkk'=>?_))
local macro_rules|`(tactic| obtain $p:rcasesPatMed : _ := $e)=>`(tactic| (cutsat;obtain $p:rcasesPatMed := $e;symm;(try subst e1');(try subst e2');(try subst e3');(try subst e4')))
local macro_rules|`(tactic| ext1 $p)=>`(tactic| (intro hI';cutsat;revert hI';rintro $p;symm;(try subst e1');(try subst e2');(try subst e3');(try subst e4')))
set_option hygiene true
namespace Internal
namespace L2
open PySem PySem.Spec PyProof.Rows
abbrev Ck:=Sum Int Str
noncomputable def K4:Ck->Ai->Bool
 |.inl k,v=>WI k v
 |.inr x,v=>Ec x v
noncomputable def mH (w:BK):Ck->Int
 |.inl k=>hashInt k
 |.inr x=>FL w x
theorem Sr:∀{k:Ck}{v:Ai},K4 k v=true->(∃i t,k=Ks i/\v=DS i t)\/(∃x t,k=FU x/\v=Ds x t)
 |.inl i,v,h=>by
  obtain⟨t,e⟩:=Value.isInt_shape h;exact .inl ⟨i,t,rfl,e⟩
 |.inr x,v,h=>by
  obtain⟨t,e⟩:=Value.isStrOf_shape h;exact .inr ⟨x,t,rfl,e⟩
def Zmb (i:Int)(t:Tok):K4 (.inl i) (.int i t)=true:=by simp[K4,WI]
def Zma (x:Str)(t:Tok):K4 (.inr x) (.str x t)=true:=by simp[K4,Ec]
def ox (a b:Int):decide ((Ks a:Ck)=Ks b)=(a == b):=by
 by_cases e:a=b
 .subst e;simp
 .have h:¬(Ks a:Ck)=Ks b:=λq=>e (Sum.inl.inj q);rw[decide_eq_false h];exact(beq_eq_false_iff_ne.mpr e).symm
def o5 (a b:Str):decide ((FU a:Ck)=FU b)=decide (a=b):=by
 by_cases e:a=b
 .subst e;simp
 .have h:¬(FU a:Ck)=FU b:=λq=>e (EZ q);rw[decide_eq_false h,decide_eq_false e]
def oy (a:Int)(b:Str):decide ((Ks a:Ck)=FU b)=false:=decide_eq_false (λq=>nomatch q)
def oz (a:Str)(b:Int):decide ((FU a:Ck)=Ks b)=false:=decide_eq_false (λq=>nomatch q)
noncomputable def BX (prog:Bs)(w:BK):PySem.KeyKind prog w Ck where
 is:=K4
 hash:=mH w
 inj:=λv a b ha hb=>by
  rcases Sr ha with⟨i,t,rfl,rfl⟩|⟨x,t,rfl,rfl⟩
  .rcases Sr hb with⟨j,u,rfl,e⟩|⟨y,u,rfl,e⟩
   .injection e with e1 _;rw[e1]
   .exact nomatch e
  .rcases Sr hb with⟨j,u,rfl,e⟩|⟨y,u,rfl,e⟩
   .exact nomatch e
   .injection e with e1 _;rw[e1]
 byValue:=λk v h=>by
  rcases Sr h with⟨i,t,rfl,rfl⟩|⟨x,t,rfl,rfl⟩<;>rfl
 pyHash:=λhv h=>by
  rcases Sr hv with⟨i,t,rfl,rfl⟩|⟨x,t,rfl,rfl⟩
  .exact wpAny_pyHash_int h
  .exact wpAny_pyHash_str h
 eqBool:=λhu hv h=>by
  rcases Sr hu with⟨i,t,rfl,rfl⟩|⟨x,t,rfl,rfl⟩
  .rcases Sr hv with⟨j,u,rfl,rfl⟩|⟨y,u,rfl,rfl⟩
   .rw[ox]at h;exact L4 h
   .rw[oy]at h;exact MN i t y u _ _ _ _ h
  .rcases Sr hv with⟨j,u,rfl,rfl⟩|⟨y,u,rfl,rfl⟩
   .rw[oz]at h;exact MM x t j u _ _ _ _ h
   .rw[o5]at h;exact wpAny_eqBool_str h
 «strs»:=λk x t v h=>by
  rcases Sr h with⟨i,u,rfl,e⟩|⟨y,u,rfl,e⟩
  .exact nomatch e
  .injection e with e1 _
   subst e1;cases v<;>rfl
theorem Zkq (prog:Bs)(w:BK)(k:Ck)(v:Ai):(BX prog w).is k v=K4 k v:=rfl
def ZiY (prog:Bs)(w:BK)(i:Int)(t:Tok):(BX prog w).is (.inl i) (.int i t)=true:=Zmb i t
def ZiX (prog:Bs)(w:BK)(x:Str)(t:Tok):(BX prog w).is (.inr x) (.str x t)=true:=Zma x t
inductive V where
 |non | bl (b:Bool) | int (i:Int) | str (x:Str) | byt (b:Array UInt8) | flt (b:UInt64) | ref (a:Av) | ty (n:String)
 deriving DecidableEq
def RelV:V->Ai->Prop
 |.non,u=>u=Gp
 |.bl b,u=>u=Jt b
 |.int i,u=>∃t,u=DS i t
 |.str x,u=>∃t,u=Ds x t
 |.byt b,u=>∃t,u=WJ b t
 |.flt b,u=>∃t,u=N7 b t
 |.ref a,u=>u=AE a
 |.ty n,u=>u=D0 n
abbrev BO:List V->List Ai->Prop:=Eo RelV
theorem BO.length {xs:List V}{us:List Ai}(r:BO xs us):xs.length=us.length:=D9 r
theorem BO.get:∀{xs:List V}{us:List Ai}{i:Nat}{x:V},BO xs us->xs[i]? = some x->∃u,us[i]? = some u/\RelV x u
 |_,_,_,_,.nil,e=>by simp at e
 |_,_,0,_,.cons r _,e=>by simp at e;subst e;exact⟨_,rfl,r⟩
 |_,_,i+1,x,.cons _ t,e=>by
  obtain⟨u,h1,h2⟩:=BO.get t (by simpa using e);exact⟨u,by simpa using h1,h2⟩
def BO.append:∀{xs ys:List V}{us ws:List Ai},BO xs us->BO ys ws->BO (xs++ys) (us++ws):=λh s=>by
 induction h with
 |nil=>exact s
 |cons r t ih=>exact .cons r ih
theorem BO.take:∀{xs:List V}{us:List Ai}(n:Nat),BO xs us->BO (xs.take n) (us.take n):=λn h=>by
 induction h generalizing n with
 |nil=>rw[Lo,Lo];exact .nil
 |cons r t ih=>cases n with
  |zero=>exact .nil
  |succ n=>exact .cons r (ih n)
theorem BO.drop:∀{xs:List V}{us:List Ai}(n:Nat),BO xs us->BO (xs.drop n) (us.drop n):=λn h=>by
 induction h generalizing n with
 |nil=>rw[N3,N3];exact .nil
 |cons r t ih=>cases n with
  |zero=>exact .cons r t
  |succ n=>exact ih n
def IK:Option V->Option Ai->Prop
 |some v,some u=>RelV v u
 |none,none=>True
 |_,_=>False
def KV :List (κ×V)->List (κ×Ai)->Prop:=Eo λp q=>p.1=q.1/\RelV p.2 q.2
noncomputable def kV:Ck->V
 |.inl i=>.int i
 |.inr x=>.str x
inductive HO where
  |lst (xs:List V)
  |tup (xs:List V)
  |dK (AG:List (Ck×V)) | dT (AG:List (List Ck×V))
  |set (S:Int->Bool) (n:Nat)
  |ins (C dx:Av) (fs:List (Str×V))
  |own (x:Av)
  |xd (fs:List (Str×V))
  |met (f x:Av)
  |rng (lo hi:Int)
  |frz (o:Obj) (u:HO)
  |tbl (ps:Array Ai)
  |ext (φ:CN->Prop)
abbrev Hp:=Av->Option HO
noncomputable def CI (H:Hp)(a:Av)(o:HO):Hp:=λb=>if b=a then some o else H b
def MX :CI H a o a=some o:=by unfold CI;rw[if_pos rfl]
def Iq (h:b≠a):CI H a o b=H b:=by unfold CI;rw[if_neg h]
def m9 {H:Hp}(h:H a=some o)(h':H b=some u)(d:o≠u):a≠b:=by
 intro e;subst e;rw[h]at h';exact d (AZ h')
def XJ {H:Hp}(h:H a=some o)(h':H b=none):a≠b:=by
 intro e;subst e;rw[h]at h';cases h'
section
variable (P:Bs)(w:BK)
def MG (h:CN)(a:Av)(items:Array Ai):Prop:=∃o,h.get? a=some o/\o.cls=.type "tuple"/\∃n,o.data=.seq items n/\o.dict=none
omit P w in
def MG.tup (x:MG h a items):IsTup h a items:=let ⟨o,e,c,n,d,_⟩:=x;⟨o,e,c,n,d⟩
omit P w in
def MG.new (h:CN)(items:Array Ai):MG (h.push {cls:=.type "tuple",data:=.seq items}) h.objs.size items:=⟨_,AC _ rfl,rfl,_,rfl,rfl⟩
def CK (H:Hp)(h:CN)(a:Av):HO->Prop
 |.lst xs=>xs.length<=An/\∃Bi n,BO xs Bi/\h.get? a=some {cls:=.type "list",data:=.seq Bi.toArray n}
 |.tup xs=>xs.length<=An/\∃Bi,BO xs Bi/\MG h a Bi.toArray
 |.dK AG=>AG.length<=An/\(a == Fp)=false/\∃vs,KV AG vs/\h.DictOf (BX P w) a vs
 |.dT AG=>AG.length<=An/\(a == Fp)=false/\∃xs,
   Eo (λp q=>p.1=q.1/\H q.2.1=some (.tup (p.1.map kV))/\RelV p.2 q.2.2) AG xs /\
   ∃o es ep,h.get? a=some o/\o.ExactDict/\o.data=.dict es ep/\es.toList=xs.map (entryOfKey (L5 (BX P w)))/\(xs.map (·.1)).Nodup
 |.set S n=>h.SetOf (intKind P w) a S n
 |.ins C dx fs=>H dx=some (.own a)/\fs.length<=1000/\dx≠a/\h.get? a=some (Dm C dx) /\
   ∃mA,h.Ns1 dx mA/\(∀f,IK (fs.lookup f) (mA f))/\Na mA (fs.map (·.1))
 |.own _=>∃o,h.get? a=some o
 |.xd fs=>∃mA,h.Ns1 a mA/\∀f,IK (fs.lookup f) (mA f)
 |.rng lo hi=>∃t u v,h.get? a=some {cls:=.type "range",data:=.fields #[.int lo t,.int hi u,.int 1 v]}
 |.frz o u=>h.get? a=some o/\CK H h a u
 |.tbl ps=>h.get? a=some {cls:=.none,data:=.fields ps}
 |.met f x=>h.get? a=some (OZ (.ref f) (.ref x))
 |.ext φ=>φ h/\(∃o,h.get? a=some o)/\∀h1 h2,φ h1->(∀o,h1.get? a=some o->h2.get? a=some o)->φ h2
def HQ (H:Hp)(h:CN):Prop:=∀a o,H a=some o->CK P w H h a o
end
section
variable {P:Bs}{w:BK}
theorem CK.lt (x:CK P w H h a o):a<h.objs.size:=by
 cases o with
 |lst xs=>obtain⟨_,_,_,_,e⟩:=x;exact Ar e
 |tup xs=>obtain⟨_,_,_,p⟩:=x;exact(MG.tup p).lt
 |dK AG=>obtain⟨_,_,_,_,o,_,_,e,_⟩:=x;exact Ar e
 |dT AG=>obtain⟨_,_,_,_,o,_,_,e,_⟩:=x;exact Ar e
 |set S n=>obtain⟨o,_,_,_,e,_⟩:=x;exact Ar e
 |ins C dx fs=>obtain⟨_,_,_,e,_⟩:=x;exact Ar e
 |own y=>obtain⟨_,e⟩:=x;exact Ar e
 |xd fs=>obtain⟨_,⟨_,_,_,e,_⟩,_⟩:=x;exact Ar e
 |rng lo hi=>obtain⟨_,_,_,e⟩:=x;exact Ar e
 |frz ob u=>obtain⟨e,_⟩:=x;exact Ar e
 |tbl ps=>exact Ar (show h.get? a=some _ from x)
 |met f y=>exact Ar (show h.get? a=some _ from x)
 |ext φ=>obtain⟨_,⟨_,e⟩,_⟩:=x;exact Ar e
def Eo.mapP {α β:Type}{F G:α->β->Prop}:∀{l₁:List α}{l₂:List β},Eo F l₁ l₂->(∀a b,F a b->G a b)->Eo G l₁ l₂:=λh f=>by
 induction h with
 |nil=>exact .nil
 |cons r t ih=>exact .cons (f _ _ r) ih
def CK.stay (x:CK P w H h a o)(k:∀b u,(b=a\/H b=some (.own a))->h.get? b=some u->h'.get? b=some u)
  (ho:∀b,H b=some (.own a)->H' b=some (.own a)) (ht:∀b xs,H b=some (.tup xs)->H' b=some (.tup xs)):CK P w H' h' a o:=by
 induction o with
 |lst xs=>obtain⟨z,Bi,n,r,e⟩:=x;exact⟨z,Bi,n,r,k _ _ (.inl rfl) e⟩
 |tup xs=>obtain⟨z,Bi,r,ob,e,c⟩:=x;exact⟨z,Bi,r,ob,k _ _ (.inl rfl) e,c⟩
 |dK AG=>obtain⟨z,y,vs,r,ob,es,ep,e,c⟩:=x;exact⟨z,y,vs,r,ob,es,ep,k _ _ (.inl rfl) e,c⟩
 |dT AG=>obtain⟨z,y,xs,r,ob,es,ep,e,c⟩:_:=x;exact⟨z,y,xs,Eo.mapP r λp q z=>⟨z.1,ht _ _ z.2.1,z.2.2⟩,ob,es,ep,k _ _ (.inl rfl) e,c⟩
 |set S n=>obtain⟨ob,es,ep,t,e,c⟩:=x;exact⟨ob,es,ep,t,k _ _ (.inl rfl) e,c⟩
 |ins C dx fs=>obtain⟨d,z,ne,e,mA,⟨od,es,ep,e2,c⟩,r⟩:_:=x;exact⟨ho _ d,z,ne,k _ _ (.inl rfl) e,mA,⟨od,es,ep,k _ _ (.inr d) e2,c⟩,r⟩
 |own y=>obtain⟨ob,e⟩:=x;exact⟨ob,k _ _ (.inl rfl) e⟩
 |xd fs=>obtain⟨mA,⟨od,es,ep,e,c⟩,r⟩:=x;exact⟨mA,⟨od,es,ep,k _ _ (.inl rfl) e,c⟩,r⟩
 |rng lo hi=>obtain⟨t,u,v,e⟩:=x;exact⟨t,u,v,k _ _ (.inl rfl) e⟩
 |frz ob u ih=>obtain⟨e,q⟩:=x;exact⟨k _ _ (.inl rfl) e,ih q⟩
 |tbl ps=>have e:=x;show h'.get? a=some {cls:=.none,data:=.fields ps};exact k a _ (.inl rfl) e
 |met f y=>have e:=x;show h'.get? a=some (OZ (.ref f) (.ref y));exact k a _ (.inl rfl) e
 |ext φ=>obtain⟨p,⟨o,e⟩,st⟩:=x;exact⟨st _ _ p λo q=>k _ _ (.inl rfl) q,⟨o,k _ _ (.inl rfl) e⟩,st⟩
theorem HQ.lt (x:HQ P w H h)(e:H a=some o):a<h.objs.size:=(x a o e).lt
def HQ.fresh (x:HQ P w H h)(e:h.objs.size<=a):H a=none:=by
 cases q:H a with
 |none=>rfl
 |some u=>exact absurd (Bj (x.lt q) e) (EC _)
def HQ.kept (x:HQ P w H h)(k:∀b u,h.get? b=some u->h'.get? b=some u):HQ P w H h':=λa o e=>
 (x a o e).stay (λb u _ q=>k b u q) (λ_ q=>q) λ_ _ q=>q
def HQ.laid (x:HQ P w H h)(k:∀b u,h.get? b=some u->h'.get? b=some u)(hp:h.objs.size<=a)(new:CK P w (CI H a o) h' a o):HQ P w (CI H a o) h':=λb u e=>by
 have hn:=x.fresh hp;by_cases hb:b=a
 .subst hb;rw[MX]at e;cases e;exact new
 .rw[Iq hb]at e;exact(x b u e).stay (λc v _ q=>k c v q) (λc q=>by rw[Iq (XJ q hn)];exact q) λc xs q=>by rw[Iq (XJ q hn)];exact q
end
def Rd (H:Hp)(a:Av)(u:HO):Prop:=H a=some u\/∃o,H a=some (.frz o u)
def Rd.ok {P:Bs}{w:BK}{H:Hp}{h:CN}{a:Av}{u:HO}(r:Rd H a u)(x:HQ P w H h):CK P w H h a u:=by
 rcases r with r|⟨o,r⟩
 .exact x a u r
 .obtain⟨_,q⟩:=x a _ r;exact q
def bR:Option HO->Prop
 |some (.lst _)=>True
 |some (.dK _)=>True
 |some (.dT _)=>True
 |some (.set _ _)=>True
 |some (.ins _ _ _)=>True
 |some (.ext _)=>True
 |_=>False
def HQ.write (ok:HQ P w H h)(mu:bR (H x))(he:e=x\/H e=some (.own x))(k:∀b u,b≠e->h.get? b=some u->h'.get? b=some u)(heo:∃u,h'.get? e=some u)
  (new:CK P w (CI H x o') h' x o'):HQ P w (CI H x o') h':=λb u q=>by
 have nown:∀c y,H c=some (.own y)->c≠x:=λc y r z=>by subst z;rw[r]at mu;exact mu
 have ntup:∀c xs,H c=some (.tup xs)->c≠x:=λc xs r z=>by subst z;rw[r]at mu;exact mu
 by_cases hb:b=x
 .subst hb;rw[MX]at q;cases q;exact new
 .rw[Iq hb]at q;by_cases hbe:b=e
  .have q':H b=some (.own x):=by
    rcases he with z|z
    .exact absurd (hbe.trans z) hb
    .rw[hbe];exact z
   rw[q]at q';cases q';obtain⟨v,hv⟩:=heo;exact⟨v,by rw[hbe];exact hv⟩
  .refine(ok b u q).stay (λc v hc r=>k c v ?_ r) (λc r=>by rw[Iq (nown c b r)];exact r) λc xs r=>by rw[Iq (ntup c xs r)];exact r
   rcases hc with rfl|hc
   .exact hbe
   .rintro rfl;rcases he with z|z
    .exact nown c b hc z
    .rw[hc]at z;cases z;exact hb rfl
structure Un (fs ex:List Av)(H H':Hp)(h h':CN):Prop where
 keep:∀b o,h.get? b=some o->H b=none->b∉fs->b∉ex->h'.get? b=some o
 slot:∀b o,h.get? b=some o->H b=none->b∈fs->b∉ex->∃sl,h'.get? b=some {o with slots:=sl}
 free:∀b o,h.get? b=some o->H b=none->b∉ex->H' b=none
 there:∀b o,h.get? b=some o->b∉ex->∃o',h'.get? b=some o'
 tups:∀b xs,H b=some (.tup xs)->H' b=some (.tup xs)
 frzs:∀b o u,H b=some (.frz o u)->H' b=some (.frz o u)
 tbls:∀b ps,H b=some (.tbl ps)->∃more,H' b=some (.tbl (ps++more))
section
variable {H:Hp}  {a:Av}
def Un.any (u:Un fs ex H H1 h h1)(q:h.get? b=some ob)(n:H b=none)(hx:b∉ex):∃sl,h1.get? b=some {ob with slots:=sl}:=by
 by_cases hb:b∈fs
 .exact u.slot b ob q n hb hx
 .exact⟨ob.slots,u.keep b ob q n hb hx⟩
def Un.trans (a:Un fs ex H H1 h h1)(b:Un fs ex H1 H2 h1 h2):Un fs ex H H2 h h2 where
 keep:=λc ob q n hc hx=>b.keep c ob (a.keep c ob q n hc hx) (a.free c ob q n hx) hc hx
 slot:=λc ob q n hc hx=>by
  obtain⟨sl,e1⟩:=a.slot c ob q n hc hx;obtain⟨sl',e2⟩:=b.slot c _ e1 (a.free c ob q n hx) hc hx;exact⟨sl',e2⟩
 free:=λc ob q n hx=>by
  obtain⟨o',e1⟩:=a.there c ob q hx;exact b.free c o' e1 (a.free c ob q n hx) hx
 there:=λc ob q hx=>by
  obtain⟨o',e1⟩:=a.there c ob q hx;exact b.there c o' e1 hx
 tups:=λc xs q=>b.tups c xs (a.tups c xs q)
 frzs:=λc ob xs q=>b.frzs c ob xs (a.frzs c ob xs q)
 tbls:=λc ps q=>by
  obtain⟨m1,e1⟩:=a.tbls c ps q;obtain⟨m2,e2⟩:=b.tbls c _ e1;exact⟨m1++m2,by rw[e2,PF]⟩
def Un.kept (k:∀b u,h.get? b=some u->h'.get? b=some u):Un fs ex H H h h':=
 ⟨λb ob q _ _ _=>k b ob q,λb ob q _ _ _=>⟨ob.slots,k b ob q⟩,λ_ _ _ n _=>n,λb ob q _=>⟨ob,k b ob q⟩,λ_ _ q=>q,λ_ _ _ q=>q,λ_ ps q=>⟨#[],by rw[q];simp⟩⟩
def Un.refl:Un fs ex H H h h:=Un.kept λ_ _ q=>q
def Un.laid (k:∀b u,h.get? b=some u->h'.get? b=some u)(hp:h.objs.size<=a)(hn:H a=none):Un fs ex H (CI H a o) h h' where
 keep:=λb u q _ _ _=>k b u q
 slot:=λb u q _ _ _=>⟨u.slots,k b u q⟩
 free:=λb u q n _=>by rw[Iq (A6 (Bj (Ar q) hp))];exact n
 there:=λb u q _=>⟨u,k b u q⟩
 tups:=λb xs q=>by rw[Iq (XJ q hn)];exact q
 frzs:=λb u xs q=>by rw[Iq (XJ q hn)];exact q
 tbls:=λb ps q=>⟨#[],by rw[Iq (XJ q hn),q];simp⟩
def Un.write (mu:bR (H x))(he:e=x\/H e=some (.own x))(k:∀b u,b≠e->h.get? b=some u->h'.get? b=some u)(heo:∃u,h'.get? e=some u):Un fs ex H (CI H x o) h h':=by
 have hx:∀b,H b=none->b≠x:=λb n z=>by subst z;rw[n]at mu;exact mu
 have hb:∀b,H b=none->b≠e:=λb n z=>by
  subst z;rcases he with r|r
  .exact hx b n r
  .rw[n]at r;cases r
 have hm:∀b u,H b=some u->¬bR (some u)->b≠x:=λb u q nm z=>by subst z;rw[q]at mu;exact nm mu
 refine ⟨λb u q n _ _=>k b u (hb b n) q,λb u q n _ _=>⟨u.slots,k b u (hb b n) q⟩,λb u q n _=>by rw [Iq (hx b n)];exact n,λb u q _=>?_,
  λb xs q=>by rw [Iq (hm b _ q λz=>z)];exact q,λb u xs q=>by rw [Iq (hm b _ q λz=>z)];exact q,λb ps q=>⟨#[],by rw [Iq (hm b _ q λz=>z),q];simp⟩⟩
 by_cases hbe:b=e
 .subst hbe;exact heo
 .exact⟨u,k b u hbe q⟩
def Un.mono (u:Un fs ex H H1 h h1)(hs:∀b∈fs,b∈fs')(hx:∀b∈ex,b∈ex'):Un fs' ex' H H1 h h1:=
 ⟨λb ob q n hb he=>u.keep b ob q n (λz=>hb (hs b z)) λz=>he (hx b z),λ_ _ q n _ he=>u.any q n λz=>he (hx _ z),λb ob q n he=>u.free b ob q n λz=>he (hx b z),λb ob q he=>u.there b ob q λz=>he (hx b z),u.tups,u.frzs,u.tbls⟩
end
noncomputable def dR (h:CN)(H:Hp):List Av:=(Bx h.objs.size).filter λa=>(H a).isSome
noncomputable def Mv (h:CN)(H:Hp):CN:=Do h (dR h H)
def Zmj (h:CN)(H:Hp):(Mv h H).objs.size=h.objs.size:=PySem.W.hideAll_size _ _
def ν (e:h.get? b=some o)(n:H b=none):(Mv h H).get? b=some o:=
 HV _ e λhm=>by
  have q:=(Bl.mp hm).2;rw[n]at q;simp at q
def wn (e:(Mv h H).get? b=some o):h.get? b=some o/\H b=none:=by
 have e':=IX (dR h H) e;refine⟨e',?_⟩;cases q:H b with
 |none=>rfl
 |some x=>have hm:b∈dR h H:=Bl.mpr ⟨CG.mpr (Ar e'),by simp[q]⟩;have z:(Mv h H).get? b=none:=En (dR h H) hm;rw[z]at e;cases e
noncomputable def Tl (g h:CN)(L:Av):List (Av×Obj):=(Bx h.objs.size).filterMap λa=>if a=L\/(g.get? a).isSome=true then none else(h.get? a).map λo=>(a,o)
noncomputable def C2 (g h:CN)(L d:Av):List (Av×Obj):=(Tl g h L).filter λp=>decide (p.1≠d)
structure Mod (K:Ac)(mg:Str->Option Ai)(base:CN):Prop where
 kin:K.In base
 glob:base.Ns BF mg
 blt:∃mb,base.Ns UX mb/\∀x:Str,x≠"__name__"->mb x=CM x
 nolimit:base.NoLimit
structure Cx where
 prog:Bs
 w:BK
 K:Ac
 mg:Str->Option Ai
 base:CN
 A:CH
 N:List Str
 s₀:As
 H₀:Hp
 env:Env
 outer:List Env
 stack:List Env
 ex:List Av
 fn:Str->Bool
 calm:Bool
 pn:List (Av×Obj)
 xe:Ai->As->Prop
 fz:List (Av×Obj×HO):=[]
noncomputable def Eu (l:List Env):List Av:=l.filterMap (·.frame)
noncomputable abbrev Cx.fs (X:Cx):List Av:=Eu X.outer
def XM (sc:KG)(x:Str):Prop:=sc.names.lookup x=some .local\/sc.names.lookup x=some .cell\/sc.names.lookup x=some .free
def Wo (sc:KG)(x:Str):Prop:=sc.names.lookup x=some .local\/sc.names.lookup x=some .cell
def rR (env:Env)(h:CN)(m:Str->Option Ai)(x:Str)(u:Ai):Prop:=
 (env.kindOf x=some .local/\m x=some u)\/((env.kindOf x=some .cell\/env.kindOf x=some .free)/\∃c,env.cells.lookup x=some c/\h.IsCell c (some u))
structure Cx.Ok (X:Cx):Prop where
 mod:Mod X.K X.mg X.base
 kind:X.env.scope.kind=.function
 glob:X.env.globals=BF
 blt:X.env.builtins=UX
 above:X.s₀.heap.objs.size<=X.env.locals
 inj:∀x y c,X.env.cells.lookup x=some c->X.env.cells.lookup y=some c->x=y
 has:∀x,(X.env.kindOf x=some .cell\/X.env.kindOf x=some .free)->∃c,X.env.cells.lookup x=some c
 cab:∀x c,X.fn x=true->X.env.cells.lookup x=some c->X.s₀.heap.objs.size<=c
 hd:X.calm=true->X.A.handled=none
 frames:X.A.frames=some X.stack
 stk:X.stack=X.outer\/(X.stack=X.env::X.outer/\X.env.frame=some X.env.locals)
 exf:∀b∈X.ex,b≠X.env.locals/\∀x c,X.env.cells.lookup x=some c->c≠b
 bs:∀b o,X.base.get? b=some o->X.s₀.heap.get? b=some o/\X.H₀ b=none
 bsz:X.base.objs.size<=X.s₀.heap.objs.size
 noex:∀b o,X.base.get? b=some o->b∉X.ex
 exfs:∀b∈X.ex,b∉X.fs
 funs:X.s₀.heap.FunFrames X.base X.outer
 frf:∀b∈X.fs,X.H₀ b=none
structure AX (X:Cx)(Ad:List (Av×Obj))(U:List (Option V))(H:Hp)(s:As):Prop where
 ok:X.Ok
 os:s.os=X.s₀.os
 bare:G9 s.gens
 base:Un X.fs X.ex X.H₀ H X.s₀.heap s.heap
 loc:∃m,s.heap.Ns X.env.locals m/\∀(i:Nat) (x:Str) (v:V),X.N[i]? = some x->U[i]? = some (some v)->XM X.env.scope x->∃u,RelV v u/\rR X.env s.heap m x u
 cell:∀x c,X.env.cells.lookup x=some c->∃v,s.heap.IsCell c v
 free:H X.env.locals=none
 freeC:∀x c,X.env.cells.lookup x=some c->H c=none
 pin:∀p∈X.pn++Ad,s.heap.get? p.1=some p.2/\H p.1=none/\p.1≠X.env.locals/\p.1∉X.fs/\∀v,p.2.data≠.cell v
 hok:HQ X.prog X.w H s.heap
 len:U.length=X.N.length
 fzd:∀f∈X.fz,H f.1=some (.frz f.2.1 f.2.2)
section
variable {X:Cx}{Ad:List (Av×Obj)}{U:List (Option V)}{H:Hp}{s:As}{h':CN}
def Cx.Ok.nofr (ok:X.Ok)(e:X.base.get? b=some o):b∉X.fs:=λhb=>by
 have:=(ok.funs.mem hb).1;rw[e]at this;cases this
theorem AX.bs (I:AX X Ad U H s):∀b o,X.base.get? b=some o->s.heap.get? b=some o/\H b=none:=λb o e=>
 ⟨I.base.keep b o (I.ok.bs b o e).1 (I.ok.bs b o e).2 (I.ok.nofr e) (I.ok.noex b o e),I.base.free b o (I.ok.bs b o e).1 (I.ok.bs b o e).2 (I.ok.noex b o e)⟩
def AX.bk (I:AX X Ad U H s):∀b o,X.base.get? b=some o->s.heap.get? b=some o:=λb o e=>(I.bs b o e).1
theorem AX.mod (I:AX X Ad U H s):Mod X.K X.mg X.base:=I.ok.mod
def AX.kIn (I:AX X Ad U H s):X.K.In s.heap:=I.ok.mod.kin.keeps I.bk
theorem AX.lt (I:AX X Ad U H s):X.env.locals<s.heap.objs.size:=let ⟨_,hn,_⟩:=I.loc;hn.lt
def AX.sz (I:AX X Ad U H s):X.s₀.heap.objs.size<=s.heap.objs.size:=A4 I.ok.above (FK I.lt)
def AX.nofs (I:AX X Ad U H s)(h:s.heap.objs.size<=a):a∉X.fs:=λhb=>by
 obtain⟨_,o,ho,_⟩:=I.ok.funs.mem hb;exact absurd (Bj (Ar ho) (A4 I.sz h)) (EC _)
def AX.cne (I:AX X Ad U H s):∀x c,X.env.cells.lookup x=some c->c≠X.env.locals:=λx c e z=>by
 obtain⟨v,o,ho,hd⟩:=I.cell x c e;obtain⟨m,⟨o',es,ep,ho',hd',_⟩,_⟩:=I.loc;rw[z,ho']at ho;cases ho;rw[hd']at hd;cases hd
theorem AX.funs (I:AX X Ad U H s):s.heap.FunFrames X.base X.outer:=by
 have all:∀l,(∀b∈Eu l,b∈X.fs)->X.s₀.heap.FunFrames X.base l->s.heap.FunFrames X.base l:=by
  intro l;induction l with
  |nil=>intro _ _;trivial
  |cons env r ih=>intro hs;ext1⟨hk,⟨L,o,hf,hn,ho,hd⟩,hr⟩;have hL:=hs L (by unfold Eu;rw[Bq,hf];exact Aw);obtain⟨sl,e⟩:=I.base.slot L o ho (I.ok.frf L hL) hL λz=>I.ok.exfs L z hL;exact⟨hk,⟨L,_,hf,hn,e,hd⟩,ih (λb hb=>hs b (by unfold Eu;rw[Bq,hf];exact Ay _ hb)) hr⟩
 exact all X.outer (λ_ hb=>hb) I.ok.funs
theorem AX.stack (I:AX X Ad U H s):s.heap.FunFrames X.base X.stack:=by
 rcases I.ok.stk with e|⟨e,hf⟩
 .rw[e];exact I.funs
 .rw[e];obtain⟨m,hn,_⟩:=I.loc;refine .cons (by rw[I.ok.kind];decide) hf hn ?_ I.funs;exact Heap.get?_none_of_le (A4 I.ok.bsz I.ok.above)
def AX.stkSub (I:AX X Ad U H s):∀b∈Eu X.stack,b∈X.env.locals::X.fs:=λb hb=>by
 rcases I.ok.stk with e|⟨e,hf⟩
 .rw[e]at hb;exact Ay _ hb
 .rw[e]at hb;unfold Eu at hb;rw[Bq,hf]at hb;exact hb
def AX.stkFree (I:AX X Ad U H s):∀b∈Eu X.stack,H b=none:=λb hb=>by
 rcases AR.mp (I.stkSub b hb)with e|hb
 .rw[e];exact I.free
 .obtain⟨_,o,ho,_⟩:=I.ok.funs.mem hb;exact I.base.free b o ho (I.ok.frf b hb) λz=>I.ok.exfs b z hb
def AX.step {g':Array jG}{t':Nat}{d':Drawn}{ch:List Av}(I:AX X Ad U H s)
  (hch:∀b∈ch,(b∈X.ex\/X.s₀.heap.objs.size<=b)/\b≠X.env.locals/\(∀x c,X.env.cells.lookup x=some c->c≠b)/\∀p∈X.pn++Ad,p.1≠b)
  (keep:∀b o,b≠X.env.locals->b∉X.fs->b∉ch->s.heap.get? b=some o->H b=none->h'.get? b=some o)
  (slot:∀b o,b≠X.env.locals->b∈X.fs->b∉ch->s.heap.get? b=some o->H b=none->∃sl,h'.get? b=some {o with slots:=sl}) (free:∀b o,b∉ch->s.heap.get? b=some o->H b=none->H' b=none)
  (there:∀b o,b∉ch->s.heap.get? b=some o->∃o',h'.get? b=some o')
  (tups:∀b xs,H b=some (.tup xs)->H' b=some (.tup xs)) (frzs:∀b o u,H b=some (.frz o u)->H' b=some (.frz o u)) (tbls:∀b ps,H b=some (.tbl ps)->∃more,H' b=some (.tbl (ps++more)))
  (ns:∀m,s.heap.Ns X.env.locals m->h'.Ns X.env.locals m) (hok:HQ X.prog X.w H' h') (hg:G9 g') :
  AX X Ad U H' {s with heap:=h',gens:=g',drawn:=d',toks:=t' }:=by
 have neL:∀b o,X.s₀.heap.get? b=some o->b≠X.env.locals:=λb o e=>A6 (Bj (Ar e) I.ok.above)
 have neC:∀b o,X.s₀.heap.get? b=some o->b∉X.ex->b∉ch:=λb o e hx hb=>by
  rcases(hch b hb).1 with z|z
  .exact hx z
  .exact absurd (Bj (Ar e) z) (EC _)
 have cellK:∀x c,X.env.cells.lookup x=some c->∀v,s.heap.IsCell c v->h'.IsCell c v:=λx c e v ⟨o,ho,hd⟩=>by
  have nch:c∉ch:=λz=>(hch c z).2.2.1 x c e rfl;by_cases hc:c∈X.fs
  .obtain⟨sl,q⟩:=slot c o (I.cne x c e) hc nch ho (I.freeC x c e);exact⟨_,q,hd⟩
  .exact⟨o,keep c o (I.cne x c e) hc nch ho (I.freeC x c e),hd⟩
 refine⟨I.ok,I.os,hg,⟨λb o e n hb hx=>?_,λb o e n hb hx=>?_,λb o e n hx=>?_,λb o e hx=>?_,λb xs e=>tups b xs (I.base.tups b xs e),λb o xs e=>frzs b o xs (I.base.frzs b o xs e),λb ps e=>?_⟩,?_,λx c e=>?_,?_,λx c e=>?_,λp hp=>?_,hok,I.len,λf hf=>frzs f.1 f.2.1 f.2.2 (I.fzd f hf)⟩
 .exact keep b o (neL b o e) hb (neC b o e hx) (I.base.keep b o e n hb hx) (I.base.free b o e n hx)
 .obtain⟨sl,e1⟩:=I.base.slot b o e n hb hx;obtain⟨sl',e2⟩:=slot b _ (neL b o e) hb (neC b o e hx) e1 (I.base.free b o e n hx);exact⟨sl',e2⟩
 .obtain⟨o',e1⟩:=I.base.there b o e hx;exact free b o' (neC b o e hx) e1 (I.base.free b o e n hx)
 .obtain⟨o',e1⟩:=I.base.there b o e hx;exact there b o' (neC b o e hx) e1
 .obtain⟨m1,e1⟩:=I.base.tbls b ps e;obtain⟨m2,e2⟩:=tbls b _ e1;exact⟨m1++m2,by rw[e2,PF]⟩
 .obtain⟨m,hn,hl⟩:=I.loc;refine⟨m,ns m hn,λi x v e1 e2 e3=>?_⟩;obtain⟨u,r,l⟩:=hl i x v e1 e2 e3;refine⟨u,r,?_⟩;rcases l with l|⟨k,c,e,z⟩
  .exact .inl l
  .exact .inr ⟨k,c,e,cellK x c e _ z⟩
 .obtain⟨v,z⟩:=I.cell x c e;exact⟨v,cellK x c e v z⟩
 .obtain⟨m,⟨o,_,_,ho,_⟩,_⟩:=I.loc;exact free _ o (λz=>(hch _ z).2.1 rfl) ho I.free
 .obtain⟨v,o,ho,hd⟩:=I.cell x c e;exact free c o (λz=>(hch c z).2.2.1 x c e rfl) ho (I.freeC x c e)
 .obtain⟨e,n,ne,nf,d⟩:=I.pin p hp;have nch:p.1∉ch:=λz=>(hch p.1 z).2.2.2 p hp rfl;exact⟨keep p.1 p.2 ne nf nch e n,free p.1 p.2 nch e n,ne,nf,d⟩
def AX.un {t':Nat}(I:AX X Ad U H s)(u:Un X.fs [] H H' s.heap h')(hok:HQ X.prog X.w H' h'):AX X Ad U H' {s with heap:=h',toks:=t' }:=by
 obtain⟨m,⟨o,es,ep,ho,r⟩,_⟩:_:=id I.loc;obtain⟨sl,hL⟩:=u.any ho I.free 'f'
 exact I.step (ch:=[]) (λ_ z=>nomatch z) (λb o _ hb _ e n=>u.keep b o e n hb 'f') (λb o _ hb _ e n=>u.slot b o e n hb 'f') (λb o _ e n=>u.free b o e n 'f') (λb o _ e=>u.there b o e 'f') u.tups u.frzs u.tbls (λm' hm=>by
  obtain ⟨o',es',ep',ho',r'⟩:=hm;rw [ho] at ho';cases ho';exact ⟨_,es',ep',hL,r'⟩) hok I.bare
def AX.call {g':Array jG}{t':Nat}{d':Drawn}{ch:List Av}(I:AX X Ad U H s)(u:Un (Eu X.stack) ch H H' s.heap h')(hok:HQ X.prog X.w H' h')(hg:G9 g')
  (hch:∀b∈ch,(b∈X.ex\/X.s₀.heap.objs.size<=b)/\b≠X.env.locals/\(∀x c,X.env.cells.lookup x=some c->c≠b)/\∀p∈X.pn++Ad,p.1≠b) :
  AX X Ad U H' {s with heap:=h',gens:=g',drawn:=d',toks:=t' }:=by
 obtain⟨m,⟨o,es,ep,ho,r⟩,_⟩:_:=id I.loc;obtain⟨sl,hL⟩:=u.any ho I.free λz=>(hch _ z).2.1 rfl
 exact I.step hch (λb o hL hb hc e n=>u.keep b o e n (λz=>(AR.mp (I.stkSub b z)).elim hL hb) hc) (λb o _ _ hc e n=>u.any e n hc) (λb o hc e n=>u.free b o e n hc) (λb o hc e=>u.there b o e hc) u.tups u.frzs u.tbls (λm' hm=>by
  obtain ⟨o',es',ep',ho',r'⟩:=hm;rw [ho] at ho';cases ho';exact ⟨_,es',ep',hL,r'⟩) hok hg
def AX.turned {it:Av}(I:AX X Ad U H s)(k:∀b o,b≠it->s.heap.get? b=some o->h'.get? b=some o)(hn:H it=none)(hL:it≠X.env.locals)
  (h1:it∈X.ex\/X.s₀.heap.objs.size<=it) (h2:∀x c,X.env.cells.lookup x=some c->c≠it) (h3:∀p∈X.pn++Ad,p.1≠it):AX X Ad U H {s with heap:=h',toks:=t' }:=by
 have nit:∀b u,H b=some u->b≠it:=λb u e z=>by rw[z,hn]at e;cases e
 refine I.step (ch:=[it]) (λb hb=>?_) (λb o _ _ hc e _=>k b o (λz=>hc (by simp[z])) e) (λb o _ _ hc e _=>⟨o.slots,k b o (λz=>hc (by simp[z])) e⟩) (λ_ _ _ _ n=>n)
  (λb o hc e=>⟨o,k b o (λz=>hc (by simp[z])) e⟩) (λ_ _ e=>e) (λ_ _ _ e=>e) (λb ps e=>⟨#[],by rw[e];simp⟩) (λm hm=>?_) (λb u e=>?_) I.bare
 .have e:b=it:=by simpa using hb
  subst e;exact⟨h1,hL,h2,h3⟩
 .obtain⟨o,es,ep,ho,r⟩:=hm;exact⟨o,es,ep,k _ o (Bk hL) ho,r⟩
 .refine(I.hok b u e).stay (λc v hc q=>k c v ?_ q) (λ_ q=>q) λ_ _ q=>q;rcases hc with z|z
  .rw[z];exact nit b u e
  .exact nit c _ z
def AX.tok (I:AX X Ad U H s)(t:Nat):AX X Ad U H {s with toks:=t}:=I.un Un.refl I.hok
theorem AX.kept (I:AX X Ad U H s)(k:∀b u,s.heap.get? b=some u->h'.get? b=some u):AX X Ad U H {s with heap:=h',toks:=t' }:=I.un (Un.kept k) (I.hok.kept k)
theorem AX.laid (I:AX X Ad U H s)(k:∀b u,s.heap.get? b=some u->h'.get? b=some u)(hp:s.heap.objs.size<=a)(new:CK X.prog X.w (CI H a o) h' a o) :
  AX X Ad U (CI H a o) {s with heap:=h',toks:=t' }:=I.un (Un.laid k hp (I.hok.fresh hp)) (I.hok.laid k hp new)
theorem AX.write (I:AX X Ad U H s)(mu:bR (H x))(he:e=x\/H e=some (.own x))(k:∀b u,b≠e->s.heap.get? b=some u->h'.get? b=some u)(heo:∃u,h'.get? e=some u)
  (new:CK X.prog X.w (CI H x o) h' x o):AX X Ad U (CI H x o) {s with heap:=h',toks:=t' }:=I.un (Un.write mu he k heo) (I.hok.write mu he k heo new)
def AX.pins_of (I:AX X Ad U H s)(h:∀p∈pins',s.heap.get? p.1=some p.2/\H p.1=none/\p.1≠X.env.locals/\p.1∉X.fs/\∀v,p.2.data≠.cell v):AX X pins' U H s:=
 ⟨I.ok,I.os,I.bare,I.base,I.loc,I.cell,I.free,I.freeC,λp hp=>(AQ.mp hp).elim (λz=>I.pin p (CQ _ z)) (h p),I.hok,I.len,I.fzd⟩
def ae {N:List Str}(hN:N.Nodup){i j:Nat}{x:Str}(a:N[i]? = some x)(b:N[j]? = some x):i=j:=by
 obtain⟨h1,e1⟩:=Ah.mp a;obtain⟨h2,e2⟩:=Ah.mp b;exact(JU hN).mp (e1.trans e2.symm)
def cb {M:Model}{A:CH}{E:Ai->As->Prop}{i:Nat}{x:Str}{v:V}{u:Ai}{Q:Unit->As->Prop}(I:AX X Ad U H s)(hN:X.N.Nodup)(hi:X.N[i]? = some x)(hx:Wo X.env.scope x)(r:RelV v u)
  (h:∀s',AX X Ad (U.set i (some v)) H s'->(∃a,BM a s.heap s'.heap/\(a=X.env.locals\/X.env.cells.lookup x=some a))->Q () s') (hf:autoParam (X.fn x=true\/X.env.scope.names.lookup x=some .local) VN):Au M A (storeName X.env x u) Q E s:=by
 obtain⟨m,hn,hl⟩:=id I.loc;have hcls:(X.env.scope.kind == .class || (X.env.scope.kind == .module && X.env.locals != X.env.globals))=false:=by rw[I.ok.kind];rfl
 have hiσ:i<U.length:=by rw[I.len];exact(Ah.mp hi).1
 have cne:=I.cne
 have tracked:∀{a:Av} {h':CN},(∃o,s.heap.get? a=some o/\H a=none)->BM a s.heap h'->HQ X.prog X.w H h':=λ{a h'} ha hs b ob e=>by
  obtain⟨_,_,hfree⟩:=ha;refine(I.hok b ob e).stay (λc w' hc q=>(hs.2 c ?_).trans q) (λ_ q=>q) λ_ _ q=>q;rintro rfl;rcases hc with rfl|hc
  .rw[hfree]at e;cases e
  .rw[hfree]at hc;cases hc
 rcases hx with hk|hk
 .refine wpAny_storeName_local hk hn (λh' hn' hs=>?_) hcls;obtain⟨oL,_,_,hoL,_⟩:=id hn;refine h _ ⟨I.ok,I.os,I.bare,⟨λb o e n hb hx=>?_,λb o e n hb hx=>?_,I.base.free,λb o e hx=>?_,I.base.tups,I.base.frzs,I.base.tbls⟩,⟨_,hn',λj y v' e1 e2 e3=>?_⟩,λy c e=>?_,I.free,I.freeC,λp hp=>?_,tracked ⟨oL,hoL,I.free⟩ hs,by simpa using I.len,I.fzd⟩ ⟨_,hs,.inl rfl⟩
  .exact(hs.2 b (A6 (Bj (Ar e) I.ok.above))).trans (I.base.keep b o e n hb hx)
  .obtain⟨sl,e1⟩:=I.base.slot b o e n hb hx;exact⟨sl,(hs.2 b (A6 (Bj (Ar e) I.ok.above))).trans e1⟩
  .obtain⟨o',e1⟩:=I.base.there b o e hx;exact⟨o',(hs.2 b (A6 (Bj (Ar e) I.ok.above))).trans e1⟩
  .by_cases hj:j=i
   .subst hj;rw[hi]at e1;cases e1;rw[NA hiσ]at e2;cases e2;exact⟨u,r,.inl ⟨hk,by simp⟩⟩
   .rw[O6 (Bk hj)]at e2;obtain⟨u',r',q⟩:=hl j y v' e1 e2 e3;refine⟨u',r',?_⟩;rcases q with⟨k,e⟩|⟨k,c,e,z⟩
    .refine .inl ⟨k,?_⟩;have:y≠x:=λe=>hj (ae hN e1 (e ▸ hi));simp[this,e]
    .exact .inr ⟨k,c,e,z.sameBut hs (cne y c e)⟩
  .obtain⟨w',z⟩:=I.cell y c e;exact⟨w',z.sameBut hs (cne y c e)⟩
  .obtain⟨e,n,ne,nf,d⟩:=I.pin p hp;exact⟨(hs.2 p.1 ne).trans e,n,ne,nf,d⟩
 .have hfn:X.fn x=true:=by
   rcases hf with z|z
   .exact z
   .rw[z]at hk;cases hk
  obtain⟨c,hc⟩:=I.ok.has x (.inl hk);obtain⟨w',z⟩:=I.cell x c hc;refine wpAny_storeName_cell I.ok.kind hk hc z (λh' hc' hs=>?_);obtain⟨oc,hoc,hocd⟩:=id z;refine h {s with heap:=h' } ⟨I.ok,I.os,I.bare,⟨λb o e n hb hx=>?_,λb o e n hb hx=>?_,I.base.free,λb o e hx=>?_,I.base.tups,I.base.frzs,I.base.tbls⟩,⟨m,hn.sameBut hs (Bk (cne x c hc)),λj y v' e1 e2 e3=>?_⟩,λy c' e=>?_,I.free,I.freeC,λp hp=>?_,tracked ⟨oc,hoc,I.freeC x c hc⟩ hs,by simpa using I.len,I.fzd⟩ ⟨c,hs,.inr hc⟩
  .exact(hs.2 b (A6 (Bj (Ar e) (I.ok.cab x c hfn hc)))).trans (I.base.keep b o e n hb hx)
  .obtain⟨sl,e1⟩:=I.base.slot b o e n hb hx;exact⟨sl,(hs.2 b (A6 (Bj (Ar e) (I.ok.cab x c hfn hc)))).trans e1⟩
  .obtain⟨o',e1⟩:=I.base.there b o e hx;exact⟨o',(hs.2 b (A6 (Bj (Ar e) (I.ok.cab x c hfn hc)))).trans e1⟩
  .by_cases hj:j=i
   .subst hj;rw[hi]at e1;cases e1;rw[NA hiσ]at e2;cases e2;exact⟨u,r,.inr ⟨.inl hk,c,hc,hc'⟩⟩
   .rw[O6 (Bk hj)]at e2;obtain⟨u',r',q⟩:=hl j y v' e1 e2 e3;refine⟨u',r',?_⟩;rcases q with q|⟨k,c',e,z'⟩
    .exact .inl q
    .refine .inr ⟨k,c',e,z'.sameBut hs ?_⟩;rintro rfl;exact hj (ae hN e1 (I.ok.inj _ _ _ e hc ▸ hi))
  .by_cases hcc:c'=c
   .subst hcc;exact⟨_,hc'⟩
   .obtain⟨w2,z2⟩:=I.cell y c' e;exact⟨w2,z2.sameBut hs hcc⟩
  .obtain⟨e,n,ne,nf,d⟩:=I.pin p hp;refine⟨(hs.2 p.1 ?_).trans e,n,ne,nf,d⟩;intro q;rw[q,hoc]at e;have q':=AZ e;exact d w' (by rw[<- q'];exact hocd)
def qF (I:AX X Ad U H s)(hN:X.N.Nodup)(hi:X.N[i]? = some x)(hx:Wo X.env.scope x)(r:RelV v u)
  (h:∀s',AX X Ad (U.set i (some v)) H s'->Q () s') (hf:autoParam (X.fn x=true\/X.env.scope.names.lookup x=some .local) VN):Au M A (storeName X.env x u) Q E s:=
 cb I hN hi hx r (λs' I' _=>h s' I') hf
def AX.call' (I:AX X Ad U H s)(ho:s'.os=s.os)(u:Un (Eu X.stack) ch H H' s.heap s'.heap)(hok:HQ X.prog X.w H' s'.heap)(hg:G9 s'.gens)
  (hch:∀b∈ch,(b∈X.ex\/X.s₀.heap.objs.size<=b)/\b≠X.env.locals/\(∀x c,X.env.cells.lookup x=some c->c≠b)/\∀p∈X.pn++Ad,p.1≠b):AX X Ad U H' s':=by
 obtain⟨h',g',d',t',o'⟩:=s';have e:=ho;subst e;exact I.call u hok hg hch
end
abbrev XK:=Ai->Option Av->Hp->Prop
abbrev St:=List (Option V)
abbrev VK:=V->Hp->Prop
abbrev TE:=St->Hp->VK->Prop
abbrev TT:=St->Hp->(Bool->Hp->Prop)->Prop
abbrev TA:=St->Hp->(List V->Hp->Prop)->Prop
structure MI where
 nx:St->Hp->Prop
 rt:VK
 bk:St->Hp->Prop:=λ_ _=>False
 ct:St->Hp->Prop:=λ_ _=>False
abbrev TS:=MI->St->Hp->Prop
def EP (X:Cx)(Ad:List (Av×Obj))(U:St)(Q:VK)(u:Ai)(s':As):Prop:=∃v H',AX X Ad U H' s'/\RelV v u/\Q v H'
def TP (X:Cx)(Ad:List (Av×Obj))(U:St)(Q:Bool->Hp->Prop)(b:Bool)(s':As):Prop:=∃H',AX X Ad U H' s'/\Q b H'
def AP (X:Cx)(Ad:List (Av×Obj))(U:St)(Q:List V->Hp->Prop)(us:List Ai)(s':As):Prop:=∃vs H',AX X Ad U H' s'/\BO vs us/\Q vs H'
def EP.el {X:Cx}{Ad:List (Av×Obj)}{U:St}{Q:VK}{u:Ai}{s:As}{G:Prop}:EP X Ad U Q u s->(∀v H,AX X Ad U H s->RelV v u->Q v H->G)->G:=λ⟨v,H,i,r,q⟩ k=>k v H i r q
def AP.el {X:Cx}{Ad:List (Av×Obj)}{U:St}{Q:List V->Hp->Prop}{u:List Ai}{s:As}{G:Prop}:AP X Ad U Q u s->(∀v H,AX X Ad U H s->BO v u->Q v H->G)->G:=λ⟨v,H,i,r,q⟩ k=>k v H i r q
def TP.el {X:Cx}{Ad:List (Av×Obj)}{U:St}{Q:Bool->Hp->Prop}{u:Bool}{s:As}{G:Prop}:TP X Ad U Q u s->(∀H,AX X Ad U H s->Q u H->G)->G:=λ⟨H,i,q⟩ k=>k H i q
def SP (X:Cx)(Ad:List (Av×Obj))(D:MI)(f:Flow)(s':As):Prop:=
 match f with
 |.next=>∃U' H',AX X Ad U' H' s'/\D.nx U' H'
 |.brk=>∃U' H',AX X Ad U' H' s'/\D.bk U' H'
 |.cont=>∃U' H',AX X Ad U' H' s'/\D.ct U' H'
 |.ret u=>∃v U' H',AX X Ad U' H' s'/\RelV v u/\D.rt v H'
def PE (X:Cx)(e:BY)(t:TE):Prop:=
 ∀(Ad:List (Av×Obj)) (s:As) (U:St) (H:Hp) (Q:VK),AX X Ad U H s->t U H Q->Au 'd' X.A (eval e X.env) (EP X Ad U Q) X.xe s
def PT (X:Cx)(e:BY)(t:TT):Prop:=
 ∀(Ad:List (Av×Obj)) (s:As) (U:St) (H:Hp) (Q:Bool->Hp->Prop),AX X Ad U H s->t U H Q->Au 'd' X.A (QW e X.env (eval e X.env)) (TP X Ad U Q) X.xe s
def PW (X:Cx)(e:BY)(t:TT):Prop:=
 ∀whole (Ad:List (Av×Obj)) (s:As) (U:St) (H:Hp) (Q:Bool->Hp->Prop),AX X Ad U H s->t U H Q->Au 'd' X.A (QW e X.env whole) (TP X Ad U Q) X.xe s
def PW.pt (h:PW X e t):PT X e t:=h _
def PA (X:Cx)(es:List BY)(t:TA):Prop:=
 ∀pos (Ad:List (Av×Obj)) (s:As) (U:St) (H:Hp) (Q:List V->Hp->Prop),AX X Ad U H s->t U H Q->Au 'd' X.A (WA (B5 pos (Ap es X.env))) (AP X Ad U Q) X.xe s
def PS (X:Cx)(st:C6)(t:TS):Prop:=
 ∀(Ad:List (Av×Obj)) (s:As) (U:St) (H:Hp) (D:MI),AX X Ad U H s->t D U H->Au 'd' X.A (exec st X.env) (SP X Ad D) X.xe s
def K9 (X:Cx)(st:List C6)(t:TS):Prop:=
 ∀(Ad:List (Av×Obj)) (s:As) (U:St) (H:Hp) (D:MI),AX X Ad U H s->t D U H->Au 'd' X.A (execs st X.env) (SP X Ad D) X.xe s
def Dp {α:Type}{t:Sem α}{Q Q':α->As->Prop}{M:Model}{A:CH}{E:Ai->As->Prop}{s:As}(h:Au M A t Q E s)(hQ:∀a s,Q a s->Q' a s):Au M A t Q' E s:=Bw h hQ λ_ _ x=>x
section
variable {X:Cx}
def bin {a b:BY}{ta tb:TE}(ha:PE X a ta)(hb:PE X b tb){Ad:List (Av×Obj)}{s:As}{U:St}{H:Hp}{R:V->V->Hp->Prop}(I:AX X Ad U H s)(h:ta U H λx H1=>tb U H1 λy H2=>R x y H2)
  {α:Type} {Q:α->As->Prop} {f:Ai->Ai->Sem α}
  (hf:∀v u s2 x y H2,AX X Ad U H2 s2->RelV x v->RelV y u->R x y H2->Au 'd' X.A (f v u) Q X.xe s2) :
  Au 'd' X.A (eval a X.env) (λv s₁=>Au 'd' X.A (eval b X.env) (λu s₂=>Au 'd' X.A (f v u) Q X.xe s₂) X.xe s₁) X.xe s:=by
 refine Dp (ha Ad s U H _ I h) λv s1 e=>e.el λx H1 I1 r1 q1=>?_;refine Dp (hb Ad s1 U H1 _ I1 q1) λu s2 e=>e.el λy H2 I2 r2 q2=>?_;exact hf v u s2 x y H2 I2 r1 r2 q2
def PK (i:Nat):TE:=λU H Q=>∃v,U[i]? = some (some v)/\Q v H
def tC (v:V):TE:=λ_ H Q=>Q v H
def oO (hN:X.N[i]? = some x)(hv:XM X.env.scope x)(hd:autoParam 'j' Gy)(hcd:autoParam ((x == ("__classdict__":Str))=false) Gy):PE X (.Name x pos) (PK i):=by
 intro Ad s U H Q I h;obtain⟨v,e,h⟩:=h;obtain⟨m,hn,hl⟩:=I.loc;obtain⟨u,r,l⟩:=hl i x v hN e hv;have fin:EP X Ad U Q u s:=⟨v,H,I,r,h⟩;rcases l with⟨hk,hm⟩|⟨hk,c,hc,hcell⟩
 .exact US (wpAny_loadName_local I.ok.kind hk hn hm fin) hd
 .rcases hk with hk|hk
  .exact US (wpAny_loadName_cell I.ok.kind hk hc hcell fin) hd
  .exact US (wpAny_loadName_free I.ok.kind hk hc hcell fin hcd) hd
def sv {i j pos}:PE X (.Constant (.int i) j pos) (tC (.int i)):=λ_ _ _ H _ I h=>wpAny_Constant_int ⟨.int i,H,I.tok _,⟨_,rfl⟩,h⟩
def lg {b j pos}:PE X (.Constant (.bool b) j pos) (tC (.bl b)):=λ_ _ _ H _ I h=>Constant_bool ⟨.bl b,H,I,rfl,h⟩
def sw {j pos}:PE X (.Constant .none j pos) (tC .non):=λ_ _ _ H _ I h=>Constant_none ⟨.non,H,I,rfl,h⟩
def s9 {x j pos}:PE X (.Constant (.str x) j pos) (tC (.str x)):=λ_ _ _ H _ I h=>PD ⟨.str x,H,I.tok _,⟨_,rfl⟩,h⟩
def Gl (X:Cx)(x:Str):Prop:=X.env.kindOf x=some .globalImplicit
def Xu (I:AX X Ad U H s)(hg:Gl X x)(hm:X.mg x=some u)(h:Q u s)
  (hd:autoParam 'j' Gy):Au 'd' X.A (eval (.Name x pos) X.env) Q E s:=
 LC I.ok.kind hg (Calls.loadGlobal_global (by rw[I.ok.glob];exact I.mod.glob.keeps I.bk) hm h) hd
def P4 (I:AX X Ad U H s)(hg:Gl X x)(hm:X.mg x=none)(hv:CM x=some u)(h:Q u s)
  (hn:autoParam (x≠"__name__") Gy) (hd:autoParam 'j' Gy):Au 'd' X.A (eval (.Name x pos) X.env) Q E s:=by
 obtain⟨mb,h1,h2⟩:=I.mod.blt;exact LC I.ok.kind hg (Calls.loadGlobal_builtin (by rw[I.ok.glob];exact I.mod.glob.keeps I.bk) hm (by rw[I.ok.blt];exact h1.keeps I.bk) ((h2 x hn).trans hv) h) hd
def yT (hg:Gl X x)(hm:X.mg x=some u)(r:RelV v u)(hd:autoParam 'j' Gy):PE X (.Name x pos) (tC v):=
 λ_ _ _ H _ I h=>Xu I hg hm ⟨v,H,I,r,h⟩ hd
def xu (hg:Gl X x)(hm:X.mg x=none)(hv:CM x=some u)(r:RelV v u)(hn:autoParam (x≠"__name__") Gy)(hd:autoParam 'j' Gy):PE X (.Name x pos) (tC v):=
 λ_ _ _ H _ I h=>P4 I hg hm hv ⟨v,H,I,r,h⟩ hn hd
variable {a b:BY}{ta tb:TE}{pos:Pos}
def tB (t:TE):TT:=λU H Q=>t U H λx H1=>∃c,x=.bl c/\Q c H1
def ui (h:PE X e t)(he:autoParam (∀whole,QW e X.env whole=(do let v <- whole;Nw e.pos;G6 [v] (truthy v))) NM):PT X e (tB t):=by
 intro Ad s U H Q I hw;refine isTrue_plain (Dp (h Ad s U H _ I hw) λv s1 e=>e.el λx H1 I1 r1 q1=>?_) (he _);obtain⟨d,rfl,q⟩:=q1;cases r1;exact DN ⟨H1,I1,q⟩
variable {tA tB':TT}{C2:List BY}
def jW (t u:TT):TT:=λU H Q=>t U H λc H1=>if c=true then u U H1 Q else Q false H1
def jw (t u:TT):TT:=λU H Q=>t U H λc H1=>if c=true then Q true H1 else u U H1 Q
def jP (t:TT):TT:=λU H Q=>t U H λc H1=>Q (!c) H1
def yo (ha:PT X a tA):PW X (.BoolOp .And [a] pos) tA:=by
 intro wh Ad s U H Q I h;refine isTrue_and (Dp (ha Ad s U H Q I h) λc s1 e=>?_);cases c with
 |true=>exact isTrue_and_nil e
 |false=>exact e
def uk (ha:PT X a tA):PW X (.BoolOp .Or [a] pos) tA:=by
 intro wh Ad s U H Q I h;refine isTrue_or (Dp (ha Ad s U H Q I h) λc s1 e=>?_);cases c with
 |false=>exact isTrue_or_nil e
 |true=>exact e
def uj (ha:PT X a tA)(hb:PW X (.BoolOp .And (b::C2) pos) tB'):PW X (.BoolOp .And (a::b::C2) pos) (jW tA tB'):=by
 intro wh Ad s U H Q I h;refine isTrue_and (Dp (ha Ad s U H _ I h) λc s1 e=>e.el λH1 I1 q1=>?_);cases c with
 |true=>exact hb wh Ad s1 U H1 Q I1 q1
 |false=>exact⟨H1,I1,q1⟩
def lr (ha:PT X a tA)(hb:PW X (.BoolOp .Or (b::C2) pos) tB'):PW X (.BoolOp .Or (a::b::C2) pos) (jw tA tB'):=by
 intro wh Ad s U H Q I h;refine isTrue_or (Dp (ha Ad s U H _ I h) λc s1 e=>e.el λH1 I1 q1=>?_);cases c with
 |true=>exact⟨H1,I1,q1⟩
 |false=>exact hb wh Ad s1 U H1 Q I1 q1
def uh (ha:PT X a tA):PT X (.UnaryOp .Not a pos) (jP tA):=by
 intro Ad s U H Q I h;exact isTrue_not (ha Ad s U H (λc H1=>Q (!c) H1) I h)
def Y2 (ta tb:TE):TE:=λU H Q=>ta U H λx H1=>∃c,x=.bl c/\if c=true then tb U H1 Q else Q (.bl false) H1
def jO (ta tb:TE):TE:=λU H Q=>ta U H λx H1=>∃c,x=.bl c/\if c=true then Q (.bl true) H1 else tb U H1 Q
def YT (ta:TE):TE:=λU H Q=>ta U H λx H1=>∃c,x=.bl c/\Q (.bl (!c)) H1
def sy {op}(h:PE X a t):PE X (.BoolOp op [a] pos) t:=λAd s U H Q I hw=>BoolOp_one (h Ad s U H Q I hw)
def rc (ha:PE X a ta)(hb:PE X (.BoolOp .And (b::C2) pos) tb):PE X (.BoolOp .And (a::b::C2) pos) (Y2 ta tb):=by
 intro Ad s U H Q I h;refine BoolOp_and (Dp (ha Ad s U H _ I h) λv s1 e=>e.el λx H1 I1 r1 q1=>?_);obtain⟨c,rfl,q1⟩:=q1;cases r1;refine DN ?_;cases c with
 |true=>exact hb Ad s1 U H1 Q I1 q1
 |false=>exact⟨.bl false,H1,I1,rfl,q1⟩
def lj (ha:PE X a ta)(hb:PE X (.BoolOp .Or (b::C2) pos) tb):PE X (.BoolOp .Or (a::b::C2) pos) (jO ta tb):=by
 intro Ad s U H Q I h;refine BoolOp_or (Dp (ha Ad s U H _ I h) λv s1 e=>e.el λx H1 I1 r1 q1=>?_);obtain⟨c,rfl,q1⟩:=q1;cases r1;refine DN ?_;cases c with
 |false=>exact hb Ad s1 U H1 Q I1 q1
 |true=>exact⟨.bl true,H1,I1,rfl,q1⟩
def sx (ha:PE X a ta):PE X (.UnaryOp .Not a pos) (YT ta):=by
 intro Ad s U H Q I h;refine UnaryOp_ (Dp (ha Ad s U H _ I h) λv s1 e=>e.el λx H1 I1 r1 q1=>?_);obtain⟨c,rfl,q1⟩:=q1;cases r1;exact not_of (DN ⟨.bl (!c),H1,I1,rfl,q1⟩)
def jx (t:TT)(ta tb:TE):TE:=λU H Q=>t U H λc H1=>if c=true then ta U H1 Q else tb U H1 Q
def zo (hc:PT X c tA)(ha:PE X a ta)(hb:PE X b tb):PE X (.IfExp c a b pos) (jx tA ta tb):=by
 intro Ad s U H Q I h;refine wpAny_IfExp (Dp (hc Ad s U H _ I h) λd s1 e=>e.el λH1 I1 q1=>?_);cases d with
 |true=>exact ha Ad s1 U H1 Q I1 q1
 |false=>exact hb Ad s1 U H1 Q I1 q1
end
def F4 (K:Ac)(H:Hp)(a:Av)(xs:List V):Prop:=
 Rd H a (.lst xs) \/
  ∃o Bi n,K.lookup a=some o/\o.cls=.type "list"/\o.dict=none/\o.data=.seq Bi n/\Bi.size<=An/\BO xs Bi.toList
def LY (K:Ac)(H:Hp)(a:Av)(xs:List V):Prop:=
 Rd H a (.tup xs) \/
  ∃o Bi n,K.lookup a=some o/\o.cls=.type "tuple"/\o.data=.seq Bi n/\Bi.size<=An/\BO xs Bi.toList
noncomputable def mQ:Ai->Option V
 |.none=>some .non
 |.bool b=>some (.bl b)
 |.int i _=>some (.int i)
 |.str x _=>some (.str x)
 |.bytes b _=>some (.byt b)
 |.float b _=>some (.flt b)
 |.ref a=>some (.ref a)
 |.type n=>some (.ty n)
 |_=>none
def RelV.abs (r:RelV x u):mQ u=some x:=by
 cases x with
 |non=>cases r;rfl
 |bl _=>cases r;rfl
 |int _=>obtain⟨t,rfl⟩:=r;rfl
 |str _=>obtain⟨t,rfl⟩:=r;rfl
 |byt _=>obtain⟨t,rfl⟩:=r;rfl
 |flt _=>obtain⟨t,rfl⟩:=r;rfl
 |ref _=>cases r;rfl
 |ty _=>cases r;rfl
def RelV.inj (r:RelV x u)(q:RelV y u):x=y:=AZ (r.abs.symm.trans q.abs)
theorem BO.inj:∀{xs ys:List V}{us:List Ai},BO xs us->BO ys us->xs=ys:=λ{xs ys us} h h'=>by
 induction h generalizing ys with
 |nil=>cases h';rfl
 |cons r t ih=>cases h' with | cons r' t'=>rw[r.inj r',ih t']
def F4.of {K:Ac}(h:H a=some (.lst xs)):F4 K H a xs:=.inl (.inl h)
def AX.list (I:AX X Ad U H s)(h:F4 X.K H a xs):∃Bi,BO xs Bi/\PlainL s.heap a Bi.toArray/\xs.length<=An:=by
 rcases h with h|⟨o,Bi,n,hk,hc,hd,hs,hz,r⟩
 .obtain⟨z,Bi,n,r,e⟩:=h.ok I.hok;exact⟨Bi,r,⟨_,n,e,rfl,rfl,rfl⟩,z⟩
 .refine⟨Bi.toList,r,⟨o,n,I.kIn a o hk,hc,hd,by simpa using hs⟩,?_⟩;have e:=r.length;simp only[BI]at e;ext
def AX.tuple (I:AX X Ad U H s)(h:LY X.K H a xs):∃Bi,BO xs Bi/\IsTup s.heap a Bi.toArray/\xs.length<=An:=by
 rcases h with h|⟨o,Bi,n,hk,hc,hs,hz,r⟩
 .obtain⟨z,Bi,r,p⟩:=h.ok I.hok;exact⟨Bi,r,p.tup,z⟩
 .refine⟨Bi.toList,r,⟨o,I.kIn a o hk,hc,n,by simpa using hs⟩,?_⟩;have e:=r.length;simp only[BI]at e;ext
def AX.list_inj (I:AX X Ad U H s)(h:F4 X.K H a xs)(h':F4 X.K H a ys):xs=ys:=by
 obtain⟨Bi,r,⟨o,n,e,_,_,d⟩,_⟩:=I.list h;obtain⟨its',r',⟨o',n',e',_,_,d'⟩,_⟩:=I.list h';rw[e]at e';cases e';rw[d]at d';injection d' with d1 _
 have:Bi=its':=by simpa using congrArg Vc d1
 subst this;exact r.inj r'
def AX.tuple_inj (I:AX X Ad U H s)(h:LY X.K H a xs)(h':LY X.K H a ys):xs=ys:=by
 obtain⟨Bi,r,⟨o,e,_,n,d⟩,_⟩:=I.tuple h;obtain⟨its',r',⟨o',e',_,n',d'⟩,_⟩:=I.tuple h';rw[e]at e';cases e';rw[d]at d';injection d' with d1 _
 have:Bi=its':=by simpa using congrArg Vc d1
 subst this;exact r.inj r'
noncomputable abbrev Cx.wish (X:Cx)(E:Ai->As->Prop):Cx:={X with xe:=E}
noncomputable abbrev Cx.nox (X:Cx):Cx:=X.wish λ_ _=>False
theorem Cx.Ok.wish {X:Cx}(ok:X.Ok)(E:Ai->As->Prop):(X.wish E).Ok:=
 ⟨ok.mod,ok.kind,ok.glob,ok.blt,ok.above,ok.inj,ok.has,ok.cab,ok.hd,ok.frames,ok.stk,ok.exf,ok.bs,ok.bsz,ok.noex,ok.exfs,ok.funs,ok.frf⟩
def Cx.Ok.unwish {X:Cx}(ok:(X.wish E).Ok):X.Ok:=
 ⟨ok.mod,ok.kind,ok.glob,ok.blt,ok.above,ok.inj,ok.has,ok.cab,ok.hd,ok.frames,ok.stk,ok.exf,ok.bs,ok.bsz,ok.noex,ok.exfs,ok.funs,ok.frf⟩
section
variable {X:Cx}     {E:Ai->As->Prop}
theorem AX.wish (I:AX X Ad U H s)(E:Ai->As->Prop):AX (X.wish E) Ad U H s:=⟨I.ok.wish E,I.os,I.bare,I.base,I.loc,I.cell,I.free,I.freeC,I.pin,I.hok,I.len,I.fzd⟩
theorem AX.unwish (I:AX (X.wish E) Ad U H s):AX X Ad U H s:=⟨I.ok.unwish,I.os,I.bare,I.base,I.loc,I.cell,I.free,I.freeC,I.pin,I.hok,I.len,I.fzd⟩
theorem SP.unwish (h:SP (X.wish E) Ad D f s'):SP X Ad D f s':=by
 cases f with
 |next=>obtain⟨U',H',I,q⟩:=h;exact⟨U',H',I.unwish,q⟩
 |brk=>obtain⟨U',H',I,q⟩:=h;exact⟨U',H',I.unwish,q⟩
 |cont=>obtain⟨U',H',I,q⟩:=h;exact⟨U',H',I.unwish,q⟩
 |ret u=>obtain⟨v,U',H',I,r,q⟩:=h;exact⟨v,U',H',I.unwish,r,q⟩
theorem K9.nox {st:List C6}(h:K9 X.nox st t):K9 X st t:=λAd s U H D I hw=>
 Bw (h Ad s U H D (I.wish _) hw) (λ_ _ q=>q.unwish) λ_ _ z=>Cp z
end
section
variable {X:Cx}{st:C6}{C2:List C6}{t:TS}
def YV:TS:=λD U H=>D.nx U H
def jM (t u:TS):TS:=λD U H=>t {D with nx:=u D} U H
def yj:K9 X [] YV:=λ_ _ U H _ I h=>Fl ⟨U,H,I,h⟩
def yY (h1:PS X st t)(h2:K9 X C2 u):K9 X (st::C2) (jM t u):=by
 intro Ad s U H D I h;refine L0 (Dp (h1 Ad s U H {D with nx:=u D} I h) λf s1 q=>?_);cases f with
 |next=>obtain⟨U',H',I',q⟩:=q;exact h2 Ad s1 U' H' D I' q
 |ret v=>exact q
 |brk=>exact q
 |cont=>exact q
def yk (h1:PS X st t):K9 X [st] t:=by
 intro Ad s U H D I h;refine L0 (Dp (h1 Ad s U H D I h) λf s1 q=>?_);cases f with
 |next=>exact Fl q
 |ret v=>exact q
 |brk=>exact q
 |cont=>exact q
def AX.quiet (I:AX X Ad U H s):interactive X.env=false:=by simp[interactive,I.ok.kind]
def YY (te:TE):TS:=λD U H=>te U H λ_ H1=>D.nx U H1
def yi (he:PE X e te)(hs:autoParam (C0 e none pos.line X.env=pure false) BV):PS X (.Expr e pos) (YY te):=by
 intro Ad s U H D I h;exact wpAny_Expr_any (Dp (he Ad s U H _ I h) λv s1 e=>e.el λx H1 I1 r1 q1=>⟨U,H1,I1,q1⟩) I.quiet hs
def jN (te:TE):TS:=λD U H=>te U H D.rt
def ue (he:PE X e te):PS X (.Return (some e) pos) (jN te):=by
 intro Ad s U H D I h;exact wpAny_Return_some (Dp (he Ad s U H _ I h) λv s1 e=>e.el λx H1 I1 r1 q1=>⟨x,U,H1,I1,r1,q1⟩)
def jR (c:TT)(t u:TS):TS:=λD U H=>c U H λb H1=>if b=true then t D U H1 else u D U H1
def lq (hc:PT X c tc)(ha:K9 X a t)(hb:K9 X b u):PS X (.If c a b pos) (jR tc t u):=by
 intro Ad s U H D I h;refine wpAny_If (Dp (hc Ad s U H _ I h) λd s1 e=>e.el λH1 I1 q1=>?_);cases d with
 |true=>exact ha Ad s1 U H1 D I1 q1
 |false=>exact hb Ad s1 U H1 D I1 q1
end
abbrev TG:=V->St->Hp->(St->Hp->Prop)->Prop
abbrev XN:=List V->St->Hp->(St->Hp->Prop)->Prop
def PG (X:Cx)(target:BY)(t:TG):Prop:=
 ∀(Ad:List (Av×Obj)) (s:As) (U:St) (H:Hp) (v:V) (u:Ai) (Q:St->Hp->Prop),AX X Ad U H s->RelV v u->t v U H Q ->
  Au 'd' X.A (Mc target X.env u) (λ_ s'=>∃U' H',AX X Ad U' H' s'/\Q U' H') X.xe s
def UP (X:Cx)(ts:List BY)(t:XN):Prop:=
 ∀(Ad:List (Av×Obj)) (s:As) (U:St) (H:Hp) (vs:List V) (us:List Ai) (Q:St->Hp->Prop),AX X Ad U H s->BO vs us->t vs U H Q ->
  Au 'd' X.A (assignInOrder ((C1 ts X.env).map (·.2)) us) (λ_ s'=>∃U' H',AX X Ad U' H' s'/\Q U' H') X.xe s
def JK (i:Nat):TG:=λv U H Q=>Q (U.set i (some v)) H
def ME (hN:X.N.Nodup)(hi:X.N[i]? = some x)(hx:Wo X.env.scope x)(hf:autoParam (X.fn x=true\/X.env.scope.names.lookup x=some .local) VN):PG X (.Name x pos) (JK i):=by
 intro Ad s U H v u Q I r h;exact Wx (qF I hN hi hx r (λs' I'=>⟨_,H,I',h⟩) hf)
def ZP:XN:=λvs U H Q=>vs=[]/\Q U H
def Uw (t:TG)(u:XN):XN:=λvs U H Q=>∃v r,vs=v::r/\t v U H λU' H'=>u r U' H' Q
def V4:UP X [] ZP:=by
 intro Ad s U H vs us Q I r h;obtain⟨e,h⟩:=h;subst e;cases r;exact assignInOrder_nil ⟨U,H,I,h⟩
def Nu (h1:PG X e t)(h2:UP X es u)
  (hs:autoParam ((C1 (e::es) X.env).map (·.2)=Mc e X.env::(C1 es X.env).map (·.2)) BV):UP X (e::es) (Uw t u):=by
 intro Ad s U H vs us Q I r h;obtain⟨v,vr,e1,h⟩:=h;subst e1;cases r with
 |cons r rr=>rw[hs];refine assignInOrder_cons (Dp (h1 Ad s U H _ _ _ I r h) λ_ s1 ⟨U1,H1,I1,q1⟩=>?_);exact h2 Ad s1 U1 H1 _ _ Q I1 rr q1
def RC (K:Ac)(n:Nat)(t:XN):TG:=λv U H Q=>∃a xs,v=.ref a/\LY K H a xs/\xs.length=n/\t xs U H Q
def vF (hc:X.calm=true)(h:UP X es t)
  (hn:autoParam ((C1 es X.env).length=n) BV) (hst:autoParam ((C1 es X.env).findIdx? (·.1)=none) BV):PG X (.Tuple es k pos) (RC X.K n t):=by
 intro Ad s U H v u Q I r hw;obtain⟨a,xs,e1,hq,hl,hw⟩:=hw;subst e1;cases r;obtain⟨Bi,rv,ht,hz⟩:=I.tuple hq;refine assign_Tuple_tuple (I.ok.hd hc) ht (by simp[hn,<- hl,rv.length]) hst λh' hx=>?_;have I1:AX X Ad U H {s with heap:=h' }:=I.kept λb o e=>hx b o (A6 (Ar e)) e;exact h Ad _ U H xs _ Q I1 (by simpa using rv) hw
def Ng (te:TE)(g:TG):TS:=λD U H=>te U H λx H1=>g x U H1 D.nx
def ub (he:PE X e te)(hg:PG X tg g)(hs:autoParam (swapsWithSole [tg] e pos.line X.env=pure false) BV)(hw:autoParam (swappedStores [tg] e X.env=pure none) BV)
  (h1:autoParam ((C1 [tg] X.env).map (·.2)=[Mc tg X.env]) BV):PS X (.Assign [tg] e pos) (Ng te g):=by
 intro Ad s U H D I h;refine wpAny_Assign_stores (Dp (he Ad s U H _ I h) λv s1 e=>e.el λx H1 I1 r1 q1=>?_) hs hw;rw[h1];exact Dp (hg Ad s1 U H1 x v _ I1 r1 q1) λ_ s2 q=>q
def uf (hN:X.N.Nodup)(hi:X.N[i]? = some x)(hx:Wo X.env.scope x)(he:PE X e te)(hs:autoParam (C0 e (some (.Name x pos')) pos.line X.env=pure false) BV)(hf:autoParam (X.fn x=true\/X.env.scope.names.lookup x=some .local) VN) :
  PS X (.Assign [.Name x pos'] e pos) (Ng te (JK i)):=by
 intro Ad s U H D I h;refine Wy (Dp (he Ad s U H _ I h) λv s1 e=>e.el λy H1 I1 r1 q1=>?_) hs;exact qF I1 hN hi hx r1 (λs2 I2=>⟨_,H1,I2,q1⟩) hf
def Vi (c:TT)(tb:TS):TS:=λD U H=>∃W:Nat->St->Hp->Prop,(∃m,W m U H)/\∀m U H,W m U H ->
 c U H λb H1=>if b=true then∃N:St->Hp->Prop,(∀U' H',N U' H'->∃m',m' < m/\W m' U' H')/\tb {D with nx:=N,ct:=N,bk:=D.nx} U H1 else D.nx U H1
def zw (hp:Ql 'd' X.A X.env X.xe)(hc:PT X c tc)(hb:K9 X body tb):PS X (.While c body [] pos) (Vi tc tb):=by
 intro Ad s U H D I h;obtain⟨W,⟨m0,w0⟩,turn⟩:=h;refine wpAny_While (codeAny_whileLoop (λn s'=>∃U' H',AX X Ad U' H' s'/\W n U' H') ?_ m0 ⟨U,H,I,w0⟩);rintro n s1 ⟨U1,H1,I1,w1⟩;refine Ey hp (Dp (hc Ad s1 U1 H1 _ I1 (turn n U1 H1 w1)) λb s2 e=>e.el λH2 I2 q2=>?_);cases b with
 |true=>
  obtain⟨N,hN,q2⟩:=q2;rw[if_pos rfl];refine Ey hp (Dp (hb Ad s2 U1 H2 _ I2 q2) λf s3 q3=>?_);cases f with
  |next=>obtain⟨U3,H3,I3,n3⟩:=q3;obtain⟨m',hm,w3⟩:=hN U3 H3 n3;exact⟨m',hm,U3,H3,I3,w3⟩
  |cont=>obtain⟨U3,H3,I3,n3⟩:=q3;obtain⟨m',hm,w3⟩:=hN U3 H3 n3;exact⟨m',hm,U3,H3,I3,w3⟩
  |brk=>exact q3
  |ret v=>exact q3
 |false=>rw[if_neg Ak];exact Fl ⟨U1,H2,I2,q2⟩
structure It where
 go:Nat->Hp->Prop
 yld:Nat->Hp->V->Hp->Prop
 stop:Nat->Hp->Prop
def JN (X:Cx)(Ad:List (Av×Obj))(H:Hp)(b:Av):Prop:=
 H b=none/\b≠X.env.locals/\b∉X.fs/\(b∈X.ex\/X.s₀.heap.objs.size<=b)/\(∀x c,X.env.cells.lookup x=some c->c≠b)/\∀p∈X.pn++Ad,p.1≠b
def AX.fpOk (I:AX X Ad U H s)(hb:s.heap.objs.size<=b)(hn:H' b=none):JN X Ad H' b:=by
 refine⟨hn,Fi (Bj I.lt hb),I.nofs hb,.inr (A4 I.sz hb),λx c e z=>?_,λp hp z=>?_⟩
 .obtain⟨v,q⟩:=I.cell x c e;exact absurd (Bj q.lt (by rw[z];exact hb)) (EC _)
 .exact absurd (Bj (Ar (I.pin p hp).1) (by rw[z];exact hb)) (EC _)
structure MF (P:Bs)(w:BK)(K:Ac)(F:List (Av×Obj×HO))(tg:BY)(J:It)(fp:List Av)(it:Av)(tn:Nat->CN->Prop):Prop where
 mem:it∈fp
 obj:∀i h,tn i h->∀b∈fp,∃o,h.get? b=some o/\∀v,o.data≠.cell v
 keep:∀i h h',tn i h->(∀b∈fp,∀o,h.get? b=some o->h'.get? b=some o)->tn i h'
 item:∀(X:Cx),X.prog=P->X.w=w->X.K=K->X.fz=F->X.calm=true->∀(i:Nat) (Ad:List (Av×Obj)) (s:As) (U:St) (H:Hp) (E:Ai->As->Prop),AX X Ad U H s->(∀b∈fp,JN X Ad H b)->tn i s.heap->J.go i H ->
  Au (Ax P w) X.A (IV (.ref it)) (λr s1=>∃ u,r=some u /\
   Au (Ax P w) X.A (Jo tg (.ref it) u) (λ_ s2=>∃ x H',AX X Ad U H' s2/\RelV x u/\J.yld i H x H'/\tn (i+1) s2.heap/\∀ b∈fp,H' b=none) E s1) E s
 done:∀(X:Cx),X.prog=P->X.w=w->X.K=K->X.fz=F->X.calm=true->∀(i:Nat) (Ad:List (Av×Obj)) (s:As) (U:St) (H:Hp) (E:Ai->As->Prop),AX X Ad U H s->(∀b∈fp,JN X Ad H b)->tn i s.heap->J.stop i H ->
  Au (Ax P w) X.A (IV (.ref it)) (λr s1=>r=none/\AX X Ad U H s1) E s
 self:∀(A:CH) (i:Nat) (s:As) (Q:Ai->As->Prop) (E:Ai->As->Prop),tn i s.heap->Q (.ref it) s->Au (Ax P w) A (UU (.ref it)) Q E s
abbrev TI:=St->Hp->(It->Hp->Prop)->Prop
def bQ (X:Cx)(Ad:List (Av×Obj))(U:St)(tg:BY)(R:It->Hp->Prop)(itv:Ai)(s2:As):Prop:=
 ∃it fp tn J H',itv=.ref it/\AX X Ad U H' s2/\MF X.prog X.w X.K X.fz tg J fp it tn/\tn 0 s2.heap/\(∀b∈fp,JN X Ad H' b)/\R J H'
def PI (X:Cx)(tg iter:BY)(wi:TI):Prop:=
 ∀(Ad:List (Av×Obj)) (s:As) (U:St) (H:Hp) (R:It->Hp->Prop),AX X Ad U H s->wi U H R ->
  Au 'd' X.A (eval iter X.env) (λv s1=>Au 'd' X.A (UU v) (bQ X Ad U tg R) X.xe s1) X.xe s
def Xd (ho:s.heap.get? it=some o)(hc:o.cls=.type n)(hd:o.data=.fields vs)
    (hn:["enumerate", "zip", "dict_itemiterator", "dict_reverseitemiterator", "odict_iterator", "itertools.zip_longest", "itertools.pairwise"].contains n=false) (hQ:Q () s):Au M A (Jo tg (.ref it) u) Q E s:=by
  unfold Jo
  cases tg<;>first
    |exact Ae hQ
    | (cases u<;>first
        |exact Ae hQ
        | (refine Aa (wpAny_load ho ?_)
           rw [hc,hd];show Au M A (if (["enumerate", "zip", "dict_itemiterator", "dict_reverseitemiterator", "odict_iterator", "itertools.zip_longest", "itertools.pairwise"].contains n && vs[0]? == some (L8 _))=true then _ else _) Q E s;rw [if_neg (by intro h;rw [hn,DU] at h;cases h)];exact Ae hQ))
noncomputable def jn (K:Ac)(a:Av):It:=
 ⟨λi H=>∃xs x,F4 K H a xs/\xs[i]? = some x,λi H x H'=>H'=H/\∀xs,F4 K H a xs->xs[i]? = some x,λi H=>∃xs,F4 K H a xs/\xs.length<=i⟩
noncomputable def jj (K:Ac)(a:Av):It:=
 ⟨λi H=>∃xs x,LY K H a xs/\xs[i]? = some x,λi H x H'=>H'=H/\∀xs,LY K H a xs->xs[i]? = some x,λi H=>∃xs,LY K H a xs/\xs.length<=i⟩
noncomputable def iS (lo:Int)(n:Nat):It:=⟨λi _=>i<n,λi H x H'=>H'=H/\x=.int (lo+i),λi _=>n<=i⟩
def Zl0 {K:Ac}(a it:Av):MF P w K F tg (jn K a) [it] it (λi h=>h.IsListIter it a i) where
 mem:=by simp
 obj:=λi h st b hb=>by
  have e:b=it:=by simpa using hb
  subst e;obtain⟨o,e,c,d⟩:=st;exact⟨o,e,λv z=>by rw[d]at z;cases z⟩
 keep:=λi h h' st k=>st.at λo e=>k it 'f' o e
 item:=by
  intro X hP hw hK hF hc i Ad s U H E I hf st hg;subst hP hw hK;obtain⟨xs,x,hq,hx⟩:=hg;obtain⟨Bi,rv,p,hz⟩:=I.list hq;obtain⟨u,hu,ru⟩:=rv.get hx;obtain⟨f0,f1,f2,f3,f4,f5⟩:=hf it 'f';refine QJ st p.isList (by simpa using hu) λh' st' sb=>?_;have I1:AX X Ad U H {s with heap:=h' }:=I.turned (λb o hb e=>(sb.2 b hb).trans e) f0 f1 f3 f4 f5;obtain⟨o,e,c,d⟩:=id st';exact⟨u,rfl,Xd e c d 'g' ⟨x,H,I1,ru,⟨rfl,λys hy=>by rw[I.list_inj hy hq];exact hx⟩,st',λb hb=>(hf b hb).1⟩⟩
 done:=by
  intro X hP hw hK hF hc i Ad s U H E I hf st hg;subst hP hw hK;obtain⟨xs,hq,hx⟩:=hg;obtain⟨Bi,rv,p,hz⟩:=I.list hq;obtain⟨f0,f1,f2,f3,f4,f5⟩:=hf it 'f';have hl:=rv.length;exact R3 (I.ok.hd hc) st p.isList (by simp;ext) λh' eb=>⟨rfl,I.turned (λb o hb e=>eb b o hb e) f0 f1 f3 f4 f5⟩
 self:=λ_ _ _ _ _ st h=>wpAny_pyIter_listiter st h
def Zk0 {K:Ac}(a it:Av):MF P w K F tg (jj K a) [it] it (λi h=>h.IsTupleIter it a i) where
 mem:=by simp
 obj:=λi h st b hb=>by
  have e:b=it:=by simpa using hb
  subst e;obtain⟨o,e,c,d⟩:=st;exact⟨o,e,λv z=>by rw[d]at z;cases z⟩
 keep:=λi h h' st k=>st.at λo e=>k it 'f' o e
 item:=by
  intro X hP hw hK hF hc i Ad s U H E I hf st hg;subst hP hw hK;obtain⟨xs,x,hq,hx⟩:=hg;obtain⟨Bi,rv,p,hz⟩:=I.tuple hq;obtain⟨u,hu,ru⟩:=rv.get hx;obtain⟨f0,f1,f2,f3,f4,f5⟩:=hf it 'f';refine wpAny_pyNext_tuple_item st (show s.heap.IsTuple a Bi.toArray from p) (by simpa using hu) λh' st' sb=>?_;have I1:AX X Ad U H {s with heap:=h' }:=I.turned (λb o hb e=>(sb.2 b hb).trans e) f0 f1 f3 f4 f5;obtain⟨o,e,c,d⟩:=id st';exact⟨u,rfl,Xd e c d 'g' ⟨x,H,I1,ru,⟨rfl,λys hy=>by rw[I.tuple_inj hy hq];exact hx⟩,st',λb hb=>(hf b hb).1⟩⟩
 done:=by
  intro X hP hw hK hF hc i Ad s U H E I hf st hg;subst hP hw hK;obtain⟨xs,hq,hx⟩:=hg;obtain⟨Bi,rv,p,hz⟩:=I.tuple hq;obtain⟨f0,f1,f2,f3,f4,f5⟩:=hf it 'f';have hl:=rv.length;exact wpAny_pyNext_tuple_end (I.ok.hd hc) st (show s.heap.IsTuple a Bi.toArray from p) (by simp;ext) λh' eb=>⟨rfl,I.turned (λb o hb e=>eb b o hb e) f0 f1 f3 f4 f5⟩
 self:=λ_ _ _ _ _ st h=>wpAny_pyIter_tupleiter st h
def Zk1 {K:Ac}(it:Av)(lo:Int)(n:Nat):MF P w K F tg (iS lo n) [it] it (λi h=>MU h it (lo+(i:Nat)*1) ((n:Int)-(i:Nat)) 1) where
 mem:=by simp
 obj:=λi h st b hb=>by
  have e:b=it:=by simpa using hb
  subst e
  exact ⟨_,st,λv z=>by
   have z':=z;cases z'⟩
 keep:=λi h h' st k=>k it 'f' _ st
 item:=by
  intro X hP hw hK hF hc i Ad s U H E I hf st hg;subst hP hw hK;obtain⟨f0,f1,f2,f3,f4,f5⟩:=hf it 'f';have W:=WG (prog:=X.prog) (w:=X.w) (I.ok.hd hc) it lo 1 n;refine W.item i s _ _ hg st λv h' tk hv st' kk=>?_;obtain⟨t,rfl⟩:=hv;have I1:AX X Ad U H {s with heap:=h',toks:=tk}:=I.turned (λb o hb e=>kk b o (by simpa using hb) e) f0 f1 f3 f4 f5;refine⟨_,rfl,Xd (s:={s with heap:=h',toks:=tk}) (n:="range_iterator") st' rfl rfl 'g' ⟨.int (lo+i),H,I1,⟨t,?_⟩,⟨rfl,rfl⟩,st',λb hb=>(hf b hb).1⟩⟩;rw[dE]
 done:=by
  intro X hP hw hK hF hc i Ad s U H E I hf st hg;subst hP hw hK;obtain⟨f0,f1,f2,f3,f4,f5⟩:=hf it 'f';exact QI (I.ok.hd hc) st (by have:n<=i:=hg;ext) λh' eb=>⟨rfl,I.turned (t':=s.toks) (λb o hb e=>eb b o hb e) f0 f1 f3 f4 f5⟩
 self:=λ_ _ _ _ _ st h=>QK st h
def ZN (K:Ac)(tl:TE):TI:=λU H R=>tl U H λx H1=>∃a,x=.ref a/\(∃xs,F4 K H1 a xs)/\R (jn K a) H1
def mJ (K:Ac)(tl:TE):TI:=λU H R=>tl U H λx H1=>∃a,x=.ref a/\(∃xs,LY K H1 a xs)/\R (jj K a) H1
def ya {l:BY}{tl:TE}(hl:PE X l tl):PI X tg l (ZN X.K tl):=by
 intro Ad s U H R I h;refine Dp (hl Ad s U H _ I h) λv s1 e=>e.el λx H1 I1 r1 q1=>?_;obtain⟨a,e,⟨xs,hq⟩,q⟩:=q1;subst e;cases r1;obtain⟨Bi,rv,p,hz⟩:=I1.list hq;refine HS p.isList ?_;refine⟨s1.heap.objs.size,[s1.heap.objs.size],_,_,H1,rfl,I1.kept λb o e=>Ag _ e,Zl0 a _,⟨_,AC _ rfl,rfl,rfl⟩,λb hb=>?_,q⟩;have e:b=s1.heap.objs.size:=by simpa using hb
 subst e;exact I1.fpOk (AL _) (I1.hok.fresh (AL _))
def tq {l:BY}{tl:TE}(hl:PE X l tl):PI X tg l (mJ X.K tl):=by
 intro Ad s U H R I h;refine Dp (hl Ad s U H _ I h) λv s1 e=>e.el λx H1 I1 r1 q1=>?_;obtain⟨a,e,⟨xs,hq⟩,q⟩:=q1;subst e;cases r1;obtain⟨Bi,rv,p,hz⟩:=I1.tuple hq;refine wpAny_pyIter_tuple (show s1.heap.IsTuple a Bi.toArray from p) ?_;refine⟨s1.heap.objs.size,[s1.heap.objs.size],_,_,H1,rfl,I1.kept λb o e=>Ag _ e,Zk0 a _,⟨_,AC _ rfl,rfl,rfl⟩,λb hb=>?_,q⟩;have e:b=s1.heap.objs.size:=by simpa using hb
 subst e;exact I1.fpOk (AL _) (I1.hok.fresh (AL _))
def Rn {lo hi:Int}(I:AX X Ad U H s)(h1:-(2^62)<=lo)(h2:lo<2^62)(h3:-(2^62)<=hi)(h4:hi<2^62)
  (q:R (iS lo (hi-lo).toNat) H):Au 'd' X.A (UU (.ref s.heap.objs.size)) (bQ X Ad U tg R) E {s with heap:=s.heap.push {cls:=.type "range",data:=.fields #[.int lo t,.int hi u,.int 1 v]},toks:=tk}:=by
 refine UR (T0 ..) (small_one h1 h2 h3 h4) ?_;have I1:AX X Ad U H {s with heap:=s.heap.push {cls:=.type "range",data:=.fields #[.int lo t,.int hi u,.int 1 v]},toks:=tk}:=I.kept λb o e=>Ag _ e
 refine ⟨(s.heap.push { cls:=.type "range",data:=.fields #[.int lo t,.int hi u,.int 1 v] }).objs.size,[(s.heap.push { cls:=.type "range",data:=.fields #[.int lo t,.int hi u,.int 1 v] }).objs.size],_,_,H,rfl,
  I1.kept λb o e=>Ag _ e,Zk1 _ lo (hi-lo).toNat,?_,λb hb=>?_,q⟩
 .have e1:lo+((0:Nat):Int)*1=lo:=by simp
  have e2:(((hi-lo).toNat:Nat):Int)-((0:Nat):Int)=EE lo hi 1:=by rw[rangeSize_one];split<;>ext
  show MU _ _ (lo+((0:Nat):Int)*1) ((((hi-lo).toNat:Nat):Int)-((0:Nat):Int)) 1;rw[e1,e2];exact AC _ rfl
 .have e:b=(s.heap.push {cls:=.type "range",data:=.fields #[.int lo t,.int hi u,.int 1 v]}).objs.size:=by simpa using hb
  subst e;exact I1.fpOk (AL _) (I1.hok.fresh (AL _))
def ZM (ta:TA):TI:=λU H R=>ta U H λvs H1=>∃j,vs=[.int j]/\-(2^62)<=j/\j<2^62/\R (iS 0 j.toNat) H1
def ZlC {a:BY}(hg:Gl X "range")(hm:X.mg "range" = none)(ha:PA X [a] ta)(hs:autoParam (Ap [a] X.env=[(false,eval a X.env)]) BV):PI X tg (.Call (.Name "range" p) [a] [] pos) (ZM ta):=by
 intro Ad s U H R I h;refine Call_ (P4 I hg hm boot_range (BG (Dp (ha pos Ad s U H _ I h) λus s1 e=>e.el λvs H1 I1 r1 q1=>?_) hs rfl));obtain⟨j,e,q1,q2,q⟩:=q1;subst e;cases r1 with
 |cons r rr=>cases rr;obtain⟨t,rfl⟩:=r;exact call_range_1 (Rn I1 (by ext) (by ext) q1 q2 (by simpa using q))
def jS (wi:TI)(g:TG)(tb:TS):TS:=λD U H=>wi U H λJ H1=>∃W:Nat->Nat->St->Hp->Prop,(∃m,W 0 m U H1)/\∀i m U H,W i m U H ->
 (J.stop i H/\D.nx U H)\/(J.go i H/\∃N:St->Hp->Prop,(∀U' H',N U' H'->∃m',m' < m/\W (i+1) m' U' H')/\∀x H',J.yld i H x H'->g x U H' λU2 H2=>tb {D with nx:=N,ct:=N,bk:=D.nx} U2 H2)
noncomputable def Jh (fp:List Av)(h:CN):List (Av×Obj):=fp.filterMap λb=>(h.get? b).map λo=>(b,o)
def hZ (hb:b∈fp)(e:h.get? b=some o):(b,o)∈Jh fp h:=CT.mpr ⟨b,hb,by rw[e];rfl⟩
def b8 (hp:p∈Jh fp h):p.1∈fp/\h.get? p.1=some p.2:=by
 obtain⟨b,hb,e⟩:=CT.mp hp;cases q:h.get? b with
 |none=>rw[q]at e;cases e
 |some o=>rw[q]at e;have e':=AZ e;subst e';exact⟨hb,q⟩
def AX.pinned (I:AX X Ad U H s)(hf:∀b∈fp,JN X Ad H b)(ho:∀b∈fp,∃o,s.heap.get? b=some o/\∀v,o.data≠.cell v):AX X (Ad++Jh fp s.heap) U H s:=
 I.pins_of λp hp=>(AQ.mp hp).elim (λz=>I.pin p (AS _ z)) λz=>by
  obtain⟨hb,e⟩:=b8 z;obtain⟨f0,f1,f2,_⟩:=hf p.1 hb;obtain⟨o,e',d⟩:=ho p.1 hb;rw[e]at e';cases e';exact⟨e,f0,f1,f2,d⟩
def AX.unpinned (I:AX X (Ad++pl) U H s):AX X Ad U H s:=I.pins_of λp hp=>I.pin p (AS _ (CQ _ hp))
def ud (hp:Ql 'd' X.A X.env X.xe)(hc:X.calm=true)(hi:PI X tg iter wi)(hg:PG X tg g)(hb:K9 X body tb)
  (hs:autoParam (∀x,Bn iter X.env x=pure x) NM):PS X (.For tg iter body [] pos) (jS wi g tb):=by
 intro Ad s U H D I h;refine wpAny_For (Dp (hi Ad s U H _ I h) λv s1 h1=>Dp h1 λitv s2 h2=>?_) hs;obtain⟨it,fp,tn,J,H2,e,I2,T,st2,f2,W,⟨m0,w0⟩,turn⟩:_:=h2;subst e;have stat:∀{H':Hp},(∀b∈fp,H' b=none)->∀b∈fp,JN X Ad H' b:=λhn b hb=>⟨hn b hb,(f2 b hb).2⟩;refine codeAny_forLoop_any (λn s'=>∃i U' H',AX X Ad U' H' s'/\tn i s'.heap/\(∀b∈fp,H' b=none)/\W i n U' H') ?_ m0 ⟨0,U,H2,I2,st2,λb hb=>(f2 b hb).1,w0⟩;intro n s3 hI';refine Am λkk'=>?_;obtain⟨i,U3,H3,I3,st3,fr3,w3⟩:=hI';refine kk' ?_;clear kk';rcases turn i n U3 H3 w3 with⟨stop,qn⟩|⟨go,N,hN,XX⟩
 .refine Ey hp (Dp (T.done X rfl rfl rfl rfl hc i Ad s3 U3 H3 X.xe I3 (stat fr3) st3 stop) λr s4 ⟨hr,I4⟩=>?_);subst hr;exact Fl ⟨U3,H3,I4,qn⟩
 .refine Ey hp (Dp (T.item X rfl rfl rfl rfl hc i Ad s3 U3 H3 X.xe I3 (stat fr3) st3 go) λr s4 ⟨u,hr,h4⟩=>?_);subst hr;refine Ey hp (Dp h4 λ_ s5 ⟨x,H5,I5,r5,y5,st5,fr5⟩=>?_);have I5':=I5.pinned (stat fr5) (T.obj _ _ st5);refine Ey hp (Dp (hg _ s5 U3 H5 x u _ I5' r5 (XX x H5 y5)) λ_ s6 ⟨U6,H6,I6,q6⟩=>?_);refine Ey hp (Dp (hb _ s6 U6 H6 _ I6 q6) λf s7 q7=>?_)
  have N6:∀{U7:St} {H7:Hp},AX X (Ad++Jh fp s5.heap) U7 H7 s7->N U7 H7->∃m,m<n/\∃i U' H',AX X Ad U' H' s7/\tn i s7.heap/\(∀b∈fp,H' b=none)/\W i m U' H':=λ{U7 H7} I7 n7=>by
   obtain⟨m',hm,w7⟩:=hN U7 H7 n7;refine⟨m',hm,i+1,U7,H7,I7.unpinned,T.keep _ _ _ st5 λb hb o e=>(I7.pin (b,o) (AS _ (AS _ (hZ hb e)))).1,λb hb=>?_,w7⟩;obtain⟨o,e,d⟩:=T.obj _ _ st5 b hb;exact(I7.pin (b,o) (AS _ (AS _ (hZ hb e)))).2.1
  cases f with
  |next=>obtain⟨U7,H7,I7,n7⟩:=q7;exact N6 I7 n7
  |cont=>obtain⟨U7,H7,I7,n7⟩:=q7;exact N6 I7 n7
  |brk=>obtain⟨U7,H7,I7,q7⟩:=q7;exact⟨U7,H7,I7.unpinned,q7⟩
  |ret v=>obtain⟨x7,U7,H7,I7,r7,q7⟩:=q7;exact⟨x7,U7,H7,I7.unpinned,r7,q7⟩
abbrev R2:=V->V->Hp->VK->Prop
def Gf (X:Cx)(f:Ai->Ai->Sem Ai)(r:R2):Prop:=
 ∀(Ad:List (Av×Obj)) (s:As) (U:St) (H:Hp) (x y:V) (v u:Ai) (Q:VK),AX X Ad U H s->RelV x v->RelV y u->r x y H Q ->
  Au 'd' X.A (f v u) (EP X Ad U Q) X.xe s
def Ss (X:Cx)(f:Ai->Sem Ai)(r:V->Hp->VK->Prop):Prop:=
 ∀(Ad:List (Av×Obj)) (s:As) (U:St) (H:Hp) (x:V) (v:Ai) (Q:VK),AX X Ad U H s->RelV x v->r x H Q ->
  Au 'd' X.A (f v) (EP X Ad U Q) X.xe s
def Fo (X:Cx)(f:Ai)(r:List V->Hp->VK->Prop):Prop:=
 ∀(Ad:List (Av×Obj)) (s:As) (U:St) (H:Hp) (xs:List V) (us:List Ai) (Q:VK),AX X Ad U H s->BO xs us->r xs H Q ->
  Au 'd' X.A (Ix f us) (EP X Ad U Q) X.xe s
def YS (r:R2)(ta tb:TE):TE:=λU H Q=>ta U H λx H1=>tb U H1 λy H2=>r x y H2 Q
def jq (r:V->Hp->VK->Prop)(ta:TE):TE:=λU H Q=>ta U H λx H1=>r x H1 Q
def rI (C:Int->Int->Prop)(g:Int->Int->V):R2:=λx y H Q=>∃i j,x=.int i/\y=.int j/\C i j/\Q (g i j) H
def Qw (g:Int->Int->V):R2:=λx y H Q=>∃i j,x=.int i/\y=.int j/\Q (g i j) H
def rU (g:Int->V):V->Hp->VK->Prop:=λx H Q=>∃i,x=.int i/\Q (g i) H
section
variable {X:Cx}
def VM (ha:PE X a ta)(hb:PE X b tb){Ad:List (Av×Obj)}{s:As}{U:St}{H:Hp}{R:V->V->Hp->Prop}(I:AX X Ad U H s)
  (h:ta U H λx H1=>tb U H1 λy H2=>R x y H2) {Q:Ai->As->Prop} {f:Ai->Ai->Sem Ai}
  (hf:∀v u s2 x y H2,AX X Ad U H2 s2->RelV x v->RelV y u->R x y H2->Au 'd' X.A (f v u) Q X.xe s2) :
  Au 'd' X.A (eval a X.env) (λv s₁=>Au 'd' X.A (eval b X.env) (λu s₂=>Au 'd' X.A (f v u) Q X.xe s₂) X.xe s₁) X.xe s:=by
 refine Dp (ha Ad s U H _ I h) λv s1 e=>e.el λx H1 I1 r1 q1=>?_;refine Dp (hb Ad s1 U H1 _ I1 q1) λu s2 e=>e.el λy H2 I2 r2 q2=>?_;exact hf v u s2 x y H2 I2 r1 r2 q2
def li {op:LA}{r:R2}(ho:Gf X (Bz op) r)(ha:PE X a ta)(hb:PE X b tb):PE X (.BinOp a op b pos) (YS r ta tb):=by
 intro Ad s U H Q I h;exact wpAny_BinOp (VM ha hb I h λv u s2 x y H2 I2 rx ry q=>ho Ad s2 U H2 x y v u Q I2 rx ry q)
def lm (ho:Ss X (Nv op) r)(ha:PE X a ta):PE X (.UnaryOp op a pos) (jq r ta):=by
 intro Ad s U H Q I h;exact UnaryOp_ (Dp (ha Ad s U H _ I h) λv s1 e=>e.el λx H1 I1 r1 q1=>ho Ad s1 U H1 x v Q I1 r1 q1)
def WW {f:Ai->Ai->Sem Ai}{C:Int->Int->Prop}{g:Int->Int->Int}
  (Sy:∀i j t u s Q E,C i j->Q (.int (g i j) s.toks) {s with toks:=s.toks+1}->Au 'd' X.A (f (.int i t) (.int j u)) Q E s) :
  Gf X f (rI C λi j=>.int (g i j)):=by
 intro Ad s U H x y v u Q I rx ry h;obtain⟨i,j,rfl,rfl,hc,q⟩:=h;obtain⟨t,rfl⟩:=rx;obtain⟨t',rfl⟩:=ry;exact Sy i j t t' s _ _ hc ⟨.int (g i j),H,I.tok _,⟨_,rfl⟩,q⟩
def Rt {g:Int->Int->Int}
  (Sy:∀i j t u s Q E,Q (.int (g i j) s.toks) {s with toks:=s.toks+1}->Au 'd' X.A (f (.int i t) (.int j u)) Q E s) :
  Gf X f (Qw λi j=>.int (g i j)):=by
 intro Ad s U H x y v u Q I rx ry h;obtain⟨i,j,rfl,rfl,q⟩:=h;obtain⟨t,rfl⟩:=rx;obtain⟨t',rfl⟩:=ry;exact Sy i j t t' s _ _ ⟨.int (g i j),H,I.tok _,⟨_,rfl⟩,q⟩
def S8 {g:Int->Int->Bool}
  (Sy:∀i j t u s Q E,Q (.bool (g i j)) s->Au 'd' X.A (f (.int i t) (.int j u)) Q E s) :
  Gf X f (Qw λi j=>.bl (g i j)):=by
 intro Ad s U H x y v u Q I rx ry h;obtain⟨i,j,rfl,rfl,q⟩:=h;obtain⟨t,rfl⟩:=rx;obtain⟨t',rfl⟩:=ry;exact Sy i j t t' s _ _ ⟨.bl (g i j),H,I,rfl,q⟩
def Wt (i j:Int):Prop:=0<j/\j<1073741824
def P8 (i j:Int):Prop:=0<=j/\j<=1000000/\i.natAbs<2^64
def P9 (i j:Int):Prop:=(-(2^64)<i/\i<2^64)\/(-(2^64)<j/\j<2^64)
def P9.ok (h:P9 i j):IntMulOk i j:=by
 rcases h with⟨h1,h2⟩|⟨h1,h2⟩
 .exact .of_left (intBits_le_64 h1 h2)
 .exact .of_right (intBits_le_64 h1 h2)
def ZjZ (k:Nat):(0:Int)<=2^k:=by
 rw[two_pow_cast];exact Int.natCast_nonneg _
def p7:Gf X (Bz .Add) (Qw λi j=>.int (i+j)):=Rt λ_ _ _ _ _ _ _ q=>add_int q
def qz:Gf X (Bz .Sub) (Qw λi j=>.int (i-j)):=Rt λ_ _ _ _ _ _ _ q=>sub_int q
def qu:Gf X (Bz .Mult) (rI P9 λi j=>.int (i*j)):=WW λ_ _ _ _ _ _ _ hc q=>mul_int q hc.ok
def wt:Gf X (Bz .FloorDiv) (rI Wt λi j=>.int (i / j)):=WW λi j _ _ _ _ _ hc q=>by
 have h1:=hc.1;have h2:=hc.2;exact floordiv_int (by ext) (by rw[Mj i (by ext)];exact q) (.inl (PyProof.noPylong_small (by ext)))
def qt:Gf X (Bz .Mod) (rI (λ_ j=>0<j) λi j=>.int (i%j)):=WW λi j _ _ _ _ _ hc q=>by
 have h1:=hc;exact mod_int' (by ext) (by rw[Int.fmod_eq_emod_of_nonneg i (by ext)];exact q)
def qw:Gf X (Bz .Pow) (rI P8 λi j=>.int (i^j.toNat)):=WW λ_ _ _ _ _ _ _ hc q=>pow_int_small hc.1 hc.2.1 hc.2.2 q
def qx:Gf X (Bz .LShift) (rI P8 λi j=>.int (i*2^j.toNat)):=WW λ_ _ _ _ _ _ _ hc q=>lshift_int_small hc.1 hc.2.1 hc.2.2 q
def qy:Gf X (Bz .RShift) (rI (λ_ j=>0<=j) λi j=>.int (i / 2^j.toNat)):=WW λi j _ _ _ _ _ hc q=>
 rshift_int hc (by rw[Mj i (ZjZ _)];exact q)
def p8:Gf X (Bz .BitAnd) (Qw λi j=>.int (AF i j)):=Rt λ_ _ _ _ _ _ _ q=>and_int q
def k8:Gf X (Bz .BitOr) (Qw λi j=>.int (AM i j)):=Rt λ_ _ _ _ _ _ _ q=>or_int q
def ra:Gf X (Bz .BitXor) (Qw λi j=>.int (Bd i j)):=Rt λ_ _ _ _ _ _ _ q=>xor_int q
def sA {g:Int->Int}
  (Sy:∀i t s Q E,Q (.int (g i) s.toks) {s with toks:=s.toks+1}->Au 'd' X.A (f (.int i t)) Q E s) :
  Ss X f (rU λi=>.int (g i)):=by
 intro Ad s U H x v Q I rx h;obtain⟨i,rfl,q⟩:=h;obtain⟨t,rfl⟩:=rx;exact Sy i t s _ _ ⟨.int (g i),H,I.tok _,⟨_,rfl⟩,q⟩
def wa:Ss X (Nv .USub) (rU λi=>.int (-i)):=sA λ_ _ _ _ _ q=>neg_int q
def vz:Ss X (Nv .Invert) (rU λi=>.int (Ep i)):=sA λ_ _ _ _ _ q=>invert_int q
end
noncomputable def Vk:V->V->Bool
 |.non,.non=>true | .non,.int _=>true | .int _,.non=>true | .non,.bl _=>true | .bl _,.non=>true | .non,.str _=>true | .str _,.non=>true
 |.int _,.int _=>true | .bl _,.bl _=>true | .str _,.str _=>true | .byt _,.byt _=>true
 |.int _,.str _=>true | .str _,.int _=>true | .bl _,.str _=>true | .str _,.bl _=>true
 |_,_=>false
def j1:R2:=λx y H Q=>Vk x y=true/\Q (.bl (decide (x=y))) H
def jz:R2:=λx y H Q=>Vk x y=true/\Q (.bl (!decide (x=y))) H
def xB :decide (V.int i=V.int j)=(i == j):=by
 rw[Dz];simp
def wD :decide (V.bl i=V.bl j)=(i == j):=by
 rw[Dz];simp
def xE :decide (V.str i=V.str j)=(i == j):=by
 rw[Dz];simp
def wZ :decide (V.byt i=V.byt j)=(i.toList == j.toList):=by
 rw[Dz];cases i;cases j;simp
section
variable {X:Cx}{a b c:BY}{ta tb:TE}{pos:Pos}
def IQ (I:AX X Ad U H s)(q:Q (.bl k) H)(e:k=k'):EP X Ad U Q (.bool k') s:=by
 subst e;exact⟨.bl k,H,I,rfl,q⟩
def kq:Gf X (Bc .Eq) j1:=by
 intro Ad s U H x y v u Q I rx ry h;obtain⟨hs,q⟩:=h;cases x with
 |non=>
  cases rx;cases y with
  |non=>cases ry;exact cT (IQ I q 'f')
  |bl j=>cases ry;exact cV (IQ I q 'f')
  |int j=>obtain⟨t',rfl⟩:=ry;exact cU (IQ I q 'f')
  |str j=>obtain⟨t',rfl⟩:=ry;exact cS (IQ I q 'f')
  |_=>exact absurd (show false=true from hs) Ak
 |bl i=>
  cases rx;cases y with
  |non=>cases ry;exact cX (IQ I q 'f')
  |bl j=>cases ry;exact eq_bool (IQ I q wD)
  |str j=>obtain⟨t',rfl⟩:=ry;exact Yc (IQ I q 'f')
  |_=>exact absurd (show false=true from hs) Ak
 |int i=>
  obtain⟨t,rfl⟩:=rx;cases y with
  |non=>cases ry;exact cW (IQ I q 'f')
  |int j=>obtain⟨t',rfl⟩:=ry;exact eq_int (IQ I q xB)
  |str j=>obtain⟨t',rfl⟩:=ry;exact Yb (IQ I q 'f')
  |_=>exact absurd (show false=true from hs) Ak
 |str i=>
  obtain⟨t,rfl⟩:=rx;cases y with
  |non=>cases ry;exact cR (IQ I q 'f')
  |bl j=>cases ry;exact X9 (IQ I q 'f')
  |int j=>obtain⟨t',rfl⟩:=ry;exact X8 (IQ I q 'f')
  |str j=>obtain⟨t',rfl⟩:=ry;exact eq_str (IQ I q xE)
  |_=>exact absurd (show false=true from hs) Ak
 |byt i=>
  obtain⟨t,rfl⟩:=rx;cases y with
  |byt j=>obtain⟨t',rfl⟩:=ry;exact PySem.W.eq_bytes (IQ I q wZ)
  |_=>exact absurd (show false=true from hs) Ak
 |_=>cases y<;>exact absurd (show false=true from hs) Ak
def k7:Gf X (Bc .NotEq) jz:=by
 intro Ad s U H x y v u Q I rx ry h;obtain⟨hs,q⟩:=h;cases x with
 |non=>
  cases rx;cases y with
  |non=>cases ry;exact cL (IQ I q 'f')
  |bl j=>cases ry;exact cN (IQ I q 'f')
  |int j=>obtain⟨t',rfl⟩:=ry;exact cM (IQ I q 'f')
  |str j=>obtain⟨t',rfl⟩:=ry;exact cK (IQ I q 'f')
  |_=>exact absurd (show false=true from hs) Ak
 |bl i=>
  cases rx;cases y with
  |non=>cases ry;exact cQ (IQ I q 'f')
  |bl j=>cases ry;exact ne_bool (IQ I q (congrArg not wD))
  |str j=>obtain⟨t',rfl⟩:=ry;exact X7 (IQ I q 'f')
  |_=>exact absurd (show false=true from hs) Ak
 |int i=>
  obtain⟨t,rfl⟩:=rx;cases y with
  |non=>cases ry;exact cP (IQ I q 'f')
  |int j=>obtain⟨t',rfl⟩:=ry;exact ne_int (IQ I q (congrArg not xB))
  |str j=>obtain⟨t',rfl⟩:=ry;exact X6 (IQ I q 'f')
  |_=>exact absurd (show false=true from hs) Ak
 |str i=>
  obtain⟨t,rfl⟩:=rx;cases y with
  |non=>cases ry;exact cJ (IQ I q 'f')
  |bl j=>cases ry;exact X5 (IQ I q 'f')
  |int j=>obtain⟨t',rfl⟩:=ry;exact X4 (IQ I q 'f')
  |str j=>obtain⟨t',rfl⟩:=ry;exact ne_str (IQ I q (congrArg not xE))
  |_=>exact absurd (show false=true from hs) Ak
 |byt i=>
  obtain⟨t,rfl⟩:=rx;cases y with
  |byt j=>obtain⟨t',rfl⟩:=ry;exact PySem.W.ne_bytes (IQ I q (congrArg not wZ))
  |_=>exact absurd (show false=true from hs) Ak
 |_=>cases y<;>exact absurd (show false=true from hs) Ak
def k6:Gf X (Bc .Lt) (Qw λi j=>.bl (decide (i<j))):=S8 λ_ _ _ _ _ _ _ q=>lt_int q
def kz:Gf X (Bc .LtE) (Qw λi j=>.bl (decide (i<=j))):=S8 λ_ _ _ _ _ _ _ q=>le_int q
def ku:Gf X (Bc .Gt) (Qw λi j=>.bl (decide (j<i))):=S8 λ_ _ _ _ _ _ _ q=>gt_int q
def kt:Gf X (Bc .GtE) (Qw λi j=>.bl (decide (j<=i))):=S8 λ_ _ _ _ _ _ _ q=>ge_int q
def xn:Gf X (Bc .IsNot) (λx y H Q=>y=.non/\Q (.bl (!decide (x=.non))) H):=by
 intro Ad s U H x y v u Q I rx ry h;obtain⟨rfl,q⟩:=h;cases ry;refine isnot_none_gen (IQ I q ?_)
 cases x<;>first
  |(cases rx;rfl)
  |(obtain⟨t,rfl⟩:=rx;rfl)
def nomark (b:BY)(h:autoParam (op≠.In) Gy)(h2:autoParam (op≠.NotIn) Gy):Gj op b=false:=by
 have e1:(op == CmpOp.In)=false:=by cases op<;>first | rfl | exact absurd rfl h
 have e2:(op == CmpOp.NotIn)=false:=by cases op<;>first | rfl | exact absurd rfl h2
 cases b<;>simp[Gj,e1,e2]
def xv {op:CmpOp}{r:R2}(ho:Gf X (Bc op) r)(ha:PE X a ta)(hb:PE X b tb)(hm:Gj op b=false):PE X (.Compare a [op] [b] pos) (YS r ta tb):=by
 intro Ad s U H Q I h;exact wpAny_Compare1 (VM ha hb I h λv u s2 x y H2 I2 rx ry q=>ho Ad s2 U H2 x y v u Q I2 rx ry q) hm
def YO (t:TE):TT:=λU H Q=>t U H λx H'=>∃k,x=.bl k/\Q k H'
def ym (ho:Gf X (Bc op) r)(ha:PE X a ta)(hb:PE X b tb)(hm:Gj op b=false):PT X (.Compare a [op] [b] pos) (YO (YS r ta tb)):=by
 intro Ad s U H Q I h
 refine wpAny_isTrue_Compare1 (Dp (ha Ad s U H _ I h) λv s1 e=>e.el λx H1 I1 r1 q1=>Dp (hb Ad s1 U H1 _ I1 q1) λu s2 e=>e.el λy H2 I2 r2 q2 =>
  Dp (ho Ad s2 U H2 x y v u _ I2 r1 r2 q2) λc s3 e=>e.el λz H3 I3 r3 ⟨k,e,q3⟩=>?_) hm
 subst e;cases r3;exact DN ⟨H3,I3,q3⟩
def Rh (r r':R2)(ta tb tc:TE):TE:=λU H Q=>ta U H λx H1=>tb U H1 λy H2=>r x y H2 λz H3=>∃k,z=.bl k /\
 (if k=true then tc U H3 λw' H4=>r' y w' H4 Q else Q (.bl false) H3)
def Ζ (ho:Gf X (Bc op) r)(ho':Gf X (Bc op') r')(ha:PE X a ta)(hb:PE X b tb)(hc:PE X c tc)
  (hm:autoParam (lastMarks [op,op'] [b,c]=false) tP):PE X (.Compare a [op,op'] [b,c] pos) (Rh r r' ta tb tc):=by
 intro Ad s U H Q I h
 refine Compare_chain (Dp (ha Ad s U H _ I h) λv s1 e=>e.el λx H1 I1 r1 q1=>chain_link (Dp (hb Ad s1 U H1 _ I1 q1) λu s2 e=>e.el λy H2 I2 r2 q2 =>
  Dp (ho Ad s2 U H2 x y v u _ I2 r1 r2 q2) λd s3 e=>e.el λz H3 I3 r3 ⟨k,e,q3⟩=>?_)) hm
 subst e;cases r3;refine DN ?_;cases k with
 |false=>exact ite_ff ⟨.bl false,H3,I3,rfl,q3⟩
 |true=>exact ite_tt (chain_last (Dp (hc Ad s3 U H3 _ I3 q3) λw' s4 ⟨z',H4,I4,r4,q4⟩=>ho' Ad s4 U H4 y z' u w' Q I4 r2 r4 q4))
def K3:(An:Nat)<2^63:=by rw[HU];decide
def Zkj:Gf X (Bz .Add) (λx y H Q=>∃i j,x=.str i/\y=.str j/\i.length+j.length<=An/\Q (.str (i++j)) H):=by
 intro Ad s U H x y v u Q I rx ry h;obtain⟨i,j,rfl,rfl,hz,q⟩:=h;obtain⟨t,rfl⟩:=rx;obtain⟨t',rfl⟩:=ry;exact add_str (λt' tk=>⟨.str (i++j),H,I.tok _,⟨_,rfl⟩,q⟩) hz
def Ha (r:BO [x] us):∃u,us=[u]/\RelV x u:=by
 cases r with
 |cons r1 r2=>cases r2;exact⟨_,rfl,r1⟩
def Nd (r:BO [x,y] us):∃u w',us=[u,w']/\RelV x u/\RelV y w':=by
 cases r with
 |cons r1 r2=>
  cases r2 with
  |cons r3 r4=>cases r4;exact⟨_,_,rfl,r1,r3⟩
def ZmK (hc:X.calm=true):Fo X (.builtin "max") (λxs H Q=>∃i j,xs=[.int i,.int j]/\Q (.int (if j > i then j else i)) H):=by
 intro Ad s U H xs us Q I r h;obtain⟨i,j,rfl,q⟩:=h;obtain⟨u,w',e1',⟨t,e2'⟩,⟨t',e3'⟩⟩:_:=Nd r;refine max_two_ints (I.ok.hd hc) λh' tk k=>⟨_,H,I.kept k,?_,q⟩;by_cases hj:j > i
 .rw[if_pos hj,if_pos hj];exact⟨_,rfl⟩
 .rw[if_neg hj,if_neg hj];exact⟨_,rfl⟩
def ZmJ (hc:X.calm=true):Fo X (.builtin "min") (λxs H Q=>∃i j,xs=[.int i,.int j]/\Q (.int (if j<i then j else i)) H):=by
 intro Ad s U H xs us Q I r h;obtain⟨i,j,rfl,q⟩:=h;obtain⟨u,w',e1',⟨t,e2'⟩,⟨t',e3'⟩⟩:_:=Nd r;refine min_two_ints (I.ok.hd hc) λh' tk k=>⟨_,H,I.kept k,?_,q⟩;by_cases hj:j<i
 .rw[if_pos hj,if_pos hj];exact⟨_,rfl⟩
 .rw[if_neg hj,if_neg hj];exact⟨_,rfl⟩
end
structure OT (h:CN)(x dx C:Av)(mA:Str->Option Ai):Prop where
 obj:h.get? x=some (Dm C dx)
 ns:h.Ns1 dx mA
 ne:dx≠x
def Zm5 {h:CN}(n:h.Ns1 dx mA):∃od,h.get? dx=some od/\∀name,HX name od=some (mA name):=by
 obtain⟨o,es,ep,ho,hd,hk,_,hm⟩:_:=n;refine⟨o,ho,λname=>?_⟩;have e:=hm name;unfold nsFind findBy at e;rw[<- Array.find?_toList]at e;unfold HX;rw[hd];dsimp only;split
 .rename_i y q;rw[q]at e;exact congrArg some e
 .rename_i q;rw[q]at e
  have a:es.toList.any (·.refKey)=false:=by
   rw[Q4];intro y hy;obtain⟨z,t,hkey⟩:=hk y (IF.mp hy);simp[DictEntry.refKey,hkey]
  have a':¬es.toList.any (·.refKey)=true:=by rw[a];exact Ak
  rw[if_neg a'];exact congrArg some e
def OT.look (I:OT h x dx C mA):∃od,PySem.W.InstAt h x (Dm C dx) C (some od)/\∀name,HX name od=some (mA name):=
 let ⟨od,ho,hl⟩:=Zm5 I.ns
 ⟨od,⟨I.obj,rfl,rfl,ho⟩,hl⟩
section
variable {K:Ac}
def uv (X:K.In s.heap)(I:OT s.heap x dx C mA)(hg:G7 K C name=true)(hh:Ju K C=true)
  (ha:CV K (.ref C) name=some none) (hv:mA name=some v) (hv':Pr v=true) (h:Q v {s with toks:=s.toks+1}) :
  Au 'm' A (getAttr (.ref x) name expr) Q E s:=by
 obtain⟨od,J,hl⟩:=I.look;exact PySem.W.get_value X J (ML hg).1 (PySem.W.findObj_own hh ha rfl (by rw[hl,hv])) hv' h
def ι (X:K.In s.heap)(I:OT s.heap x dx C mA)(hg:G7 K C name=true)
  (hf:CV K (.ref C) name=some (some (.ref f))) (ht:Me K (.ref f)=true) (hv:mA name=none) (h:Q (.ref f,[.ref x]) s) :
  Au 'm' A (Kd (.ref x) name pl) Q E s:=by
 obtain⟨od,J,hl⟩:=I.look;exact PySem.W.method_fn X J (ML hg).1 (ML hg).2 hf (beq_iff_eq.mp ht) (by show(HX name od).map (·.isSome)=some false;rw[hl,hv];rfl) h
def xl (X:K.In s.heap)(I:OT s.heap x dx C mA)
  (hs:CV K (.ref C) "__setattr__" = some (some (.builtin "object.__setattr__"))) (hp:OY K C=true) (ht:Kt K C name=some none) (hh:Ju K C=true)
  (hw:Na mA ns) (hsz:ns.length<=An)
  (h:∀h',OT h' x dx C (λy=>if y=name then some v else mA y)->BM dx s.heap h'->Q () {s with heap:=h',toks:=s.toks+2}) :
  Au 'm' A (setAttr (.ref x) name v) Q E s:=by
 obtain⟨od,J,hl⟩:=I.look;refine PySem.W.set_plain X J hs (PySem.W.osa_open X J hp ht λb=>?_);obtain⟨cd,hc,hd'⟩:=PySem.W.any_some hh;have hx:=I.obj;refine Aa (Ae (Aa (Aa (wpAny_loadPart hx (Aa (X3 (PySem.W.looks_clsIn X hc) ?_))))));rw[hd'];refine Ae (Aa (Ae (Aa ?_)));refine wpAny_nsSet1 I.ns λh' hn2 hs2=>?_;obtain⟨oD,esD,epD,hoD,hdD,hcD⟩:=hn2.count (cI name v hw);refine Aa (wpAny_lookBehind hoD (by rw[hdD];exact pastItsLine_dict (A4 hcD (by rw[AO];ext))) ?_);exact Ae (h _ ⟨(hs2.2 _ (Bk I.ne)).trans I.obj,hn2,I.ne⟩ hs2)
def σ (X:K.In s.heap)(hm:Qj K C=true)
  (hi:CV K (.ref C) "__init__" = some (some (.ref f))) (hf:PySem.W.typeIn K (.ref f)=some (.type "function"))
  (h:D4 'm' (A.under (.builtin "type.__call__" ⟨.ref C::vs,kw⟩)) (.call (.ref f) ⟨.ref (s.heap.objs.size+1)::vs,kw⟩) (PySem.W.InitBack (s.heap.objs.size+1) R)
   { s with heap:=(s.heap.push Cz).push (Dm C s.heap.objs.size) }) :
  D4 'm' A (.call (.ref C) ⟨vs,kw⟩) R s:=by
 obtain⟨hh,g,d,t,os⟩:=s;exact PySem.W.make_core (PySem.W.makes_of X hm) (PySem.W.looks_findIn X hi) (λself=>PySem.W.bind_fn X self hf) (.inl rfl) h
end
noncomputable def HL (f:Str)(v:V):List (Str×V)->List (Str×V)
 |[]=>[(f,v)]
 |(g,x)::r=>if g=f then(g,v)::r else(g,x)::HL f v r
theorem fc (f g:Str)(v:V):∀fs,(HL f v fs).lookup g=if g=f then some v else fs.lookup g
 |[]=>by
  show BL g [(f,v)]=_;by_cases h:g=f
  .have hb:=beq_iff_eq.mpr h;simp only[BL,hb,if_pos h]
  .have hb:=beq_eq_false_iff_ne.mpr h;simp only[BL,hb,if_neg h]
 |(k,x)::r=>by
  have ih:=fc f g v r;rw[show HL f v ((k,x)::r)=(if k=f then(k,v)::r else(k,x)::HL f v r)from rfl];by_cases hk:k=f
  .rw[if_pos hk];by_cases h:g=k
   .have hb:=beq_iff_eq.mpr h;simp only[BL,hb,if_pos (h.trans hk)]
   .have hb:=beq_eq_false_iff_ne.mpr h;simp only[BL,hb,if_neg (λe:g=f=>h (e.trans hk.symm))]
  .rw[if_neg hk];by_cases h:g=k
   .have hb:=beq_iff_eq.mpr h;simp only[BL,hb,if_neg (λe:g=f=>hk (h.symm.trans e))]
   .have hb:=beq_eq_false_iff_ne.mpr h;simp only[BL,hb];exact ih
theorem qL (f:Str)(v:V):∀fs,f∈(HL f v fs).map (·.1)/\∀g,g∈fs.map (·.1)->g∈(HL f v fs).map (·.1)
 |[]=>⟨by simp[HL],λg h=>by simp at h⟩
 |(k,x)::r=>by
  obtain⟨i1,i2⟩:=qL f v r;rw[show HL f v ((k,x)::r)=(if k=f then(k,v)::r else(k,x)::HL f v r)from rfl];by_cases hk:k=f
  .rw[if_pos hk];subst hk;exact⟨by simp,λg h=>by simpa using h⟩
  .rw[if_neg hk];refine⟨?_,λg h=>?_⟩
   .rw[AU];exact Ay _ i1
   .rw[AU]at h ⊢;rcases AR.mp h with e|e
    .exact AR.mpr (.inl e)
    .exact Ay _ (i2 g e)
theorem fb (f:Str)(v:V):∀fs,(HL f v fs).length<=fs.length+1
 |[]=>by simp[HL]
 |(k,x)::r=>by
  have ih:=fb f v r;rw[show HL f v ((k,x)::r)=(if k=f then(k,v)::r else(k,x)::HL f v r)from rfl];by_cases hk:k=f
  .rw[if_pos hk,AO,AO];ext
  .rw[if_neg hk,AO,AO];ext
def IK.some_of (r:IK (some v) o):∃u,o=some u/\RelV v u:=by
 cases o with
 |none=>exact(show False from r).elim
 |some u=>exact⟨u,rfl,r⟩
def IK.none_of (r:IK none o):o=none:=by
 cases o with
 |none=>rfl
 |some u=>exact(show False from r).elim
def Zml (r:RelV v u):Pr u=true:=by
 cases v with
 |non=>cases(show u=Gp from r);rfl
 |bl b=>cases(show u=Jt b from r);rfl
 |int i=>obtain⟨t,e⟩:=(show∃t,u=DS i t from r);cases e;rfl
 |str x=>obtain⟨t,e⟩:=(show∃t,u=Ds x t from r);cases e;rfl
 |byt b=>obtain⟨t,e⟩:=(show∃t,u=WJ b t from r);cases e;rfl
 |flt b=>obtain⟨t,e⟩:=(show∃t,u=N7 b t from r);cases e;rfl
 |ref a=>cases(show u=AE a from r);rfl
 |ty n=>cases(show u=D0 n from r);rfl
def fP (hok:HQ P w H h)(e:H a=some (.ins C dx fs)):∃mA,OT h a dx C mA/\(∀f,IK (fs.lookup f) (mA f))/\Na mA (fs.map (·.1))/\fs.length<=1000/\H dx=some (.own a):=by
 obtain⟨d,z,ne,ob,mA,n,r,q⟩:=(show CK P w H h a (.ins C dx fs)from hok a _ e);exact⟨mA,⟨ob,n,ne⟩,r,q,z,d⟩
structure OW (K:Ac)(C:Av):Prop where
 pg:G7 K C Str.empty=true
 hd:Ju K C=true
 po:OY K C=true
 sa:CV K (.ref C) "__setattr__" = some (some (.builtin "object.__setattr__"))
def OW.get {K:Ac}(c:OW K C)(f:Str):G7 K C f=true:=c.pg
def Eb (K:Ac)(C:Av)(f:Str):Prop:=CV K (.ref C) f=some none
def Eb.taker {K:Ac}(n:Eb K C f):Kt K C f=some none:=by
 unfold Kt;rw[show CV K (.ref C) f=some none from n];rfl
structure TH (K:Ac)(C:Av)(m:Str)(f:Av):Prop where
 at_:CV K (.ref C) m=some (some (.ref f))
 fn:Me K (.ref f)=true
 kp:Fc K (.ref f)=true
def ZkD (I:AX X Ad U H s)(e:H a=some (.ins C dx fs))(c:OW X.K C)(n:Eb X.K C f)(l:fs.lookup f=some v)
  (h:∀u s',AX X Ad U H s'->RelV v u->Q u s'):Au 'd' A (getAttr (.ref a) f b) Q E s:=by
 obtain⟨mA,O,r,_,_,_⟩:=fP I.hok e;obtain⟨u,hu,ru⟩:=IK.some_of (by rw[<- l];exact r f);exact uv I.kIn O (c.get f) c.hd n hu (Zml ru) (h u _ (I.tok _) ru)
def cx (I:AX X Ad U H s)(e:H a=some (.ins C dx fs))(c:OW X.K C)(k:TH X.K C m g)(l:fs.lookup m=none)
  (h:Q (.ref g,[.ref a]) s):Au 'd' A (Kd (.ref a) m pl) Q E s:=by
 obtain⟨mA,O,r,_,_,_⟩:=fP I.hok e;have hn:=IK.none_of (by rw[<- l];exact r m);exact ι I.kIn O (c.get m) k.at_ k.fn hn h
def Zka (I:AX X Ad U H s)(e:H a=some (.ins C dx fs))(c:OW X.K C)(n:Eb X.K C f)(hl:fs.length<1000)(ry:RelV y u)
  (h:∀s',AX X Ad U (CI H a (.ins C dx (HL f y fs))) s'->Q () s'):Au 'd' A (setAttr (.ref a) f u) Q E s:=by
 obtain⟨mA,O,r,wi,_,ho⟩:=fP I.hok e;have hz:(fs.map (·.1)).length<=An:=by rw[Ab,HU];ext
 refine xl I.kIn O c.sa c.po n.taker c.hd wi hz λh' O' sb=>h _ ?_;have hd:∃o,h'.get? dx=some o:=let ⟨o,_,_,e',_⟩:=O'.ns;⟨o,e'⟩;refine I.write (by rw[e];exact Cu) (.inr ho) (λb q hb z=>(sb.2 b hb).trans z) hd ?_;refine⟨by rw[Iq O.ne];exact ho,?_,O.ne,O'.obj,_,O'.ns,λg=>?_,λg hg=>?_⟩
 .have:=fb f y fs;ext
 .show IK ((HL f y fs).lookup g) (if g=f then some u else mA g);rw[fc];by_cases q:g=f
  .rw[if_pos q,if_pos q];exact ry
  .rw[if_neg q,if_neg q];exact r g
 .by_cases q:g=f
  .rw[q];exact(qL f y fs).1
  .refine(qL f y fs).2 g (wi g λz=>hg ?_);show(if g=f then some u else mA g)=none;rw[if_neg q];exact z
def AX.made (I:AX X Ad U H s):AX X Ad U (CI (CI H s.heap.objs.size (.own (s.heap.objs.size+1))) (s.heap.objs.size+1) (.ins C s.heap.objs.size []))
  {s with heap:=(s.heap.push Cz).push (Dm C s.heap.objs.size)}:=by
 have e1:(s.heap.push Cz).get? s.heap.objs.size=some Cz:=AC s.heap rfl
 have e2:((s.heap.push Cz).push (Dm C s.heap.objs.size)).get? (s.heap.objs.size+1)=some (Dm C s.heap.objs.size):=by
  have:=AC (s.heap.push Cz) (o:=Dm C s.heap.objs.size) rfl;rwa[GC]at this
 have e3:(s.heap.push Cz).Ns s.heap.objs.size (λ_=>none):=⟨Cz,#[],_,e1,rfl,(λe he=>absurd he 'f'),λ_=>rfl⟩;have I1:=I.laid (o:=.own (s.heap.objs.size+1)) (h':=s.heap.push Cz) (t':=s.toks) (λb u q=>Ag _ q) (AL _) ⟨_,e1⟩;refine I1.laid (λb u q=>Ag _ q) (Yd (GC _ _)) ?_;have ne:s.heap.objs.size≠s.heap.objs.size+1:=A6 (FI _);refine⟨by rw[Iq ne,MX],Ej _,ne,e2,λ_=>none,(Heap.Ns1.of_empty e3).at λo q=>Ag _ q,λ_=>Cu,λy hy=>absurd rfl hy⟩
def wg (hb:CL e f env (eval e env)=eval e env)
  (h:Au 'm' A (eval e env) (λo s₁=>Au 'm' A (getAttr o f true) Q E s₁) E s):Au 'm' A (eval (.Attribute e f pos) env) Q E s:=
 Attribute_any_ h (by rw[arm_eval_Attribute,hb])
def jT (K:Ac)(ta:TE)(f:Str):TE:=λU H Q=>ta U H λx H1=>∃a C dx fs v,x=.ref a/\H1 a=some (.ins C dx fs)/\OW K C/\Eb K C f/\fs.lookup f=some v/\Q v H1
def jY (K:Ac)(ta tv:TE)(f:Str):TS:=λD U H=>tv U H λy H1=>ta U H1 λx H2=>∃a C dx fs,x=.ref a/\H2 a=some (.ins C dx fs)/\OW K C/\Eb K C f/\fs.length<1000 /\
 D.nx U (CI H2 a (.ins C dx (HL f y fs)))
def su (he:PE X e ta)(hb:CL e f X.env (eval e X.env)=eval e X.env):PE X (.Attribute e f pos) (jT X.K ta f):=by
 intro Ad s U H Q I h;refine wg hb (Dp (he Ad s U H _ I h) λu s1 e=>e.el λx H1 I1 rx ⟨a,C,dx,fs,v,ex,ea,c,n,l,q⟩=>?_);subst ex;obtain rfl:u=AE a:=rx;exact ZkD I1 ea c n l λu' s2 I2 ru=>⟨v,H1,I2,ru,q⟩
def uc (ha:PE X o ta)(hv:PE X value tv)(hs:C0 value (some (.Attribute o f pos')) pos.line X.env=pure false):PS X (.Assign [.Attribute o f pos'] value pos) (jY X.K ta tv f):=by
 intro Ad s U H D I h;refine plainObj_wpAny_Assign_Attribute (Dp (hv Ad s U H _ I h) λu s1 e=>e.el λy H1 I1 ry q=>Dp (ha Ad s1 U H1 _ I1 q) λov s2 e=>e.el λx H2 I2 rx ⟨a,C,dx,fs,ex,ea,c,n,l,q2⟩=>?_) hs;subst ex;obtain rfl:ov=AE a:=rx;exact Zka I2 ea c n l ry λs3 I3=>⟨U,_,I3,q2⟩
inductive IJ (K:Ac)(H:Hp):V->Ai->Prop where
 |non:IJ K H .non (.type "NoneType")
 |bl (x:Bool):IJ K H (.bl x) (.type "bool")
 |int (i:Int):IJ K H (.int i) (.type "int")
 |str (x:Str):IJ K H (.str x) (.type "str")
 |flt (x:UInt64):IJ K H (.flt x) (.type "float")
 |lst {a:Av} {xs:List V} (e:H a=some (.lst xs)):IJ K H (.ref a) (.type "list")
 |frz {a:Av} {o:Obj} {xs:List V} (e:H a=some (.frz o (.lst xs))):IJ K H (.ref a) (.type "list")
 |tup {a:Av} {xs:List V} (e:H a=some (.tup xs)):IJ K H (.ref a) (.type "tuple")
 |dK {a:Av} {AG:List (Ck×V)} (e:H a=some (.dK AG)):IJ K H (.ref a) (.type "dict")
 |dT {a:Av} {AG:List (List Ck×V)} (e:H a=some (.dT AG)):IJ K H (.ref a) (.type "dict")
 |ins {a C dx:Av} {fs:List (Str×V)} (e:H a=some (.ins C dx fs)) (cl:OW K C) (ha:CV K (.ref C) "__class__" = some (some (.builtin "object.__class__")))
   (hn:PySem.W.specialIn K (.builtin "object.__class__") "__get__" = some (some (.builtin "getset_descriptor.__get__"))) (htk:PySem.W.takesIn K (.builtin "object.__class__")=some true)
   (hm:PySem.W.mroIn K C (.type "object")=some true):IJ K H (.ref a) (.ref C)
def gZ (I:AX X Ad U H s)(rx:RelV x u)(ty:IJ X.K H x t)(e:CU X.K t c=some b)(h:∀tk,Q (.bool b) {s with toks:=tk}) :
  Au 'd' A (Ix (.builtin "isinstance") [u,c]) Q E s:=by
 cases ty with
 |non=>cases(show u=Gp from rx);exact EJ PySem.W.kitx_none I.kIn Cu e (λz=>nomatch z) h
 |bl y=>cases(show u=Jt y from rx);exact EJ PySem.W.kitx_bool I.kIn Cu e (λz=>nomatch z) h
 |int i=>obtain⟨t,q⟩:=(show∃t,u=DS i t from rx);cases q;exact EJ PySem.W.kitx_int I.kIn Cu e (λz=>nomatch z) h
 |str y=>obtain⟨t,q⟩:=(show∃t,u=Ds y t from rx);cases q;exact EJ PySem.W.kitx_str I.kIn Cu e (λz=>nomatch z) h
 |flt y=>obtain⟨t,q⟩:=(show∃t,u=N7 y t from rx);cases q;exact EJ PySem.W.kitx_float I.kIn Cu e (λz=>nomatch z) h
 | @lst a xs ea=>cases(show u=AE a from rx);obtain⟨_,_,n,_,h1⟩:=(show CK X.prog X.w H s.heap a (.lst xs)from I.hok a _ ea);exact EJ Qb I.kIn ⟨_,h1,rfl⟩ e (λz=>nomatch z) h
 | @frz a ob xs ea=>cases(show u=AE a from rx);obtain⟨_,_,_,n,_,h1⟩:=(show CK X.prog X.w H s.heap a (.frz ob (.lst xs))from I.hok a _ ea);exact EJ Qb I.kIn ⟨_,h1,rfl⟩ e (λz=>nomatch z) h
 | @tup a xs ea=>cases(show u=AE a from rx);obtain⟨_,_,_,p⟩:=(show CK X.prog X.w H s.heap a (.tup xs)from I.hok a _ ea);obtain⟨o,h1,h2,_⟩:=p;exact EJ UV I.kIn ⟨o,h1,h2⟩ e (λz=>nomatch z) h
 | @dK a AG ea=>cases(show u=AE a from rx);obtain⟨_,_,vs,_,p⟩:=(show CK X.prog X.w H s.heap a (.dK AG)from I.hok a _ ea);obtain⟨o,es,ep,h1,h2,_⟩:=p;exact EJ L9 I.kIn ⟨o,h1,h2.1⟩ e (λz=>nomatch z) h
 | @dT a AG ea=>cases(show u=AE a from rx);obtain⟨_,_,xs,_,o,es,ep,h1,h2,_⟩:=(show CK X.prog X.w H s.heap a (.dT AG)from I.hok a _ ea);exact EJ L9 I.kIn ⟨o,h1,h2.1⟩ e (λz=>nomatch z) h
 | @ins a C dx fs ea cl ha hn htk hm=>cases(show u=AE a from rx);obtain⟨mA,O,_⟩:=fP I.hok ea;obtain⟨od,J,_⟩:=O.look;exact EJ (PySem.W.kitx_own (cl.get _) cl.hd ha hn htk hm) I.kIn J e (λz=>nomatch z) h
structure Db (k:Nat)(A:CH):Prop where
 hd:A.handled=none
 dp:A.depth+3*k+5<iZ
 un:A.units+16*k+200<D8
def Db.mono (r:Db k A)(h:j<=k):Db j A:=⟨r.hd,by have:=r.dp;ext,by have:=r.un;ext⟩
theorem Db.deeper (r:Db (k+1) A)(env:Env):Db k (A.deeper env):=
 ⟨r.hd,by have:=r.dp;show A.depth+1+3*k+5<_;ext,by have:=r.un;show A.units+3+16*k+200<_;ext⟩
def Zkt {A:CH} :(A.under (.builtin "type.__call__" ⟨.ref C::us,kw⟩)).depth=A.depth+1:=by
 first | rfl | simp[MV,Code.weight,Code.isCreation,Code.isGuard,Code.isCaller,Yn,ND,guardIds]
def Zks {A:CH} :(A.under (.builtin "type.__call__" ⟨.ref C::us,kw⟩)).units=A.units+1:=by
 first | rfl | simp[MV,Code.cUnits,Yn,ND]
def Db.make (r:Db (k+1) A)(C:Av)(us:List Ai)(kw:List (Str×Ai)):Db k (A.under (.builtin "type.__call__" ⟨.ref C::us,kw⟩)):=
 ⟨r.hd,by have:=r.dp;rw[Zkt];ext,by have:=r.un;rw[Zks];ext⟩
theorem Db.depth (r:Db k A):A.depth<iZ:=by have:=r.dp;ext
theorem Db.units (r:Db k A):A.units+64<D8:=by have:=r.un;ext
def YU:TA:=λ_ H Q=>Q [] H
def Y1 (ta:TE)(tr:TA):TA:=λU H Q=>ta U H λx H1=>tr U H1 λxs H2=>Q (x::xs) H2
def fM:PA X [] YU:=λ_ _ _ _ H Q I h=>G0 ⟨[],H,I,.nil,h⟩
def fU (ha:PE X e te)(hr:PA X es t)(hs:autoParam (Ap (e::es) X.env=(false,eval e X.env)::Ap es X.env) BV):PA X (e::es) (Y1 te t):=by
 intro pos Ad s U H Q I h;rw[hs];show Au _ _ (WA ((false,eval e X.env)::B5 pos (Ap es X.env))) _ _ s;refine Gs (Dp (ha Ad s U H _ I h) λu s1 e=>e.el λx H1 I1 r1 q1=>?_);exact Dp (hr pos Ad s1 U H1 _ I1 q1) λus s2 e=>e.el λxs H2 I2 r2 q2=>⟨x::xs,H2,I2,.cons r1 r2,q2⟩
def jL (t:TA):TE:=λU H Q=>t U H λxs H1=>xs.length<=An/\∀p,H1 p=none->Q (.ref p) (CI H1 p (.tup xs))
def jQ (t:TA):TE:=λU H Q=>t U H λxs H1=>xs.length<=An/\∀p,H1 p=none->Q (.ref p) (CI H1 p (.lst xs))
def tf {x1}(h:PA X es t):PE X (.Tuple es x1 pos) (jL t):=by
 intro Ad s U H Q I hq;refine wpAny_Tuple_spliced (Dp (h pos Ad s U H _ I hq) λus s1 e=>e.el λxs H1 I1 r ⟨z,q⟩=>⟨by rw[<- r.length];exact z,?_⟩);have hf:=I1.hok.fresh (AL _);refine⟨.ref s1.heap.objs.size,CI H1 s1.heap.objs.size (.tup xs),I1.laid (λb u e=>Ag _ e) (AL _) ?_,rfl,q _ hf⟩;exact⟨z,us,r,MG.new _ _⟩
def wY (h:PA X es t):PE X (.List es pos) (jQ t):=by
 intro Ad s U H Q I hq;refine wpAny_List_spliced (Dp (h pos Ad s U H _ I hq) λus s1 e=>e.el λxs H1 I1 r ⟨z,q⟩=>⟨by rw[<- r.length];exact z,?_⟩);have hf:=I1.hok.fresh (AL _);refine⟨.ref s1.heap.objs.size,CI H1 s1.heap.objs.size (.lst xs),I1.laid (λb u e=>Ag _ e) (AL _) ?_,rfl,q _ hf⟩;exact⟨z,us,0,r,AC _ rfl⟩
abbrev Sp:=List V->Hp->VK->XK->Prop
abbrev Ws:=List Env->Hp->As->XK->Ai->As->Prop
structure OV (P:Bs)(w:BK)(K:Ac)(mg:Str->Option Ai)(base:CN)(A:CH)(outer:List Env)(s:As)(H:Hp):Prop where
 frames:A.frames=some outer
 mod:Mod K mg base
 bs:∀b o,base.get? b=some o->s.heap.get? b=some o/\H b=none
 bsz:base.objs.size<=s.heap.objs.size
 funs:s.heap.FunFrames base outer
 frf:∀b∈Eu outer,H b=none
 hok:HQ P w H s.heap
 bare:G9 s.gens
def CE (outer:List Env)(P:Bs)(w:BK)(H:Hp)(s:As)(Q:VK)(u:Ai)(s':As):Prop:=
 ∃v H',s'.os=s.os/\G9 s'.gens/\Un (Eu outer) [] H H' s.heap s'.heap/\HQ P w H' s'.heap/\RelV v u/\Q v H'
def CR (CX:Ws)(outer:List Env)(P:Bs)(w:BK)(H:Hp)(s:As)(Q:VK)(E:XK)(r:UZ)(s':As):Prop:=
 match r with
 |.ok (.ret u)=>CE outer P w H s Q u s'
 |.ok _=>False
 |.error e=>CX outer H s E e s'
structure FnOk (P:Bs)(w:BK)(K:Ac)(mg:Str->Option Ai)(base:CN)(CX:Ws)(k:Nat)(f:Av)(fd:Dy)(ps:List Str)(sp:Sp):Prop where
 len:∀vs H Q E,sp vs H Q E->vs.length=ps.length
 run:∀(A:CH) (outer:List Env) (s:As) (H:Hp) (args:Args) (us:List Ai) (vs:List V) (Q:VK) (E:XK),Db k A->OV P w K mg base A outer s H->NE s fd args (ps.zip us)->BO vs us->sp vs H Q E ->
  D4 (Ax P w) A (.call (.ref f) args) (CR CX outer P w H s Q E) s
theorem FnOk.mono {K:Ac}(F:FnOk P w K mg base CX j f fd ps sp)(h:j<=k) :
  FnOk P w K mg base CX k f fd ps sp:=⟨F.len,λA outer s H args us vs Q E hr=>F.run A outer s H args us vs Q E (hr.mono h)⟩
def OV.make {K:Ac}(e:OV P w K mg base A outer s H)(C:Av)(us:List Ai)(kw:List (Str×Ai)) :
  OV P w K mg base (A.under (.builtin "type.__call__" ⟨.ref C::us,kw⟩)) outer s H:=⟨by first | exact e.frames | (simpa[MV,Code.envs,ND,pushEnvs]using e.frames),e.mod,e.bs,e.bsz,e.funs,e.frf,e.hok,e.bare⟩
def AX.env0 (I:AX X Ad U H s):OV X.prog X.w X.K X.mg X.base X.A X.stack s H:=
 ⟨I.ok.frames,I.ok.mod,I.bs,A4 I.ok.bsz I.sz,I.stack,I.stkFree,I.hok,I.bare⟩
def AX.after (I:AX X Ad U H s)(h:CE X.stack X.prog X.w H s Q u s'):EP X Ad U Q u s':=by
 obtain⟨v,H',os,bare,un,hok,r,q⟩:_:=h;obtain⟨hh,g,d,t,os'⟩:=s';obtain rfl:os'=s.os:=os;exact⟨v,H',I.call un hok bare (λb z=>absurd z 'f'),r,q⟩
def Uk (sp:Sp)(dvs:List V)(E:XK)(t:TA):TE:=λU H Q=>t U H λvs H1=>sp (vs++dvs) H1 Q E
def Rf (C:Av)(m:Str)(sp:Sp)(dvs:List V)(E:XK)(ta:TE)(t:TA):TE:=λU H Q=>ta U H λx H1=>∃a dx fs,x=.ref a/\H1 a=some (.ins C dx fs)/\fs.lookup m=none /\
 t U H1 λvs H2=>sp (x::(vs++dvs)) H2 Q E
def YW (C:Av)(sp:Sp)(dvs:List V)(E:XK)(t:TA):TE:=λU H Q=>t U H λvs H1=>∀x dx,H1 x=none->H1 dx=none->dx≠x ->
 sp (.ref x::(vs++dvs)) (CI (CI H1 dx (.own x)) x (.ins C dx [])) (λv H2=>v=.non/\Q (.ref x) H2) E
def HF (K:Ac)(fd:Dy)(ps:List Str)(ds:List Ai):Prop:=
 ∀s us,K.In s.heap->(us++ds).length=ps.length->NE s fd ⟨us,[]⟩ (ps.zip (us++ds))
def HF.all {K:Ac}(h:∀us,us.length=ps.length->Ez fd ⟨us,[]⟩=pure (ps.zip us)):HF K fd ps []:=λs us _ hl=>by
 rw[Cc]at hl ⊢;exact .of_eq (h us hl)
def Hx (CX:Ws)(X:Cx)(E:XK):Prop:=∀(Ad:List (Av×Obj)) (U:St) (H:Hp) (s:As) (e:Ai) (s':As),AX X Ad U H s->CX X.stack H s E e s'->X.xe e s'
def oK (F:FnOk X.prog X.w X.K X.mg X.base CX k f fd ps sp)(hr:Db k X.A)(hb:HF X.K fd ps ds)(hd:BO dvs ds)(hx:Hx CX X E)
  (I:AX X Ad U H s) (r:BO vs us) (h:sp (vs++dvs) H Q E):Au 'd' X.A (Ix (.ref f) us) (EP X Ad U Q) X.xe s:=by
 have r2:=r.append hd;have hl:(us++ds).length=ps.length:=by rw[<- r2.length];exact F.len _ _ _ _ h
 refine NS (FO (F.run X.A X.stack s H ⟨us,[]⟩ (us++ds) (vs++dvs) Q E hr I.env0 (hb s us I.kIn hl) r2 h) λr s' hq=>?_);cases r with
 |error e=>exact hx Ad U H s e s' I hq
 |ok fl=>
  cases fl with
  |ret u=>exact I.after hq
  |next=>exact Cp hq
  |brk=>exact Cp hq
  |cont=>exact Cp hq
def yS (F:FnOk X.prog X.w X.K X.mg X.base CX k f fd ps sp)(hr:Db k X.A)(hg:Gl X x)(hm:X.mg x=some (.ref f))(hk:Fc X.K (.ref f)=true)(hb:HF X.K fd ps ds)(hd:BO dvs ds)(hx:Hx CX X E)
  (ha:PA X (e::es) t) (hdb:autoParam 'j' Gy) (he:autoParam (Ap (e::es) X.env=(false,eval e X.env)::Ap es X.env) BV) (hpl:autoParam ((B5 pos (Ap es X.env)).any (·.1)=false) BV) :
  PE X (.Call (.Name x p) (e::es) [] pos) (Uk sp dvs E t):=by
 intro Ad s U H Q I h;refine Cb (Xu I hg hm ?_ hdb);refine KP I.ok.mod.kin hk (Dp (ha pos Ad s U H _ I h) λus s1 e=>e.el λvs H1 I1 r q=>⟨I1.kIn,?_⟩) he hpl;exact oK F hr hb hd hx I1 r q
def xz (he:PE X o ta)(c:OW X.K C)(hm:TH X.K C m f)(F:FnOk X.prog X.w X.K X.mg X.base CX k f fd ps sp)(hr:Db k X.A)(hb:HF X.K fd ps ds)(hd:BO dvs ds)(hx:Hx CX X E)(ha:PA X (e::es) t)
  (hst:autoParam (Ap (e::es) X.env=(false,eval e X.env)::Ap es X.env) BV) (hpl:autoParam ((B5 pos (Ap es X.env)).any (·.1)=false) BV)
  (ht:autoParam (eval (.Call (.Attribute o m apos) (e::es) [] pos) X.env=(do
   let ov <- eval o X.env
   Nw apos.atName
   let (f,first) <- G6 [ov] (Kd ov m pl)
   SA pos f first (B5 pos (Ap (e::es) X.env)) (FP pos (DQ [] X.env)))) BV) :
  PE X (.Call (.Attribute o m apos) (e::es) [] pos) (Rf C m sp dvs E ta t):=by
 intro Ad s U H Q I h;refine MP (Dp (he Ad s U H _ I h) λu s1 e=>e.el λx H1 I1 rx ⟨a,dx,fs,ex,ea,l,q⟩=>?_) ht;subst ex;obtain rfl:u=AE a:=rx;refine cx I1 ea c hm l ?_;refine KP I.ok.mod.kin hm.kp (Dp (ha pos Ad s1 U H1 _ I1 q) λus s2 e=>e.el λvs H2 I2 r q2=>⟨I2.kIn,?_⟩) hst hpl;exact oK (vs:=.ref a::vs) F hr hb hd hx I2 (.cons rfl r) q2
def zp (he:PE X o ta)(c:OW X.K C)(hm:TH X.K C m f)(F:FnOk X.prog X.w X.K X.mg X.base CX k f fd ps sp)(hr:Db k X.A)(hb:HF X.K fd ps ds)(hd:BO dvs ds)(hx:Hx CX X E)
  (ht:autoParam (eval (.Call (.Attribute o m apos) [] [] pos) X.env=(do
   let ov <- eval o X.env
   Nw apos.atName
   let (f,first) <- G6 [ov] (Kd ov m pl)
   SA pos f first (B5 pos (Ap [] X.env)) (FP pos (DQ [] X.env)))) BV) :
  PE X (.Call (.Attribute o m apos) [] [] pos) (Rf C m sp dvs E ta YU):=by
 intro Ad s U H Q I h;refine MP (Dp (he Ad s U H _ I h) λu s1 e=>e.el λx H1 I1 rx ⟨a,dx,fs,ex,ea,l,q⟩=>?_) ht;subst ex;obtain rfl:u=AE a:=rx;refine cx I1 ea c hm l ?_;exact PySem.W.callWith_K0 I1.kIn hm.kp (oK (vs:=[.ref a]) F hr hb hd hx I1 (.cons rfl .nil) q)
structure Mk (K:Ac)(C f:Av):Prop where
 makes:Qj K C=true
 init:CV K (.ref C) "__init__" = some (some (.ref f))
 fn:Me K (.ref f)=true
 kp:Fc K (.ref C)=true
def z6 (M:Mk X.K C f)(F:FnOk X.prog X.w X.K X.mg X.base CX k f fd ps sp)(hr:Db (k+1) X.A)(hb:HF X.K fd ps ds)(hd:BO dvs ds)
  (hx:Hx CX X E) (I:AX X Ad U H s) (r:BO vs us)
  (h:∀x dx,H x=none->H dx=none->dx≠x->sp (.ref x::(vs++dvs)) (CI (CI H dx (.own x)) x (.ins C dx [])) (λv H2=>v=.non/\Q (.ref x) H2) E) :
  Au 'd' X.A (Ix (.ref C) us) (EP X Ad U Q) X.xe s:=by
 have hq:=h (s.heap.objs.size+1) s.heap.objs.size (I.hok.fresh (Kc _)) (I.hok.fresh (AL _)) (A6 (FI _));have I2:=AX.made (C:=C) I;have r2:BO (V.ref (s.heap.objs.size+1)::(vs++dvs)) (AE (s.heap.objs.size+1)::(us++ds)):=.cons rfl (r.append hd)
 have hl:(AE (s.heap.objs.size+1)::us++ds).length=ps.length:=by
  have e:=r2.length;rw[F.len _ _ _ _ hq]at e;exact e.symm
 refine NS (σ (f:=f) I.kIn M.makes M.init (beq_iff_eq.mp M.fn) (FO (F.run _ X.stack _ _ ⟨AE (s.heap.objs.size+1)::us,[]⟩ (AE (s.heap.objs.size+1)::(us++ds)) _ _ E (hr.make C us [])
  (I2.env0.make C us []) (hb _ (AE (s.heap.objs.size+1)::us) I2.kIn hl) r2 hq) λr s' hq'=>?_))
 cases r with
 |error e=>exact hx Ad U _ _ e s' I2 hq'
 |ok fl=>
  cases fl with
  |ret u=>obtain⟨v,H',I3,rv,ev,q3⟩:=I2.after hq';subst ev;exact⟨rv,⟨V.ref (s.heap.objs.size+1),H',I3,rfl,q3⟩⟩
  |next=>exact Cp hq'
  |brk=>exact Cp hq'
  |cont=>exact Cp hq'
def xy (M:Mk X.K C f)(F:FnOk X.prog X.w X.K X.mg X.base CX k f fd ps sp)(hr:Db (k+1) X.A)(hg:Gl X x)(hm:X.mg x=some (.ref C))(hb:HF X.K fd ps ds)(hd:BO dvs ds)(hx:Hx CX X E)
  (ha:PA X (e::es) t) (hdb:autoParam 'j' Gy) (he:autoParam (Ap (e::es) X.env=(false,eval e X.env)::Ap es X.env) BV) (hpl:autoParam ((B5 pos (Ap es X.env)).any (·.1)=false) BV) :
  PE X (.Call (.Name x p) (e::es) [] pos) (YW C sp dvs E t):=by
 intro Ad s U H Q I h;refine Cb (Xu I hg hm ?_ hdb);refine KP I.ok.mod.kin M.kp (Dp (ha pos Ad s U H _ I h) λus s1 e=>e.el λvs H1 I1 r q=>⟨I1.kIn,?_⟩) he hpl;exact z6 M F hr hb hd hx I1 r q
structure EA (N P:List Str)(sc:KG):Prop where
 kind:sc.kind=.function
 co:sc.isCoroutine=false
 gen:sc.isGenerator=false
 nd:N.Nodup
 pre:N.take P.length=P
 par:∀x∈P,sc.names.lookup x=some .local\/sc.names.lookup x=some .cell
 nofree:∀y∈sc.names,y.2≠.free
theorem aj {kindOf:Str->Option FR} :∀{binds:List (Str×Ai)}{m:Str->Option Ai},(∀v,(x,v)∉binds)->Qf kindOf binds m x=m x
 |[],_,_=>rfl
 |(n,v)::r,m,h=>by
  unfold Qf;rw[aj λw hw=>h w (Ay _ hw)];split
  .have:x≠n:=by rintro rfl;exact h v Aw
   simp[this]
  .rfl
theorem ah {kindOf:Str->Option FR} :∀{binds:List (Str×Ai)}{m:Str->Option Ai},(∀v,(x,v)∉binds)->Qg kindOf binds m x=m x
 |[],_,_=>rfl
 |(n,v)::r,m,h=>by
  unfold Qg;rw[ah λw hw=>h w (Ay _ hw)];split
  .rfl
  .have:x≠n:=by rintro rfl;exact h v Aw
   simp[this]
theorem ai {kindOf:Str->Option FR}{x:Str} :∀{P:List Str}{vs:List Ai}{i:Nat}{m:Str->Option Ai},P.Nodup->P[i]? = some x->vs[i]? = some v->kindOf x=some .local ->
  Qf kindOf (P.zip vs) m x=some v
 |[],_,_,_,_,h,_,_=>by simp at h
 |_::_,[],_,_,_,_,h,_=>by simp at h
 |p::P,w::vs,0,m,nd,h1,h2,hk=>by
  simp at h1 h2;subst h1;subst h2;show Qf kindOf ((p,w)::P.zip vs) m p=_;unfold Qf;rw[aj λv hv=>(F2.mp nd).1 (NX hv).1,if_pos hk];simp
 |p::P,w::vs,i+1,m,nd,h1,h2,hk=>by
  show Qf kindOf ((p,w)::P.zip vs) m x=_;unfold Qf;exact ai (F2.mp nd).2 (by simpa using h1) (by simpa using h2) hk
theorem ag {kindOf:Str->Option FR}{x:Str} :∀{P:List Str}{vs:List Ai}{i:Nat}{m:Str->Option Ai},P.Nodup->P[i]? = some x->vs[i]? = some v->kindOf x≠some .local ->
  Qg kindOf (P.zip vs) m x=some v
 |[],_,_,_,_,h,_,_=>by simp at h
 |_::_,[],_,_,_,_,h,_=>by simp at h
 |p::P,w::vs,0,m,nd,h1,h2,hk=>by
  simp at h1 h2;subst h1;subst h2;show Qg kindOf ((p,w)::P.zip vs) m p=_;unfold Qg;rw[ah λv hv=>(F2.mp nd).1 (NX hv).1,if_neg hk];simp
 |p::P,w::vs,i+1,m,nd,h1,h2,hk=>by
  show Qg kindOf ((p,w)::P.zip vs) m x=_;unfold Qg;exact ag (F2.mp nd).2 (by simpa using h1) (by simpa using h2) hk
noncomputable def start (N:List Str)(vs:List V):St:=vs.map some++Az (N.length-vs.length) none
noncomputable def FZ (CX:Ws)(P:Bs)(w:BK)(K:Ac)(mg:Str->Option Ai)(base:CN)(N:List Str)(qual:Str)(scope:KG)(f:Av)(cd:Ai)(A:CH)(outer:List Env)(s:As)(H:Hp)(E:XK):Cx where
 prog:=P
 w:=w
 K:=K
 mg:=mg
 base:=base
 A:=A.deeper (FN qual scope s.heap.objs.size f cd)
 N:=N
 s₀:=s
 H₀:=H
 env:=FN qual scope s.heap.objs.size f cd
 outer:=outer
 stack:=FN qual scope s.heap.objs.size f cd::outer
 ex:=[]
 calm:=true
 fn:=λ_=>true
 pn:=[]
 xe:=λe s'=>Au (Ax P w) (A.deeper (FN qual scope s.heap.objs.size f cd)) (WF (FN qual scope s.heap.objs.size f cd) e) (λ_ s''=>CX outer H s E e s'') (λe' s''=>CX outer H s E e' s'') s'
def zN {sc:KG}(h:sc.names.lookup x=some .cell):∃c,(X0 n sc.names []).lookup x=some c:=by
 have q:=Mg sc.names n [] (.inl h);exact LO.mp q
def Zmh {K:Ac}
  (S:EA N ps scope) (hd:A.handled=none) (e0:OV P w K mg base A outer s H) (hl:vs.length=ps.length) (r:BO vs us)
  (x:InCallC s s.heap.objs.size (Qf (FN qual scope s.heap.objs.size f cd).kindOf (ps.zip us) λ_=>none) (X0 (s.heap.objs.size+1) scope.names []) (Qg (FN qual scope s.heap.objs.size f cd).kindOf (ps.zip us) λ_=>none) s1) :
  AX (FZ CX P w K mg base N qual scope f cd A outer s H E) [] (start N vs) H s1:=by
 have hpl:ps.length<=N.length:=by have:=congrArg DC S.pre;rw[A3]at this;ext
 obtain⟨h1,tk,rfl,hk⟩:=x.done;have noA:∀b,b∉(FZ CX P w K mg base N qual scope f cd A outer s H E).ex:=λb z=>absurd (show b∈([]:List Av)from z) 'f'
 refine ⟨⟨e0.mod,S.kind,rfl,rfl,AL _,λy z c h1 h2=>?_,λy hy=>?_,λy c _ h=>?_,λ_=>hd,Around.frames_deeper e0.frames,.inr ⟨rfl,rfl⟩,λb z=>absurd z (noA b),e0.bs,e0.bsz,λb _ _=>noA b,λb z=>absurd z (noA b),e0.funs,e0.frf⟩,
  rfl,e0.bare,Un.kept hk,⟨_,x.toInCall.ns,λi y v h1 h2 h3=>?_⟩,λy c h=>⟨_,x.cell y c h⟩,e0.hok.fresh (AL _),λy c h=>?_,λp hp=>absurd (show p∈([]:List (Av×Obj)) from hp) 'f',e0.hok.kept hk,?_,λ_ h=>nomatch h⟩
 .exact name_of_addr x.apart (EL h1) (EL h2)
 .have hy:=hy;rcases hy with hy|hy
  .exact zN hy
  .exact absurd rfl (S.nofree _ (EL hy))
 .exact FK (x.above y c (EL h))
 .have hi:i<vs.length:=by
   unfold start at h2;by_cases hi:i<vs.length
   .exact hi
   .rw[Cr (by simpa using hi)]at h2;rw[List.getElem?_replicate]at h2;split at h2<;>cases h2
  have ha:vs[i]? = some v:=by
   unfold start at h2;rw[C9 (by simpa using hi),AI]at h2;cases e:vs[i]? with
   |none=>rw[e]at h2;cases h2
   |some a=>rw[e]at h2;cases h2;rfl
  obtain⟨u,hu,rv⟩:=r.get ha
  have hp:ps[i]? = some y:=by
   rw[<- S.pre,List.getElem?_take_of_lt (by ext)];exact h1
  have ndP:ps.Nodup:=by rw[<- S.pre];exact S.nd.sublist (Kj _ _)
  refine⟨u,rv,?_⟩;rcases S.par y (AB hp)with k|k
  .exact .inl ⟨k,ai ndP hp hu k⟩
  .obtain⟨c,e⟩:=zN k;refine .inr ⟨.inl k,c,e,?_⟩;have q:=x.cell y c e;rw[ag ndP hp hu (by show scope.names.lookup y≠_;rw[k];decide)]at q;exact q
 .exact e0.hok.fresh (FK (x.above y c (EL h)))
 .unfold start;show _=N.length;rw[Aq,Ab,Bu];ext
def uB {K:Ac}{dV kV doc pm cdv ct oc:Ai}
  (lk:K.lookup f=some ⟨oc,od,.func (FX name qual params body scope dV kV doc pm an cdv ct),osl⟩) (hcd:KQ K cdv qual=true) (S:EA N ps scope)
  (len:∀vs H Q E,sp vs H Q E->vs.length=ps.length)
  (hbody:∀ A outer s H vs Q E,Db k (A.deeper (FN qual scope s.heap.objs.size f cdv))->sp vs H Q E ->
   ∃ t,K9 (FZ CX P w K mg base N qual scope f cdv A outer s H E) body t/\t { nx:=λ_ H'=>Q .non H',rt:=Q } (start N vs) H) :
  FnOk P w K mg base CX (k+1) f (FX name qual params body scope dV kV doc pm an cdv ct) ps sp:=by
 refine⟨len,λA outer s H args us vs Q E hr e0 hb r hsp=>?_⟩;have hl:=len _ _ _ _ hsp;have KX:=e0.mod.kin.keeps λb o e=>(e0.bs b o e).1;have lim:=e0.mod.nolimit.keeps λb o e=>(e0.bs b o e).1
 have hkind:∀y∈ps.zip us,scope.names.lookup y.1=some .local\/(scope.names.lookup y.1=some .cell/\((X0 (s.heap.objs.size+1) scope.names []).lookup y.1).isSome=true):=λ⟨n,v⟩ hy=>by
  rcases S.par n (NX hy).1 with q|q
  .exact .inl q
  .exact .inr ⟨q,Mg _ _ _ (.inl q)⟩
 refine codeAny_call_function hr.depth (KX _ _ lk) rfl S.co S.gen rfl (PySem.W.codeRec_of KX hcd) (hb _ _ _ _ ?_);refine wpAny_newFunctionEnv_cells S.kind hkind λenv he s1 x=>?_;subst he;refine⟨lim.keeps x.toInCall.keep,codeAny_func ?_⟩;obtain⟨t,ht,hq⟩:=hbody A outer s H vs Q E (hr.deeper _) hsp;have I:AX (FZ CX P w K mg base N qual scope f cdv A outer s H E) [] (start N vs) H s1:=Zmh S hr.hd e0 hl r x;refine Bw (ht [] s1 (start N vs) H _ I hq) (λfl s' hs=>?_) λe s' hs=>hs
 have fin:∀{U':St} {H':Hp} {v:V} {u:Ai},AX (FZ CX P w K mg base N qual scope f cdv A outer s H E) [] U' H' s'->RelV v u->Q v H'->CE outer P w H s Q u s':=
  λ{U' H' v u} J rv q=>⟨v,H',J.os,J.bare,J.base,J.hok,rv,q⟩
 cases fl with
 |ret u=>obtain⟨v,U',H',J,rv,q⟩:=hs;exact fin J rv q
 |next=>obtain⟨U',H',J,q⟩:=hs;exact fin (v:=V.non) (u:=Gp) J rfl q
 |brk=>obtain⟨_,_,_,q⟩:=hs;exact Cp q
 |cont=>obtain⟨_,_,_,q⟩:=hs;exact Cp q
section
variable {id:String}
def jU (r:List V->Hp->VK->Prop)(t:TA):TE:=λU H Q=>t U H λvs H1=>r vs H1 Q
def Ε (hc:Fo X (.builtin id) r)(hg:Gl X x)(hm:X.mg x=none)(hv:CM x=some (.builtin id))(ha:PA X (e::es) t)(hn:autoParam (x≠"__name__") Gy)(hdb:autoParam 'j' Gy)
  (he:autoParam (Ap (e::es) X.env=(false,eval e X.env)::Ap es X.env) BV) (hpl:autoParam ((B5 pos (Ap es X.env)).any (·.1)=false) BV):PE X (.Call (.Name x p) (e::es) [] pos) (jU r t):=by
 intro Ad s U H Q I h;refine Cb (P4 I hg hm hv ?_ hn hdb);exact E9 (Dp (ha pos Ad s U H _ I h) λus s1 e=>e.el λvs H1 I1 r1 q1=>hc Ad s1 U H1 vs us Q I1 r1 q1) he hpl
def ZlF (hc:Fo X (.type T) r)(hg:Gl X x)(hm:X.mg x=none)(hv:CM x=some (.type T))(ha:PA X (e::es) t)(hn:autoParam (x≠"__name__") Gy)(hdb:autoParam 'j' Gy)
  (he:autoParam (Ap (e::es) X.env=(false,eval e X.env)::Ap es X.env) BV) (hpl:autoParam ((B5 pos (Ap es X.env)).any (·.1)=false) BV):PE X (.Call (.Name x p) (e::es) [] pos) (jU r t):=by
 intro Ad s U H Q I h;refine Cb (P4 I hg hm hv ?_ hn hdb);exact BG (Dp (ha pos Ad s U H _ I h) λus s1 e=>e.el λvs H1 I1 r1 q1=>hc Ad s1 U H1 vs us Q I1 r1 q1) he hpl
end
end L2
end Internal
namespace HT
open PySem PyProof.Rows
section
open PySem.SeqAt
open PySem.MeetsSeq PySem.MeetsSeq2 PySem.MeetsSeq3
end
noncomputable def sIx (n d:Nat):Option Int->Nat
 |none=>d
 |some v=>if v<0 then(v+(n:Int)).toNat else min v.toNat n
theorem sIx_none (n d:Nat):sIx n d none=d:=rfl
def sIx_nat (n d k:Nat):sIx n d (some (k:Int))=min k n:=by
 show(if (k:Int)<0 then((k:Int)+(n:Int)).toNat else min (k:Int).toNat n)=min k n;rw[if_neg (by ext),BH]
def vp (n d:Nat)(hd:d<=n)(o:Option Int):sIx n d o<=n:=by
 cases o with
 |none=>exact hd
 |some v=>
  show(if v<0 then(v+(n:Int)).toNat else min v.toNat n)<=n;by_cases hv:v<0
  .rw[if_pos hv];ext
  .rw[if_neg hv];exact Nat.min_le_right _ _
def xT (v:Int)(n d:Nat):(if v<0 then max (v+(n:Int)) 0 else min v (n:Int))=((sIx n d (some v):Nat):Int):=by
 show(if v<0 then max (v+(n:Int)) 0 else min v (n:Int))=(((if v<0 then(v+(n:Int)).toNat else min v.toNat n):Nat):Int);by_cases hv:v<0
 .simp only[if_pos hv];ext
 .simp only[if_neg hv];ext
def ZkS (lo hi:Option Int)(n:Nat):FS lo hi 1 (n:Int)=(((sIx n 0 lo:Nat):Int),((sIx n n hi:Nat):Int)):=by
 have h1:¬((1:Int)<0):=by ext
 unfold FS;simp only[h1,if_false];refine TY ?_ ?_
 .cases lo with
  |none=>rfl
  |some v=>exact xT v n 0
 .cases hi with
  |none=>rfl
  |some v=>exact xT v n n
def Zkh (i j:Nat):Ed (i:Int) (j:Int) 1=j-i:=by
 unfold Ed;have h1:(1:Int) > 0:=by ext
 simp only[h1,if_true,Ym];split<;>ext
def eh (p:Mi v o)(h:Q o s):Au 'm' A (Yp v) Q E s:=by
 cases p with
 |none=>exact iW h
 |int i t=>exact slicePart_int h
def Zdb {lo hi:Option Int}{n:Nat}(hs:s.heap.IsSliceOf sl vl vu .none)(pl:Mi vl lo)(pu:Mi vu hi)
  (h:Q (((sIx n 0 lo:Nat):Int),1,sIx n n hi-sIx n 0 lo) s):Au 'm' A (Jx (.ref sl) (pure (n:Int))) Q E s:=by
 obtain⟨os,hos,hcs,hds⟩:=id hs;unfold Jx Yq;refine Aa (Aa (Sx hos hds rfl (Aa (Sx hos hds rfl (Aa (Sx hos hds rfl (Ae ?_)))))));refine Aa (iW ?_);show Au _ _ (if ((1:Int) == 0)=true then _ else _) _ _ s;rw[if_neg 'g'];refine Aa (eh pl (Aa (eh pu (Aa (Ae ?_)))));show Au _ _ (match FS lo hi 1 (n:Int)with | (lo,hi)=>pure (lo,(1:Int),Ed lo hi 1)) _ _ s;rw[ZkS lo hi n];show Au _ _ (pure (((sIx n 0 lo:Nat):Int),(1:Int),Ed ((sIx n 0 lo:Nat):Int) ((sIx n n hi:Nat):Int) 1)) _ _ s;rw[Zkh];exact Ae h
theorem zr (xs:Array Ai)(i k:Nat):((Bx k).filterMap λ(m:Nat)=>xs[((i:Int)+(m:Int)*1).toNat]?).toArray=((xs.toList.drop i).take k).toArray:=by
 have e:(λ(m:Nat)=>xs[((i:Int)+(m:Int)*1).toNat]?)=λm=>xs[i+m]?:=by
  funext m;have:((i:Int)+(m:Int)*1).toNat=i+m:=by ext
  rw[this]
 rw[e];have:=pick_run xs i k;rw[JO]at this;have e2:((λx=>xs[x]?) ∘ λx=>i+x)=λm=>xs[i+m]?:=rfl;rw[e2]at this;rw[this]
def getItem_tuple_cut {lo hi:Option Int}(ht:IsTup s.heap t items)(hs:s.heap.IsSliceOf sl vl vu .none)(pl:Mi vl lo)(pu:Mi vu hi)
  (hw:¬(sIx items.size 0 lo=0/\sIx items.size items.size hi=items.size))
  (h:Q (.ref s.heap.objs.size) {s with heap:=s.heap.push {cls:=.type "tuple",data:=.seq ((items.toList.drop (sIx items.size 0 lo)).take (sIx items.size items.size hi-sIx items.size 0 lo)).toArray} })
  (hsz:items.size<=An):Au 'm' A (Ke (.ref t) (.ref sl)) Q E s:=by
 have htake:sizeOk (.seq ((items.toList.drop (sIx items.size 0 lo)).take (sIx items.size items.size hi-sIx items.size 0 lo)).toArray):=by
  show((items.toList.drop (sIx items.size 0 lo)).take (sIx items.size items.size hi-sIx items.size 0 lo)).toArray.size<=An;rw[AW,A3,Gn,BI];ext
 have hj:sIx items.size items.size hi<=items.size:=vp _ _ (AL _) hi;obtain⟨os,hos,hcs,hds⟩:=id hs;have hTs:s.TypeIs (.ref sl) "slice":=⟨os,hos,hcs⟩;unfold Ke;try with_reducible refine B4 ?_
 first | refine Aa (Ae ?_) | skip
 refine Aa (wpAny_sequenceKey ht.typeIs 'g' ?_)
 refine Aa (Is ht.typeIs E1
  (Cg E1 ht.typeIs entry_tuple_getitem ?_ (args_tuple_getitem _ _)))
 show Au _ _ (Yo (.ref t) >>= _) _ _ s;refine Aa (tupleItemsOf_ ht ?_);refine Aa (FE hTs ?_);rw[if_pos 'g'];refine Aa (Zdb hs pl pu ?_)
 have hno:¬((((sIx items.size 0 lo:Nat):Int) == 0 && (1:Int) == 1 && (sIx items.size items.size hi-sIx items.size 0 lo) == items.size)=true):=by
  intro q;rw[Br,Br]at q;have q1:=eq_of_beq q.1.1;have q2:=eq_of_beq q.2;exact hw ⟨by ext,by ext⟩
 show Au _ _ (if (((sIx items.size 0 lo:Nat):Int) == 0 && (1:Int) == 1 && (sIx items.size items.size hi-sIx items.size 0 lo) == items.size)=true then _ else _) _ _ s;rw[if_neg hno,zr]
 first
  |exact Aa (B7 (Ae ⟨_,rfl,Ae h⟩) htake)
  |exact Aa (B7 (Aa (Ae (Ae ⟨_,rfl,Ae h⟩))) htake)
  |exact Aa (Aa (B7 (Ae (Ae ⟨_,rfl,Ae h⟩)) htake))
  |exact Aa (Aa (B7 (Ae ⟨_,rfl,Ae h⟩) htake))
end HT
namespace Internal
namespace L2
open PySem PySem.Spec PyProof.Rows
abbrev TO:=St->Hp->(Option Int->Hp->Prop)->Prop
def PO (X:Cx)(e:Option BY)(t:TO):Prop:=
 ∀(Ad:List (Av×Obj)) (s:As) (U:St) (H:Hp) (Q:Option Int->Hp->Prop),AX X Ad U H s->t U H Q ->
  Au 'd' X.A (evalPart e X.env) (λu s'=>∃o H',AX X Ad U H' s'/\Mi u o/\Q o H') X.xe s
def S0:TO:=λ_ H Q=>Q none H
def YR (t:TE):TO:=λU H Q=>t U H λx H1=>∃i,x=.int i/\Q (some i) H1
section
variable {lo:Option BY}
def yd:PO X none S0:=by
 intro Ad s U H Q I h;rw[evalPart_none];exact Ae ⟨none,H,I,.none,h⟩
def ye (h:PE X e te):PO X (some e) (YR te):=by
 intro Ad s U H Q I hw;rw[evalPart_some];refine Dp (h Ad s U H _ I hw) λu s1 e=>e.el λx H1 I1 r1 q1=>?_;obtain⟨i,rfl,q⟩:=q1;obtain⟨t,rfl⟩:=r1;exact⟨some i,H1,I1,.int i t,q⟩
def TD (X:Cx)(r:V->Option Int->Option Int->Hp->VK->Prop):Prop:=
 ∀(Ad:List (Av×Obj)) (s:As) (U:St) (H:Hp) (x:V) (v vl vu:Ai) (lo hi:Option Int) (sl:Av) (Q:VK),AX X Ad U H s->RelV x v->s.heap.IsSliceOf sl vl vu .none->Mi vl lo->Mi vu hi->r x lo hi H Q ->
  ∃T id,NT (.type T) "__getitem__" = pure (some (.builtin id))/\s.TypeIs v T/\Au 'd' X.A (Ke v (.ref sl)) (EP X Ad U Q) X.xe s
def jt (r:V->Option Int->Option Int->Hp->VK->Prop)(te:TE)(tl th:TO):TE:=λU H Q=>te U H λx H1=>tl U H1 λl H2=>th U H2 λu H3=>r x l u H3 Q
def zq (hr:TD X r)(he:PE X e te)(hl:PO X lo tl)(hu:PO X hi th):PE X (.Subscript e (.Slice lo hi none p2) pos) (jt r te tl th):=by
 intro Ad s U H Q I h;refine UY (Dp (he Ad s U H _ I h) λv s1 ⟨x,H1,I1,r1,q1⟩=>?_);refine wpAny_Slice (Dp (hl Ad s1 U H1 _ I1 q1) λvl s2 ⟨l,H2,I2,pl,q2⟩=>Dp (hu Ad s2 U H2 _ I2 q2) λvu s3 ⟨u,H3,I3,pu,q3⟩=>?_);rw[evalPart_none];refine Ae ?_;have I4:AX X Ad U H3 {s3 with heap:=s3.heap.push {cls:=.type "slice",data:=.fields #[vl,vu,.none]} }:=I3.kept λb ob q=>Ag _ q;obtain⟨T,id,hT,ht,hg⟩:=hr Ad {s3 with heap:=s3.heap.push {cls:=.type "slice",data:=.fields #[vl,vu,.none]} } U H3 x v vl vu l u s3.heap.objs.size Q I4 r1 (WQ ..) pl pu q3;show Au 'd' X.A (Pn e (.Slice lo hi none p2) v (.ref s3.heap.objs.size)) (EP X Ad U Q) X.xe {s3 with heap:=s3.heap.push {cls:=.type "slice",data:=.fields #[vl,vu,.none]} };exact iV ht hT hg (by with_unfolding_all rfl)
noncomputable def LK (xs:List V)(lo hi:Option Int):List V:=(xs.drop (HT.sIx xs.length 0 lo)).take (HT.sIx xs.length xs.length hi-HT.sIx xs.length 0 lo)
def ei (xs:List V)(lo hi:Option Int):(LK xs lo hi).length<=xs.length:=by
 unfold LK;rw[A3,Gn];ext
def lD (K:Ac):V->Option Int->Option Int->Hp->VK->Prop:=λx lo hi H Q=>∃a xs,x=.ref a/\LY K H a xs /\
 ¬(HT.sIx xs.length 0 lo=0/\HT.sIx xs.length xs.length hi=xs.length)/\∀p,H p=none->Q (.ref p) (CI H p (.tup (LK xs lo hi)))
def vt:TD X (lD X.K):=by
 intro Ad s U H x v vl vu lo hi sl Q I rx hs pl pu h;obtain⟨a,xs,rfl,hx,hw,q⟩:=h;cases rx;obtain⟨Bi,r,ht,hz⟩:=I.tuple hx;have hlen:Bi.toArray.size=xs.length:=by rw[AW];exact r.length.symm
 refine⟨"tuple",_,E1.lookup,ht.typeIs,?_⟩;refine HT.getItem_tuple_cut ht hs pl pu (by rw[hlen];exact hw) ?_ (by rw[hlen];exact hz);rw[hlen];refine⟨.ref s.heap.objs.size,_,I.laid (λb ob q=>Ag _ q) (AL _) ?_,rfl,q _ (I.hok.fresh (AL _))⟩;exact⟨A4 (ei xs lo hi) hz,_,(r.drop (HT.sIx xs.length 0 lo)).take (HT.sIx xs.length xs.length hi-HT.sIx xs.length 0 lo),MG.new _ _⟩
end
noncomputable def Sk (n:Nat)(i:Int):Option Nat:=if 0<=i then(if i<n then some i.toNat else none)else if -(n:Int)<=i then some (i+n).toNat else none
noncomputable def F3 {α:Type}(xs:List α)(i:Int):Option α:=(Sk xs.length i).bind λj=>xs[j]?
def xJ (h:Sk n i=some j):XY i n=some j/\j<n/\-(n:Int)<=i/\i<n:=by
 unfold Sk at h;by_cases h0:0<=i
 .rw[if_pos h0]at h;by_cases h1:i<n
  .rw[if_pos h1]at h;have e:=AZ h;exact⟨by rw[seqIndex_of h0 h1,e],by ext,by ext,h1⟩
  .rw[if_neg h1]at h;cases h
 .rw[if_neg h0]at h;by_cases h1:-(n:Int)<=i
  .rw[if_pos h1]at h;have e:=AZ h;exact⟨by rw[seqIndex_neg (by ext) h1,e],by ext,h1,by ext⟩
  .rw[if_neg h1]at h;cases h
def oX (h:F3 xs i=some v):∃j,XY i xs.length=some j/\xs[j]? = some v/\j<xs.length/\-(xs.length:Int)<=i/\i<xs.length:=by
 unfold F3 at h;cases e:Sk xs.length i with
 |none=>rw[e]at h;cases h
 |some j=>rw[e]at h;obtain⟨h1,h2,h3,h4⟩:=xJ e;exact⟨j,h1,h,h2,h3,h4⟩
def Pk {α:Type}{xs:List α}{j:Nat}{v:α}(h:xs[j]? = some v):F3 xs (j:Int)=some v:=by
 have hj:=(Ah.mp h).1
 have e:Sk xs.length (j:Int)=some j:=by
  unfold Sk;rw[if_pos (by ext),if_pos (by ext)];simp
 unfold F3;rw[e];exact h
def y9 (xs:List α)(v:α):F3 (xs++[v]) (-1)=some v:=by
 have hl:(xs++[v]).length=xs.length+1:=by simp
 have e:Sk (xs++[v]).length (-1)=some xs.length:=by
  unfold Sk;rw[hl,if_neg 'g',if_pos (by ext)];congr 1
  ext
 unfold F3;rw[e];show(xs++[v])[xs.length]? = some v;simp
def Pm (b:BY):Prop:=∀o i,MJ b false o i=operate [o,i] (Ke o i)
def P7 (X:Cx)(r:R2):Prop:=
 ∀value slice (Ad:List (Av×Obj)) (s:As) (U:St) (H:Hp) (x y:V) (v u:Ai) (Q:VK),AX X Ad U H s->RelV x v->RelV y u->r x y H Q ->
  MJ slice false v u=operate [v,u] (Ke v u)->Au 'd' X.A (Pn value slice v u) (EP X Ad U Q) X.xe s
def NQ (X:Cx)(id:String)(r:V->List V->Hp->VK->Prop):Prop:=
 ∀(Ad:List (Av×Obj)) (s:As) (U:St) (H:Hp) (x:V) (xs:List V) (v:Ai) (us:List Ai) (Q:VK),AX X Ad U H s->RelV x v->BO xs us->r x xs H Q ->
  Au 'd' X.A (Ix (.builtin id) (v::us)) (EP X Ad U Q) X.xe s
section
variable {X:Cx}
def lh (hr:P7 X r)(ha:PE X a ta)(hb:PE X b tb)(hs:Pm b):PE X (.Subscript a b pos) (YS r ta tb):=by
 intro Ad s U H Q I h;exact UY (VM ha hb I h λv u s2 x y H2 I2 rx ry q=>hr a b Ad s2 U H2 x y v u Q I2 rx ry q (hs _ _))
def lL (K:Ac):R2:=λx y H Q=>∃p xs i v,x=.ref p/\y=.int i/\F4 K H p xs/\F3 xs i=some v/\Q v H
def lJ (K:Ac):R2:=λx y H Q=>∃p xs i v,x=.ref p/\y=.int i/\LY K H p xs/\F3 xs i=some v/\Q v H
def lK:R2:=λx y H Q=>∃z i c,x=.str z/\y=.int i/\z.length<=An/\F3 z.cps.toList i=some c/\Q (.str ⟨#[c]⟩) H
def uz:P7 X (lL X.K):=by
 intro value slice Ad s U H x y v u Q I rx ry h hs;obtain⟨p,xs,i,z,e1',e2',hq,he,q⟩:_:=h;cases rx;obtain⟨t,rfl⟩:=ry;obtain⟨Bi,r,pl,hz⟩:=I.list hq;obtain⟨j,h1,h2,h3,h4,h5⟩:=oX he;obtain⟨w,ew,rw'⟩:=r.get h2;have hl:=r.length;have hn:=K3;have fin:EP X Ad U Q w s:=⟨z,H,I,rw',q⟩;by_cases h0:0<=i
 .have hj:i.toNat=j:=by
   rw[seqIndex_of h0 h5]at h1;exact AZ h1
  exact item_listR pl.isList h0 (by ext) (by rw[hj];simpa using ew) fin hs
 .have hj:(i+(Bi.toArray.size:Int)).toNat=j:=by
   rw[seqIndex_neg (by ext) h4]at h1;rw[AW,<- hl];exact AZ h1
  exact QP pl.isList.typeIs WB.lookup
   (wpAny_getItem_list_neg pl.isList (by ext) (by rw[AW]<;>ext) (by ext) (by rw[hj];simpa using ew) ⟨rfl,fin⟩) hs
def ou:P7 X (lJ X.K):=by
 intro value slice Ad s U H x y v u Q I rx ry h hs;obtain⟨p,xs,i,z,e1',e2',hq,he,q⟩:_:=h;cases rx;obtain⟨t,rfl⟩:=ry;obtain⟨Bi,r,pl,hz⟩:=I.tuple hq;obtain⟨j,h1,h2,h3,h4,h5⟩:=oX he;obtain⟨w,ew,rw'⟩:=r.get h2;have hl:=r.length;have hn:=K3;have fin:EP X Ad U Q w s:=⟨z,H,I,rw',q⟩
 exact QP pl.typeIs slot_tuple_getitem.lookup
  (getItem_tuple pl (by ext) (by ext) (by rw[AW,<- hl];exact h1) (by simpa using ew) ⟨rfl,fin⟩) hs
def oq:P7 X lK:=by
 intro value slice Ad s U H x y v u Q I rx ry h hs;obtain⟨z,i,c,e1',e2',hz,he,q⟩:_:=h;obtain⟨t,rfl⟩:=rx;obtain⟨t',rfl⟩:=ry;obtain⟨j,h1,h2,h3,h4,h5⟩:=oX he;have hl:z.cps.toList.length=z.length:=by simp[Str.length]
 rw[hl]at h1 h4 h5;have hn:=K3
 exact iV (NU s z t) slot_str_getitem.lookup (getItem_str (by
  have e1:decide (i < -(2^63:Int))=false:=decide_eq_false (by ext);have e2:decide (i >= 2^63)=false:=decide_eq_false (by ext);rw [e1,e2,Jz]) (by rw [h1];simpa using h2) ⟨.str ⟨#[c]⟩,H,I.tok _,⟨_,rfl⟩,q⟩) hs
def Zhb (lo hi:Option Int)(n:Nat):(Gk lo hi none n).1=((HT.sIx n 0 lo:Nat):Int)/\(Gk lo hi none n).2.1=((HT.sIx n n hi:Nat):Int)/\(Gk lo hi none n).2.2=1:=by
 refine⟨?_,?_,rfl⟩
 .cases lo with
  |none=>simp[Gk,HT.sIx]
  |some i=>
   simp only[Gk,HT.sIx,Qm,show(1:Int) > 0 by decide,if_true];by_cases h:i<0
   .simp only[h,if_true]<;>ext
   .simp only[h,if_false]<;>ext
 .cases hi with
  |none=>simp[Gk,HT.sIx]
  |some i=>
   simp only[Gk,HT.sIx,Qm,show(1:Int) > 0 by decide,if_true];by_cases h:i<0
   .simp only[h,if_true]<;>ext
   .simp only[h,if_false]<;>ext
def Zg4 (Bi:List Ai)(lo hi:Option Int):slicePick Bi.toArray lo hi none=((Bi.drop (HT.sIx Bi.length 0 lo)).take (HT.sIx Bi.length Bi.length hi-HT.sIx Bi.length 0 lo)).toArray:=by
 obtain⟨h1,h2,h3⟩:=Zhb lo hi Bi.toArray.size;unfold slicePick;rw[h1,h2,h3];simp only[sliceRange_one,pick_run,AW]<;>rfl
def lF (K:Ac):V->Option Int->Option Int->Hp->VK->Prop:=λx lo hi H Q=>∃a xs,x=.ref a/\F4 K H a xs/\∀p,H p=none->Q (.ref p) (CI H p (.lst (LK xs lo hi)))
def xm:TD X (lF X.K):=by
 intro Ad s U H x v vl vu lo hi sl Q I rx hs pl pu h;obtain⟨a,xs,rfl,hx,q⟩:=h;cases rx;obtain⟨Bi,r,ht,hz⟩:=I.list hx;have hlen:=r.length;refine⟨"list",_,WB.lookup,ht.isList.typeIs,?_⟩;refine wpAny_getItem_list_slice ht.isList hs pl pu .none 'f' ?_ (by rw[AW]<;>ext);rw[Zg4,<- hlen];refine⟨.ref s.heap.objs.size,_,I.laid (λb ob q=>Ag _ q) (AL _) ?_,rfl,q _ (I.hok.fresh (AL _))⟩;exact⟨A4 (ei xs lo hi) hz,_,0,(r.drop (HT.sIx xs.length 0 lo)).take (HT.sIx xs.length xs.length hi-HT.sIx xs.length 0 lo),AC _ rfl⟩
noncomputable def HD:V->Bool
 |.non=>true
 |.bl _=>true
 |.int _=>true
 |.str _=>true
 |_=>false
noncomputable def RD:V->V->Bool
 |.non,.non=>true
 |.bl a,.bl b=>a == b
 |.bl a,.int b=>(if a then 1 else 0) == b
 |.int a,.bl b=>a == (if b then 1 else 0)
 |.int a,.int b=>a == b
 |.str a,.str b=>a == b
 |_,_=>false
def wF (ry:RelV y u)(rx:RelV x v)(fy:HD y=true)(fx:HD x=true):E4 A s u v (RD y x):=by
 cases y with
 |non=>
  cases ry;cases x with
  |non=>cases rx;exact N9 _
  |bl b=>cases rx;exact SeqAt.EqAt.none_bool b
  |int b=>obtain⟨t,rfl⟩:=rx;exact SeqAt.EqAt.none_int b t
  |str b=>obtain⟨t,rfl⟩:=rx;exact SeqAt.EqAt.none_str b t
  |_=>exact absurd (show false=true from fx) Ak
 |bl a=>
  cases ry;cases x with
  |non=>cases rx;exact SeqAt.EqAt.bool_none a
  |bl b=>cases rx;exact SeqAt.EqAt.bool_bool a b
  |int b=>obtain⟨t,rfl⟩:=rx;exact SeqAt.EqAt.bool_int a b t
  |str b=>obtain⟨t,rfl⟩:=rx;exact SeqAt.EqAt.bool_str a b t
  |_=>exact absurd (show false=true from fx) Ak
 |int a=>
  obtain⟨t',rfl⟩:=ry;cases x with
  |non=>cases rx;exact SeqAt.EqAt.int_none a t'
  |bl b=>cases rx;exact SeqAt.EqAt.int_bool a t' b
  |int b=>obtain⟨t,rfl⟩:=rx;exact SeqAt.EqAt.int_int a t' b t
  |str b=>obtain⟨t,rfl⟩:=rx;exact MN a t' b t
  |_=>exact absurd (show false=true from fx) Ak
 |str a=>
  obtain⟨t',rfl⟩:=ry;cases x with
  |non=>cases rx;exact SeqAt.EqAt.str_none a t'
  |bl b=>cases rx;exact SeqAt.EqAt.str_bool a t' b
  |int b=>obtain⟨t,rfl⟩:=rx;exact MM a t' b t
  |str b=>obtain⟨t,rfl⟩:=rx;exact SeqAt.EqAt.str_str a t' b t
  |_=>exact absurd (show false=true from fx) Ak
 |_=>exact absurd (show false=true from fy) Ak
noncomputable def OL (x:V)(u:Ai):Bool:=match u with
 |.none=>RD .non x
 |.bool b=>RD (.bl b) x
 |.int i _=>RD (.int i) x
 |.str z _=>RD (.str z) x
 |_=>false
def wG (r:RelV y u)(f:HD y=true):OL x u=RD y x:=by
 cases y with
 |non=>cases r;rfl
 |bl b=>cases r;rfl
 |int i=>obtain⟨t,rfl⟩:=r;rfl
 |str z=>obtain⟨t,rfl⟩:=r;rfl
 |_=>exact absurd (show false=true from f) Ak
theorem aR :∀{xs:List V}{us:List Ai},BO xs us->xs.all HD=true->us.any (OL x)=xs.any λy=>RD y x
 |_,_,.nil,_=>rfl
 |y::xs,u::us,.cons r t,f=>by
  rw[EV,Br]at f;rw[Fk,Fk,wG r f.1,aR t f.2]
theorem bC (rx:RelV x v)(fx:HD x=true):∀{xs:List V}{us:List Ai},BO xs us->xs.all HD=true->∀u∈us,E4 A s u v (OL x u)
 |_,_,.nil,_=>λu hu=>by cases hu
 |y::xs,u::us,.cons r t,f=>λu' hu=>by
  rw[EV,Br]at f;rcases AR.mp hu with rfl|hu
  .rw[wG r f.1];exact wF r rx f.1 fx
  .exact bC rx fx t f.2 u' hu
noncomputable def eC (x:V)(xs:List V):Bool:=xs.any λy=>RD y x
def sO (K:Ac)(neg:Bool):R2:=λx y H Q=>∃p xs,y=.ref p/\(F4 K H p xs\/LY K H p xs)/\HD x=true/\xs.all HD=true/\Q (.bl (if neg then !eC x xs else eC x xs)) H
def ZlP:Gf X (Bc .In) (sO X.K false):=by
 intro Ad s U H x y v u Q I rx ry;ext1⟨p,xs,e1',hq,fx,fs,q⟩;cases ry;rcases hq with hq|hq
 .obtain⟨Bi,r,pl,hz⟩:=I.list hq;refine R5 (OL x) pl.isList (λw hw=>bC rx fx r fs w (by simpa using hw)) ⟨.bl _,H,I,rfl,?_⟩;rw[show Bi.toArray.any (OL x)=Bi.any (OL x) by simp,aR r fs];exact q
 .obtain⟨Bi,r,pl,hz⟩:=I.tuple hq;refine QY (OL x) pl (λw hw=>bC rx fx r fs w (by simpa using hw)) ⟨.bl _,H,I,rfl,?_⟩;rw[show Bi.toArray.any (OL x)=Bi.any (OL x) by simp,aR r fs];exact q
def Zho:Gf X (Bc .NotIn) (sO X.K true):=by
 intro Ad s U H x y v u Q I rx ry;ext1⟨p,xs,e1',hq,fx,fs,q⟩;cases ry;rcases hq with hq|hq
 .obtain⟨Bi,r,pl,hz⟩:=I.list hq;refine SeqAt.notIn_listAt (OL x) pl.isList (λw hw=>bC rx fx r fs w (by simpa using hw)) ⟨.bl _,H,I,rfl,?_⟩;rw[show Bi.toArray.any (OL x)=Bi.any (OL x) by simp,aR r fs];exact q
 .obtain⟨Bi,r,pl,hz⟩:=I.tuple hq;refine SeqAt.notIn_tupleAt (OL x) pl (λw hw=>bC rx fx r fs w (by simpa using hw)) ⟨.bl _,H,I,rfl,?_⟩;rw[show Bi.toArray.any (OL x)=Bi.any (OL x) by simp,aR r fs];exact q
def Zi9:Fo X (.builtin "len") (λxs H Q=>∃p ys,xs=[.ref p]/\(F4 X.K H p ys\/LY X.K H p ys)/\Q (.int ys.length) H):=by
 intro Ad s U H xs us Q I r h;obtain⟨p,ys,rfl,hq,q⟩:=h;obtain⟨u,rfl,rx⟩:=Ha r;cases rx;have hn:=K3;rcases hq with hq|hq
 .obtain⟨Bi,r',pl,hz⟩:=I.list hq;have hlen:=r'.length;exact Calls.call_len_list pl.isList (by simp only[AW]<;>ext) ⟨.int ys.length,H,I.tok _,⟨s.toks+1,by rw[AW,hlen]⟩,q⟩
 .obtain⟨Bi,r',pl,hz⟩:=I.tuple hq;have hlen:=r'.length;exact len_tuple pl (by simp only[AW]<;>ext) ⟨.int ys.length,H,I.tok _,⟨s.toks+1,by rw[AW,hlen]⟩,q⟩
def Zi8:Fo X (.builtin "len") (λxs H Q=>∃z,xs=[.str z]/\z.length<=An/\Q (.int z.length) H):=by
 intro Ad s U H xs us Q I r h;obtain⟨z,rfl,hz,q⟩:=h;obtain⟨u,rfl,t,rfl⟩:=Ha r;have hn:=K3;exact len_str (by ext) ⟨.int z.length,H,I.tok _,⟨_,rfl⟩,q⟩
def Zi7:Fo X (.type "list") (λxs H Q=>∃p ys,xs=[.ref p]/\(F4 X.K H p ys\/LY X.K H p ys)/\∀l,H l=none->Q (.ref l) (CI H l (.lst ys))):=by
 intro Ad s U H xs us Q I r h;obtain⟨p,ys,rfl,hq,q⟩:=h;obtain⟨u,rfl,rx⟩:=Ha r;cases rx
 have fin:∀Bi,BO ys Bi->ys.length<=An->∀h' c',(∀b o',s.heap.get? b=some o'->h'.get? b=some o') ->
   h'.get? s.heap.objs.size=some {cls:=.type "list",dict:=none,data:=.seq Bi.toArray c',slots:=#[]}->EP X Ad U Q (.ref s.heap.objs.size) {s with heap:=h' }:=λBi r' hz h' c' kp e=>
  ⟨.ref s.heap.objs.size,_,I.laid kp (AL _) (show CK X.prog X.w _ h' _ (.lst ys)from⟨hz,Bi,c',r',e⟩),rfl,q _ (I.hok.fresh (AL _))⟩
 rcases hq with hq|hq
 .obtain⟨Bi,r',pl,hz⟩:=I.list hq;have hlen:=r'.length;obtain⟨o,ho,hc,n,hd⟩:=pl.isList;exact call_list_seq p (.inl rfl) ho hc hd (λh' c' kp e=>fin Bi r' hz h' c' kp e) (by simp only[AW]<;>ext)
 .obtain⟨Bi,r',pl,hz⟩:=I.tuple hq;have hlen:=r'.length;obtain⟨o,ho,hc,n,hd⟩:=pl;exact call_list_seq p (.inr rfl) ho hc hd (λh' c' kp e=>fin Bi r' hz h' c' kp e) (by simp only[AW]<;>ext)
def ZgE:Fo X (.type "tuple") (λxs H Q=>∃p ys,xs=[.ref p]/\((F4 X.K H p ys/\∀l,H l=none->Q (.ref l) (CI H l (.tup ys)))\/(LY X.K H p ys/\Q (.ref p) H))):=by
 intro Ad s U H xs us Q I r h;obtain⟨p,ys,rfl,h⟩:=h;obtain⟨u,rfl,rx⟩:=Ha r;cases rx;rcases h with⟨hq,q⟩|⟨hq,q⟩
 .obtain⟨Bi,r',pl,hz⟩:=I.list hq;have hlen:=r'.length;refine call_tuple_list pl.isList (λh' kp=>?_) (by simp only[AW]<;>ext);have I1:AX X Ad U H {s with heap:=h' }:=I.kept kp
  have I2:AX X Ad U (CI H h'.objs.size (.tup ys)) {s with heap:=h'.push {cls:=.type "tuple",data:=.seq Bi.toArray} }:=
   I1.laid (λb o e=>Ag _ e) (AL _) (show CK X.prog X.w _ _ _ (.tup ys)from⟨hz,Bi,r',MG.new _ _⟩)
  exact⟨.ref h'.objs.size,_,I2,rfl,q _ (I1.hok.fresh (AL _))⟩
 .obtain⟨Bi,r',pl,hz⟩:=I.tuple hq;exact call_tuple_same pl ⟨.ref p,H,I,rfl,q⟩
def dP (K:Ac)(T:String)(x:V)(H:Hp):Prop:=match x with
 |.str _=>T = "str"
 |.int _=>T = "int"
 |.ref p=>(T = "list"/\∃xs,F4 K H p xs)\/(T = "tuple"/\∃o,K.lookup p=some o/\o.cls=.type "tuple"/\o.dict=none) \/
   (T = "dict"/\((∃AG,H p=some (.dK AG))\/∃AG,H p=some (.dT AG)))\/(T = "set"/\∃S n,H p=some (.set S n))
 |_=>False
def vX (I:AX X Ad U H s)(r:RelV x v)(ty:dP X.K T x H) :
  s.TypeIs v T/\∀a,v=.ref a->∃ob,s.heap.get? a=some ob/\ob.dict=none:=by
 cases x with
 |str z=>obtain⟨t,rfl⟩:=r;cases(show T = "str" from ty);exact⟨NU s z t,λ_ e=>nomatch e⟩
 |int i=>obtain⟨t,rfl⟩:=r;cases(show T = "int" from ty);exact⟨typeIs_int s i t,λ_ e=>nomatch e⟩
 |ref p=>
  cases r;rcases ty with⟨rfl,xs,hq⟩|⟨rfl,o,hk,hc,hd⟩|⟨rfl,hk⟩|⟨rfl,S,n,hk⟩
  .obtain⟨Bi,_,pl,_⟩:=I.list hq;refine⟨pl.isList.typeIs,λa e=>?_⟩;cases e;obtain⟨o,n,e,c,hd,_⟩:=pl;exact⟨o,e,hd⟩
  .refine⟨⟨o,I.kIn p o hk,hc⟩,λa e=>?_⟩;cases e;exact⟨o,I.kIn _ o hk,hd⟩
  .have z:∃o,s.heap.get? p=some o/\o.ExactDict:=by
    rcases hk with⟨AG,hk⟩|⟨AG,hk⟩
    .obtain⟨_,_,_,_,o,_,_,e,ex,_⟩:=I.hok p _ hk;exact⟨o,e,ex⟩
    .obtain⟨_,_,_,_,o,_,_,e,ex,_⟩:=I.hok p _ hk;exact⟨o,e,ex⟩
   obtain⟨o,e,ex⟩:=z;refine⟨⟨o,e,ex.1⟩,λa e2=>?_⟩;cases e2;exact⟨o,e,ex.2.1⟩
  .obtain⟨o,_,_,_,e,ex,_⟩:=I.hok p _ hk;refine⟨⟨o,e,ex.1⟩,λa e2=>?_⟩;cases e2;exact⟨o,e,ex.2.1⟩
 |_=>exact Cp ty
def jV (K:Ac)(T:String)(r:V->List V->Hp->VK->Prop)(to:TE):TE:=λU H Q=>to U H λx H1=>dP K T x H1/\r x [] H1 Q
def jy (K:Ac)(T:String)(r:V->List V->Hp->VK->Prop)(to:TE)(t:TA):TE:=λU H Q=>to U H λx H1=>dP K T x H1/\t U H1 λxs H2=>r x xs H2 Q
variable {o e:BY}{es:List BY}{to:TE}{t:TA}{name:Str}{apos cpos:Pos}{T id:String}{r:V->List V->Hp->VK->Prop}
def sm (pa:Oa T)(slot:jE T name id)(hty:QN (.builtin id)=pure (.type "method_descriptor"))(hm:NQ X id r)(ho:PE X o to)
  (hbase:autoParam (CL o name X.env (eval o X.env)=eval o X.env) BV) (hline:autoParam ((apos.endLine == cpos.line)=true) BV):PE X (.Call (.Attribute o name apos) [] [] cpos) (jV X.K T r to):=by
 intro Ad s U H Q I h;refine wpAny_Call_method0_late hbase hline (Dp (ho Ad s U H _ I h) λv s1 e=>e.el λx H1 I1 r1 ⟨ty,q1⟩=>?_);obtain⟨h1,h2⟩:=vX I1 r1 ty;exact⟨T,id,pa,slot,hty,h1,h2,HI rfl (PySem.evalArgs_none (hm Ad s1 U H1 x [] v [] Q I1 r1 .nil q1))⟩
def uE (pa:Oa T)(slot:jE T name id)(hty:QN (.builtin id)=pure (.type "method_descriptor"))(hm:NQ X id r)(ho:PE X o to)(ha:PA X (e::es) t)
  (hbase:autoParam (CL o name X.env (eval o X.env)=eval o X.env) BV)
  (hfew:autoParam (((B5 cpos (Ap (e::es) X.env)).all (λx=>!x.1) && (FP cpos (DQ [] X.env)).all (λx=>x.1.isSome)
   && decide ((e::es).length+([]:List Fn).length+(if ([]:List Fn).isEmpty then 0 else 1)<30))=true) BV)
  (hline:autoParam ((apos.endLine == cpos.line)=true) BV) (hs:autoParam (Ap (e::es) X.env=(false,eval e X.env)::Ap es X.env) BV) (hplain:autoParam ((B5 cpos (Ap es X.env)).any (·.1)=false) BV) :
  PE X (.Call (.Attribute o name apos) (e::es) [] cpos) (jy X.K T r to t):=by
 intro Ad s U H Q I h;refine QM hbase hfew hline rfl (Dp (ho Ad s U H _ I h) λv s1 e=>e.el λx H1 I1 r1 ⟨ty,q1⟩=>?_);obtain⟨h1,h2⟩:=vX I1 r1 ty;refine⟨T,id,pa,slot,hty,h1,h2,?_⟩;have hA:=ha cpos Ad s1 U H1 _ I1 q1;rw[hs]at hA ⊢;refine HI (by show(false || (B5 cpos (Ap es X.env)).any (·.1))=false;rw[hplain]<;>rfl) (IC ?_);exact Dp hA λus s2 e=>e.el λvs H2 I2 r2 q2=>hm Ad s2 U H2 x vs v us Q I2 r1 r2 q2
end
def bS (X:Cx)(id:String)(r:V->List V->Hp->VK->Prop):Prop:=
 ∀(Ad:List (Av×Obj)) (s:As) (U:St) (H:Hp) (x:V) (xs:List V) (v:Ai) (us:List Ai) (Q:VK),AX X Ad U H s->RelV x v->BO xs us->r x xs H Q ->
  Au 'd' X.A (Ix (.builtin id) (v::us)) (EP X Ad U Q) X.xe s
theorem BO.one:∀{x:V}{us:List Ai},BO [x] us->∃u,us=[u]/\RelV x u
 |_,_,h=>by
  cases h with | cons r t=>cases t;exact⟨_,rfl,r⟩
theorem BO.zero:∀{us:List Ai},BO [] us->us=[]
 |_,.nil=>rfl
theorem BO.dropLast {xs:List V}{us:List Ai}(h:BO xs us):BO xs.dropLast us.dropLast:=by
 induction h with
 |nil=>exact .nil
 |cons r t ih=>
  cases t with
  |nil=>exact .nil
  |cons q t'=>exact .cons r ih
theorem BO.eraseIdx:∀{xs:List V}{us:List Ai}(i:Nat),BO xs us->BO (xs.eraseIdx i) (us.eraseIdx i)
 |_,_,_,.nil=>.nil
 |_,_,0,.cons _ t=>t
 |_,_,i+1,.cons r t=>.cons r (BO.eraseIdx i t)
theorem BO.reverse {xs:List V}{us:List Ai}(h:BO xs us):BO xs.reverse us.reverse:=by
 induction h with
 |nil=>exact .nil
 |cons r t ih=>rw[G4,G4];exact BO.append ih (.cons r .nil)
theorem ZkE {α:Type}(l:List α):l.eraseIdx (l.length-1)=l.dropLast:=by
 induction l with
 |nil=>rfl
 |cons a r ih=>
  cases r with
  |nil=>rfl
  |cons b r=>
   have e:(a::b::r).length-1=((b::r).length-1)+1:=by
    have h1:(a::b::r).length=r.length+2:=rfl;have h2:(b::r).length=r.length+1:=rfl;ext
   rw[e,List.eraseIdx_cons_succ,ih]
   all_goals rfl
theorem b5 {α:Type}:∀(l:List α) (i:Nat),(l.eraseIdx i).length<=l.length
 |[],_=>AL _
 |_::_,0=>Kc _
 |_::r,i+1=>Nat.succ_le_succ (b5 r i)
def AX.lset {Bi its':List Ai}{n:Nat}{f:Array Ai->Array Ai}{t':Nat}(I:AX X Ad U H s)(hH:H l=some (.lst xs))
  (e:s.heap.get? l=some {cls:=.type "list",data:=.seq Bi.toArray n}) (hf:f Bi.toArray=its'.toArray) (hv:BO ys its') (hz:ys.length<=An) :
  AX X Ad U (CI H l (.lst ys)) {s with heap:=s.heap.update l (H9 f),toks:=t' }:=by
 have q:=PySem.IsL.update e f;rw[hf]at q;refine I.write (by rw[hH];exact trivial) (.inl rfl) (λb' u hb hu=>(A9 s.heap (H9 f) (Bk hb)).trans hu) ⟨_,q⟩ ?_;exact⟨hz,its',_,hv,q⟩
def AX.lnew (I:AX X Ad U H s)(hv:BO ys Bi)(hz:ys.length<=An) :
  AX X Ad U (CI H s.heap.objs.size (.lst ys)) {s with heap:=s.heap.push {cls:=.type "list",data:=.seq Bi.toArray},toks:=t' }:=
 I.laid (λ_ _ q=>Ag _ q) (AL _) ⟨hz,Bi,0,hv,AC _ rfl⟩
theorem AX.fresh (I:AX X Ad U H s):H s.heap.objs.size=none:=I.hok.fresh (AL _)
def AX.lstM (I:AX X Ad U H s)(hH:H l=some (.lst xs)):xs.length<=An/\∃(Bi:List Ai) (n:Nat),BO xs Bi/\xs.length=Bi.length/\s.heap.get? l=some {cls:=.type "list",data:=.seq Bi.toArray n}:=by
 obtain⟨z,Bi,n,r,e⟩:=I.hok l _ hH;exact⟨z,Bi,n,r,r.length,e⟩
def Ry {n:Nat}(h:n<=An):Kl n=false:=by
 unfold Kl;exact decide_eq_false (by ext)
section
variable {X:Cx}
def S4:V->List V->Hp->VK->Prop:=λx vs H Q=>∃l xs y,x=.ref l/\vs=[y]/\H l=some (.lst xs)/\xs.length<An/\Q .non (CI H l (.lst (xs++[y])))
def ZlW:bS X "list.append" S4:=by
 intro Ad s U H x vs v us Q I rx rv;ext1⟨l,xs,y,e1',e2',hH,hz,q⟩;cases rx;obtain⟨u,rfl,ru⟩:=rv.one;obtain⟨z,Bi,n,r,hl,e⟩:=I.lstM hH;refine IZ F.slot_list_append ⟨_,e,rfl⟩ F.entry_list_append (F.args_list_append_2 _ _) (PySem.list_append l Bi.toArray n u (by rw[AW];ext)) ⟨e,?_⟩;refine⟨.non,_,I.lset hH e 'f' (r.append (.cons ru .nil)) ?_,rfl,q⟩;rw[Aq,Dr];ext
def lH:V->List V->Hp->VK->Prop:=λx vs H Q=>∃l xs y,x=.ref l/\vs=[]/\H l=some (.lst xs)/\xs[xs.length-1]? = some y/\Q y (CI H l (.lst xs.dropLast))
def pq:bS X "list.pop" lH:=by
 intro Ad s U H x vs v us Q I rx rv;ext1⟨l,xs,y,e1',e2',hH,hy,q⟩;cases rx;have hus:=rv.zero;subst hus;obtain⟨z,Bi,n,r,hl,e⟩:=I.lstM hH;obtain⟨u,hu,ru⟩:=r.get hy
 have hy':Bi.toArray[Bi.toArray.size-1]? = some u:=by
  show Bi.toArray[Bi.length-1]? = some u;rw[<- Dd,<- hl];exact hu
 refine IZ F.slot_list_pop ⟨_,e,rfl⟩ F.entry_list_pop (F.args_list_pop_1 _) (MeetsSeq.list_pop_last l Bi.toArray n u hy' (by rw[AW];ext)) ⟨e,?_⟩;refine⟨y,_,I.lset hH e ?_ r.dropLast ?_,ru,q⟩
 .show Bi.toArray.eraseIdxIfInBounds (Bi.toArray.size-1)=Bi.dropLast.toArray;rw[AW,Kv,ZkE]
 .rw[List.length_dropLast];ext
def Vr:V->List V->Hp->VK->Prop:=λx vs H Q=>∃l xs i k y,x=.ref l/\vs=[.int i]/\H l=some (.lst xs)/\-(2^63)<=i/\i<2^63/\XY i xs.length=some k/\xs[k]? = some y/\Q y (CI H l (.lst (xs.eraseIdx k)))
def χ:bS X "list.pop" Vr:=by
 intro Ad s U H x vs v us Q I rx rv;ext1⟨l,xs,i,k,y,e1',e2',hH,h1,h2,hk,hy,q⟩;cases rx;obtain⟨u,rfl,ru⟩:=rv.one;obtain⟨t,rfl⟩:=ru;obtain⟨z,Bi,n,r,hl,e⟩:=I.lstM hH;obtain⟨w,hw,rw'⟩:=r.get hy
 refine IZ F.slot_list_pop ⟨_,e,rfl⟩ F.entry_list_pop (F.args_list_pop_2 _ _)
  (MeetsSeq.list_pop_at l Bi.toArray n i t k w (fitsIndex_both h1 h2) (by rw[AW,<- hl];exact hk) (by rw[<- Dd];exact hw) (by rw[AW];ext)) ⟨e,?_⟩
 refine⟨y,_,I.lset hH e ?_ (r.eraseIdx k) ?_,rw',q⟩
 .show Bi.toArray.eraseIdxIfInBounds k=(Bi.eraseIdx k).toArray;rw[Kv]
 .have:=b5 xs k;ext
def Rp:V->List V->Hp->VK->Prop:=λx vs H Q=>∃l xs,x=.ref l/\vs=[]/\H l=some (.lst xs)/\Q .non (CI H l (.lst xs.reverse))
def Zko:bS X "list.reverse" Rp:=by
 intro Ad s U H x vs v us Q I rx rv h;obtain⟨l,xs,rfl,rfl,hH,q⟩:=h;cases rx;have hus:=rv.zero;subst hus;obtain⟨z,Bi,n,r,hl,e⟩:=I.lstM hH;refine IZ F.slot_list_reverse ⟨_,e,rfl⟩ F.entry_list_reverse (F.args_list_reverse_1 _) (AutoSeq1.list_reverse_list_0 l Bi.toArray n (by rw[AW];ext)) ⟨e,?_⟩;refine⟨.non,_,I.lset hH e 'f' r.reverse ?_,rfl,q⟩;rw[Px];ext
end
end L2
end Internal
namespace Att
open PySem PySem.W PySem.Calls PyProof.Rows
def Zej :∀ns vs,WellAll P h vs (ns.map cE)->Q5 vs ns:=by
 intro ns;induction ns with
 |nil=>intro vs w;rw[DB]at w;cases w;exact .nil
 |cons n ns ih=>
  intro vs w;rw[AU]at w;cases w with
  |cons a b=>cases a;exact .cons _ _ (ih _ b)
def Zlg {l:OpenLaw}(hn:l.most=some n)
  (hpre:l.row.toRowW.claim.pre args=true) (hwl:WellAll P h Yr args) :
  ∃a vs ns,Yr=[AE a]/\args=[WData.list (ns.map cE)]/\h.get? a=some {cls:=.type "list",data:=.seq vs.toArray}/\Q5 vs ns/\ns.length<=n:=by
 have hsh:=(pre_splitW hpre).1;have hc:l.pre.holds [] {args:=args}=true:=(pre_splitW hpre).2;obtain⟨d,r,rfl,h1,h2⟩:=hasAllW_cons hsh;obtain rfl:=hasAllW_nil h2;obtain⟨xs,rfl,h3⟩:=hasW_list h1;obtain⟨ns,rfl⟩:=items_int h3
 have hlen:ns.length<=n:=by
  unfold OpenLaw.pre at hc
  have h4:(WTm.not (.lt (.lit (.int (n:Int))) (.len (.arg 0)))).holds [] {args:=[.list (ns.map .int)]}=true:=by
   have h4:=(holds_andW hc).1;rw[hn]at h4;exact h4
  have h5:=condW_of h4 (w_not (w_lt w_lit (w_len_list (w_arg rfl))));rw[Ab]at h5;refine Nat.le_of_not_lt λq=>?_;have q':(n:Int)<((ns.length:Nat):Int):=by ext
  first
   |(rw[decide_eq_true q']at h5;exact absurd h5 'g')
   |(simp at h5;ext)
 cases hwl with
 |cons w1 w2=>
  cases w2;cases w1 with
  |list ho hall=>exact⟨_,_,ns,rfl,rfl,ho,Zej ns _ hall,hlen⟩
def ZlA (l:OpenLaw)(args:List WData):l.row.toRowW.claim.post args (.bool true) args=true:=
 postW_of
  (show WH [] (.bool true) .bool=true by first | rfl | decide | simp[WH,WShape.arms,WShape.armsAll])
  (show(WTm.eq .res (.lit (.bool true))).value [] {args:=args,res:=some (.bool true),after:=args}=some (.bool (true == true))from w_eq_bool (w_res rfl) w_lit) rfl
def attach_call {l:OpenLaw}
  (hn:l.most=some n) (hdf:d.params.defaults=[])
  (Ix:∀ w s₀ s₁ mg mb fa o pm cd doc a vs ns,
   Ground q loose [] XP w s₀ mg mb s₁.heap->YP w s₁.heap ->
   s₁.heap.get? fa=some o->o.data=.func (docDef d.name d.params d.body d.scope pm cd doc)->s₁.heap.CodeRec cd d.name->mg d.name=some (.ref fa) ->
   s₁.heap.get? a=some {cls:=.type "list",data:=.seq vs.toArray}->Q5 vs ns->ns.length<=n->s₁.gens=#[] ->
   D4 (Ax l.prog w) Kf (.call (.ref fa) ⟨[.ref a],[]⟩) (λr s'=>r=.ok (.ret (.bool true))/\OldK s₁.heap s'.heap/\s'.os=s₁.os/\G9 s'.gens) s₁) :
  WalkO q loose XP YP l.row.toRowW d [] (λf vs=>Pq f vs):=by
 intro w s₀ s₁ mg mb G Y fa o pm cd doc dV kV ho hd hcd hD hmg hg args Yr as hpre hlay hrd hwl hlo;obtain rfl:dV=.none:=Dflts.none hD hdf;obtain rfl:kV=.none:=Dflts.noKw hD;obtain⟨a,vs,ns,e1',e2',hobj,hints,hlen⟩:_:=Zlg hn hpre hwl;refine enter_call (FO (Ix w s₀ s₁ mg mb fa o pm cd doc a vs ns G Y ho (fd_plain hd) hcd hmg hobj hints hlen hg) λr s' hq=>?_);obtain⟨rfl,h2,h3,h4⟩:=hq;exact⟨.inl ⟨.bool true,.bool true,[],rfl,λ_=>rfl,.bool true,ZlA l _,λ_=>⟨Yg,λ_ hm=>(nomatch hm)⟩⟩,h2,h3,h4⟩
section
variable {K:Q6}
end
end Att
namespace Internal
namespace L2
open PySem PySem.Spec PyProof.Rows
def ZkX:∀{vs:List Ai}{ns:List Int},Q5 vs ns->BO (ns.map V.int) vs:=λh=>by
 induction h with
 |nil=>exact .nil
 |cons n t h ih=>exact .cons ⟨t,rfl⟩ ih
def Wj (H:Hp):Prop:=∀b,H b=none\/∃o xs,H b=some (.frz o (.lst xs))
def ρ {K:Ac}
  (KX:K.In s₁.heap) (hns:s₁.heap.Ns BF mg) (hb:s₁.heap.Ns UX mb) (hbb:∀x:Str,x≠"__name__"->mb x=CM x) (hlim:s₁.heap.NoLimit) (hg:s₁.gens=#[])
  (ha:s₁.heap.get? a=some {cls:=.type "list",data:=.seq vs.toArray}) (hi:Q5 vs ns) (hl:ns.length<=An) (hr:Db k Kf)
  (F:∀base:CN,K.In base->base.Ns BF mg->FnOk P w K mg base CX k fa fd [x] sp) (hbind:∀(s:As) (u:Ai),NE s fd ⟨[u],[]⟩ [(x,u)])
  (hsp:∀H:Hp,Wj H->F4 K H a (ns.map V.int)->sp [.ref a] H (λv _=>v=.bl true) λ_ _ _=>False)
  (hCX:∀H e s',CX [] H s₁ (λ_ _ _=>False) e s'->False) :
  D4 (Ax P w) Kf (.call (.ref fa) ⟨[.ref a],[]⟩) (λr s'=>r=.ok (.ret (.bool true))/\OldK s₁.heap s'.heap/\s'.os=s₁.os/\G9 s'.gens) s₁:=by
 have rv:=ZkX hi;have lenV:=hi.length
 have core:∀H:Hp,Wj H->F4 K H a (ns.map V.int)->HQ P w H s₁.heap->(∀b,H b≠none->b=a)->(H a≠none->K.lookup a=none) ->
   D4 (Ax P w) Kf (.call (.ref fa) ⟨[.ref a],[]⟩) (λr s'=>r=.ok (.ret (.bool true))/\OldK s₁.heap s'.heap/\s'.os=s₁.os/\G9 s'.gens) s₁:=by
  intro H hO hS hok hA hK;have base_of:∀{b:Av} {o:Obj},s₁.heap.get? b=some o->H b=none->(Mv s₁.heap H).get? b=some o:=λe n=>ν e n
  have noA:∀{b:Av} {o:Obj} {es:Array F6} {ep:Nat},s₁.heap.get? b=some o->o.data=.dict es ep->H b=none:=λ{b o es ep} e d=>by
   cases q:H b with
   |none=>rfl
   |some u=>have e':=hA b (by rw[q];simp);subst e';rw[ha]at e;cases e;have d':=d;cases d'
  have nsK:∀{b:Av} {m:Str->Option Ai},s₁.heap.Ns b m->(Mv s₁.heap H).Ns b m:=λ{b m} ⟨o,es,ep,e,d,r⟩=>⟨o,es,ep,base_of e (noA e d),d,r⟩
  have hKb:K.In (Mv s₁.heap H):=λb o e=>base_of (KX b o e) (by
   cases q:H b with
   |none=>rfl
   | some u=>have e':=hA b (by rw [q];simp);subst e';rw [hK (by rw [q];simp)] at e;cases e)
  have hM:Mod K mg (Mv s₁.heap H):=⟨hKb,nsK hns,⟨mb,nsK hb,hbb⟩,let ⟨mc,h1,h2⟩:=hlim;⟨mc,nsK h1,h2⟩⟩;have e0:OV P w K mg (Mv s₁.heap H) Kf [] s₁ H:=⟨rfl,hM,λb o e=>wn e,Yd (Zmj _ _),trivial,λb hb=>absurd (show b∈([]:List Av)from hb) 'f',hok,.of_eq hg⟩;refine FO ((F _ hKb (nsK hns)).run Kf [] s₁ H ⟨[.ref a],[]⟩ [.ref a] [.ref a] _ _ hr e0 (hbind s₁ (.ref a)) (.cons rfl .nil) (hsp H hO hS)) λr s' h=>?_;cases r with
  |error e=>exact(hCX H e s' h).elim
  |ok fl=>
   cases fl with
   |next=>exact Cp h
   |brk=>exact Cp h
   |cont=>exact Cp h
   |ret u=>
    obtain⟨v,H',os,bare,un,hok',r',q⟩:_:=h;have q':=q;subst q';obtain rfl:u=Jt true:=r';refine⟨rfl,OldK.of_keep λb o e=>?_,os,bare⟩;cases q:H b with
    |none=>exact un.keep b o e q (by intro z;exact absurd (show b∈([]:List Av)from z) 'f') 'f'
    |some u=>
     rcases hO b with z|⟨ob,xs,z⟩
     .rw[q]at z;cases z
     .have z2:=un.frzs b ob _ z;obtain⟨e1,_⟩:=hok b _ z;obtain⟨e2,_⟩:=hok' b _ z2;rw[e]at e1;cases e1;exact e2
 cases hk:K.lookup a with
 |some o=>have e:=KX a o hk;rw[ha]at e;cases e;refine core (λ_=>none) (λ_=>.inl rfl) (.inr ⟨_,vs.toArray,_,hk,rfl,rfl,rfl,by rw[AW,lenV];exact hl,by simpa using rv⟩) (λb u z=>by have z':(none:Option HO)=some u:=z;cases z') (λb z=>absurd rfl z) λz=>absurd rfl z
 |none=>
  refine core (λb=>if b=a then some (.frz {cls:=.type "list",data:=.seq vs.toArray} (.lst (ns.map V.int)))else none) (λb=>?_) (.inl (.inr ⟨{cls:=.type "list",data:=.seq vs.toArray},if_pos rfl⟩)) (λb u z=>?_) (λb z=>?_) λ_=>hk
  .by_cases hb:b=a
   .exact .inr ⟨_,_,if_pos hb⟩
   .exact .inl (if_neg hb)
  .by_cases hb:b=a
   .have z':=(if_pos hb).symm.trans z;cases z';subst hb;exact⟨ha,by rw[Ab];exact hl,vs,_,rv,ha⟩
   .have z':=(if_neg hb).symm.trans z;cases z'
  .by_cases hb:b=a
   .exact hb
   .exact absurd (if_neg hb) z
def walk_of {l:Qk}{n k:Nat}{q:Bs}{loose:List Str}{XP:(Str->Option Ai)->CN->Prop}{YP:BK->CN->Prop}{d:DefRec}{K:HZ->Ac}{CX:BK->Ws}{sp:BK->Sp}{x:Str}
  (hn:l.most=some n) (hn2:n<=An) (hdf:d.params.defaults=[]) (hr:Db k Kf)
  (hY:∀w h,YP w h->(K w.params).In h)
  (F:∀ w mg fa h,(K w.params).In h->h.Ns BF mg->mg d.name=some (.ref fa) ->
   ∃fd,(∀s u,NE s fd ⟨[u],[]⟩ [(x,u)]) /\
    ∀ base,(K w.params).In base->base.Ns BF mg->FnOk l.prog w (K w.params) mg base (CX w) k fa fd [x] (sp w))
  (hsp:∀w H a (ns:List Int),ns.length<=n->Wj H->F4 (K w.params) H a (ns.map V.int)->sp w [.ref a] H (λv _=>v=.bl true) λ_ _ _=>False)
  (hCX:∀(w:BK) (H:Hp) (s:As) (e:Ai) (s':As),CX w [] H s (λ_ _ _=>False) e s'->False) :
  R7 q loose XP YP l.row.toRowW d [] (λf vs=>Pq f vs):=by
 refine Att.attach_call hn hdf λw s₀ s₁ mg mb fa o pm cd doc a vs ns G Y ho hd hcd hmg hobj hints hlen hg=>?_;have KX:=hY w _ Y;obtain⟨fd,hb,hF⟩:=F w mg fa _ KX G.T.g hmg;exact ρ KX G.T.g G.T.b G.T.builtins G.T.nolimit hg hobj hints (A4 hlen hn2) hr hF hb (λH hO hS=>hsp w H a ns hlen hO hS) λH e s'=>hCX w H s₁ e s'
noncomputable def Tg (s:C6):Arguments:=match s with
 |.FunctionDef _ a _ _ _ _ _ _ _ _=>a
 |_=>{posonlyargs:=[],args:=[],vararg:=none,kwonlyargs:=[],kw_defaults:=[],kwarg:=none,defaults:=[]}
noncomputable def NL (s:C6):List C6:=match s with
 |.FunctionDef _ _ b _ _ _ _ _ _ _=>b
 |_=>[]
noncomputable def Ig (s:C6):KG:=match s with
 |.FunctionDef _ _ _ _ _ _ sc _ _ _=>sc
 |_=>{kind:=.function,names:=[],isGenerator:=false,isCoroutine:=false}
abbrev CX0:Ws:=λ_ _ _ _ _ _=>False
abbrev E0:XK:=λ_ _ _=>False
def Pf :Hx CX0 X E0:=λ_ _ _ _ _ _ _ h=>h.elim
structure CB (K:Ac)(x qual:Str)(st:C6)(f:Av)(fd:Dy):Prop where
 ex:∃(oc:Ai) (od:Option Av) (kV doc pm:Ai) (an:Option Av) (cdv ct:Ai) (osl:Array (Option Ai)),
  fd=FX x qual (Tg st) (NL st) (Ig st) .none kV doc pm an cdv ct/\K.lookup f=some ⟨oc,od,.func fd,osl⟩/\KQ K cdv qual=true
 kp:Fc K (.ref f)=true
section
variable {K:Ac}
def CB.ok {st:C6}(F:CB K x qual st f fd)(S:EA N ps (Ig st))(len:∀vs H Q E,sp vs H Q E->vs.length=ps.length)
  (hbody:∀ cdv A outer s H vs Q E,Db k (A.deeper (FN qual (Ig st) s.heap.objs.size f cdv))->sp vs H Q E ->
   ∃ t,K9 (FZ CX0 P w K mg base N qual (Ig st) f cdv A outer s H E).nox (NL st) t/\t { nx:=λ_ H'=>Q .non H',rt:=Q } (start N vs) H):FnOk P w K mg base CX0 (k+1) f fd ps sp:=by
 obtain⟨oc,od,kV,doc,pm,an,cdv,ct,osl,rfl,lk,hcd⟩:=F.ex;refine uB lk hcd S len λA outer s H vs Q E hr hsp=>?_;obtain⟨t,h,q⟩:=hbody cdv A outer s H vs Q E hr hsp;exact⟨t,h.nox,q⟩
def CB.binds {st:C6}(F:CB K x qual st f fd)
  (h:∀kV doc pm an cdv ct us,us.length=ps.length->Ez (FX x qual (Tg st) (NL st) (Ig st) .none kV doc pm an cdv ct) ⟨us,[]⟩=pure (ps.zip us)):HF K fd ps []:=by
 obtain⟨oc,od,kV,doc,pm,an,cdv,ct,osl,rfl,lk,hcd⟩:=F.ex;exact .all (h kV doc pm an cdv ct)
def fun_mk {x qual:Str}{st:C6}{f:Av}{oc:Ai}{od an:Option Av}{osl:Array (Option Ai)}{kV doc pm cdv ct:Ai}(l:K.lookup f=some ⟨oc,od,.func (FX x qual (Tg st) (NL st) (Ig st) .none kV doc pm an cdv ct),osl⟩)
  (c:KQ K cdv qual=true) (k:Fc K (.ref f)=true):CB K x qual st f (FX x qual (Tg st) (NL st) (Ig st) .none kV doc pm an cdv ct):=⟨⟨oc,od,kV,doc,pm,an,cdv,ct,osl,rfl,l,c⟩,k⟩
end
def KL (hr:Db k A):A.units+1<D8:=FJ (Jw (by decide:1<=64) _) hr.units
def BU (h:n<=1000):n<An:=FJ h 'g'
def pv (i:Nat)(hN:autoParam (X.N[i]? = some x) BV)(hv:autoParam (XM X.env.scope x) tO)(hd:autoParam 'j' Gy)
  (hcd:autoParam ((x == ("__classdict__":Str))=false) Gy):PE X (.Name x pos) (PK i):=oO hN hv hd hcd
def Cj {c A B:Prop}[Decidable c](h1:c->A)(h2:¬c->B):if c then A else B:=by
 by_cases h:c
 .rw[if_pos h];exact h1 h
 .rw[if_neg h];exact h2 h
def ξ (K)(c):CU K (.type c) (.type c)=some true:=by
 unfold CU;rw[if_pos (beq_self_eq_true _)]
def vh :NQ X "int.bit_length" (λx xs H Q=>∃i,x=.int i/\xs=[]/\Q (.int (Er i)) H):=by
 intro Ad s U H x xs v us Q I rx r h;obtain⟨i,rfl,rfl,q⟩:=h;obtain⟨t,rfl⟩:=(show∃t,v=DS i t from rx);cases r;exact cY ⟨.int _,H,I.tok _,⟨_,rfl⟩,q⟩
def AX.track (I:AX X Ad U H s)(f:JN X Ad H D)
  (new:CK X.prog X.w (CI H D o) s.heap D o):AX X Ad U (CI H D o) s:=by
 obtain⟨hn,h2,_,h1,h3,h4⟩:=f;have hu:∀b u,H b=some u->CI H D o b=some u:=λb u e=>by rw[Iq (XJ e hn)];exact e
 have hok:HQ X.prog X.w (CI H D o) s.heap:=λb u e=>by
  by_cases hb:b=D
  .subst hb;rw[MX]at e;cases e;exact new
  .rw[Iq hb]at e;exact(I.hok b u e).stay (λ_ _ _ q=>q) (λc q=>hu c _ q) λc xs q=>hu c _ q
 exact I.step (ch:=[D])
  (λb hb=>by
   have e:b=D:=by simpa using hb
   subst e;exact ⟨h1,h2,h3,h4⟩)
  (λb o' _ _ _ e _=>e) (λb o' _ _ _ e _=>⟨o'.slots,e⟩)
  (λb o' hb e n=>by rw[Iq (λz=>hb (by simp[z]))];exact n)
  (λb o' _ e=>⟨o',e⟩) (λb xs e=>hu b _ e) (λb o' u e=>hu b _ e) (λb ps e=>⟨#[],by rw[hu b _ e];simp⟩) (λm hm=>hm) hok I.bare
theorem cw {α β:Type}{f:α->β->Sem (ForInStep β)}(g:α->β->β):∀(l:List α) (c:β),(∀x∈l,∀c,f x c=pure (.yield (g x c)))->forIn l c f=pure (l.foldl (λc x=>g x c) c)
 |[],c,_=>rfl
 |x::l,c,h=>by
  rw[Ho,h x Aw,pure_bind];exact cw g l (g x c) λy hy=>h y (Ay _ hy)
noncomputable def JL (env:Env)(y:Str×FR)(c:List (Str×Av)):List (Str×Av):=if (y.2 == .free)=true then(y.1,(env.cells.lookup y.1).getD 0)::c else c
noncomputable def EH (env:Env)(l:List (Str×FR))(c:List (Str×Av)):List (Str×Av):=l.foldl (λc y=>JL env y c) c
def rD {scope:KG}{env:Env}(h:∀y∈scope.names,y.2=.free->∃c,env.cells.lookup y.1=some c):closureFor scope env=pure (EH env scope.names []):=by
 simp only[closureFor]
 rw [cw (JL env) scope.names [] (λx hx c=>by
  obtain⟨n,k⟩:=x;by_cases hk:k=.free
  .subst hk;obtain⟨a,ha⟩:=h _ hx rfl;simp[JL,cellOf,ha]
  .have:(k == Ce)=false:=by simpa using hk
   simp [JL,this])]
 rfl
theorem lookup_mem :∀{l:List (Str×α)},l.lookup x=some k->(x,k)∈l
 |[],h=>by simp at h
 |(n,a)::r,h=>by
  rw[By]at h;cases e:x == n with
  |true=>
   rw[e]at h;have e':x=n:=by simpa using e
   have h':a=k:=by simpa using h
   rw[e',h'];exact Aw
  |false=>rw[e]at h;exact Ay _ (lookup_mem (by simpa using h))
theorem V7 :∀(l:List (Str×FR)) (acc:List (Str×Av)),(∀y∈l,y.2=.free->∃c,env.cells.lookup y.1=some c) ->
  (∀x c,acc.lookup x=some c->env.cells.lookup x=some c)->∀x c,(EH env l acc).lookup x=some c->env.cells.lookup x=some c
 |[],acc,_,ha,x,c,e=>ha x c e
 |(n,k)::l,acc,h,ha,x,c,e=>by
  refine V7 l (JL env (n,k) acc) (λy hy=>h y (Ay _ hy)) (λx c e=>?_) x c e;by_cases hk:k=.free
  .subst hk;obtain⟨a,hb⟩:=h (n,.free) Aw rfl;have z:JL env (n,Ce) acc=(n,a)::acc:=by simp[JL,hb]
   rw[z,By]at e;cases q:x == n with
   |true=>
    rw[q]at e;have q':x=n:=by simpa using q
    have e':a=c:=by simpa using e
    rw[q',<- e'];exact hb
   |false=>rw[q]at e;exact ha x c (by simpa using e)
  .have:(k == Ce)=false:=by simpa using hk
   have z:JL env (n,k) acc=acc:=by simp[JL,this]
   rw[z]at e;exact ha x c e
theorem oZ :∀(l:List (Str×FR)) (acc:List (Str×Av)),((∃c,acc.lookup x=some c)\/(x,Ce)∈l)->∃c,(EH env l acc).lookup x=some c
 |[],acc,h=>by
  rcases h with h|h
  .exact h
  .cases h
 |(n,k)::l,acc,h=>by
  refine oZ l (JL env (n,k) acc) ?_;by_cases hk:k=.free
  .subst hk;have z:JL env (n,Ce) acc=(n,(env.cells.lookup n).getD 0)::acc:=by simp[JL]
   cases q:x == n with
   |true=>exact .inl ⟨_,by rw[z,By,q]⟩
   |false=>
    rcases h with⟨c,h⟩|h
    .exact .inl ⟨c,by rw[z,By,q];exact h⟩
    .rcases AR.mp h with e|h
     .have e':=(TW e).1;rw[e']at q;simp at q
     .exact .inr h
  .have:(k == Ce)=false:=by simpa using hk
   have z:JL env (n,k) acc=acc:=by simp[JL,this]
   rw[z];rcases h with h|h
   .exact .inl h
   .rcases AR.mp h with e|h
    .exact absurd (TW e).2.symm hk
    .exact .inr h
theorem iM {env:Env} :∀{names:List (Str×FR)}{k:FR},
  (names.map λ(n,k)=>if (k == Ce && env.scope.kind == .function && env.kindOf n == some .cell)then(n,IB)else(n,k)).lookup x=some k ->
  names.lookup x=some k\/(k=.cell/\names.lookup x=some .free)
 |[],_,h=>by simp at h
 |(n,k0)::r,k,h=>by
  rw[AU]at h;by_cases hc:(k0 == Ce && env.scope.kind == .function && env.kindOf n == some .cell)=true
  .have hf:k0=.free:=by
    simp only[Br]at hc;simpa using hc.1.1
   simp only[hc,if_true]at h;rw[By]at h ⊢;cases q:x == n with
   |true=>
    rw[q]at h;have h':IB=k:=by simpa using h
    exact .inr ⟨h'.symm,by rw[hf]⟩
   |false=>rw[q]at h;exact iM (by simpa using h)
  .have hc':(k0 == Ce && env.scope.kind == .function && env.kindOf n == some .cell)=false:=by simpa using hc
   simp only[hc',if_false,Gi]at h;rw[By]at h ⊢;cases q:x == n with
   |true=>rw[q]at h;exact .inl (by simpa using h)
   |false=>rw[q]at h;exact iM (by simpa using h)
theorem rA {env:Env} :∀{names:List (Str×FR)},names.lookup x=some .free ->
  (names.map λ(n,k)=>if (k == Ce && env.scope.kind == .function && env.kindOf n == some .cell)then(n,IB)else(n,k)).lookup x=some .cell \/
  (names.map λ(n,k)=>if (k == Ce && env.scope.kind == .function && env.kindOf n == some .cell)then(n,IB)else(n,k)).lookup x=some .free
 |[],h=>by simp at h
 |(n,k0)::r,h=>by
  rw[AU];rw[By]at h;by_cases hc:(k0 == Ce && env.scope.kind == .function && env.kindOf n == some .cell)=true
  .simp only[hc,if_true];rw[By];cases q:x == n with
   |true=>exact .inl rfl
   |false=>rw[q]at h;exact rA (by simpa using h)
  .have hc':(k0 == Ce && env.scope.kind == .function && env.kindOf n == some .cell)=false:=by simpa using hc
   simp only[hc',if_false,Gi];rw[By];cases q:x == n with
   |true=>rw[q]at h;exact .inr (by simpa using h)
   |false=>rw[q]at h;exact rA (by simpa using h)
def Zc3 (I:Nat->As->Prop)
  (turn:∀ n s,I n s->Au 'm' A (IV it) (λr s₁=>match r with
   |none=>R (.ok .next) s₁
   | some v=>Au 'm' A (Jo target it v) (λ_ s₁'=>Au 'm' A (Mc target env v) (λ_ s₂ =>
     Au 'm' A (forIn ifs true λc r=>if r=true then do let ok <- QW c env (eval c env);pure (Dj ok) else pure (Dj r)) (λok s₃ =>
      if ok=true then Au 'm' A (eval elt env) (λx s₄ =>
       Au 'm' A (Ix (.builtin "list.append") [acc,x]) (λ_ s₅=>∃ m,m<n/\I m s₅) (Nx 'm' A env λe s'=>R (.error e) s') s₄) (Nx 'm' A env λe s'=>R (.error e) s') s₃
      else ∃ m,m<n/\I m s₃) (Nx 'm' A env λe s'=>R (.error e) s') s₂) (Nx 'm' A env λe s'=>R (.error e) s') s₁') (Nx 'm' A env λe s'=>R (.error e) s') s₁)
      (Nx 'm' A env λe s'=>R (.error e) s') s)
  (n:Nat) (h:I n s) :
  D4 'm' A (.compLoop (.ListComp elt [⟨target,iter,ifs,0⟩] scope pos) 0 it acc env) R s:=by
 refine codeAny_loop rfl I (λn s hI=>?_) n h;show Au _ A ((compTurn (.ListComp elt [⟨target,iter,ifs,0⟩] scope pos) 0 it acc env).onRaise (λx=>do noteFrame x env;theTreesLotGoes x)) _ _ s;refine wpAny_noted ?_;rw[compTurn_list];refine Aa (wpAny_standAt (Aa (Bw (turn n s hI) (λr s₁ h₁=>?_) λ_ _ h'=>h')));cases r with
 |none=>exact Ae h₁
 |some v=>
  refine Aa (Bw h₁ (λ_ s₁' h₁'=>Aa (Bw h₁' (λ_ s₂ h₂=>Aa (Bw h₂ (λok s₃ h₃=>?_) λ_ _ h'=>h')) λ_ _ h'=>h')) λ_ _ h'=>h');cases ok with
  |false=>exact Ae ⟨rfl,h₃⟩
  |true=>exact Aa (Aa (Bw h₃ (λx s₄ h₄=>Aa (Bw h₄ (λ_ s₅ h₅=>Ae (Ae ⟨rfl,h₅⟩)) λ_ _ h'=>h')) λ_ _ h'=>h'))
noncomputable def GI (X:Cx)(scope:KG)(cl:List (Str×Av))(C:Av)(N:List Str)(fp:List Av)(Ad:List (Av×Obj))(s:As)(H:Hp):Cx where
 prog:=X.prog
 w:=X.w
 K:=X.K
 mg:=X.mg
 base:=X.base
 A:=X.A
 N:=N
 s₀:=s
 H₀:=H
 env:=N4 scope cl C X.env
 outer:=X.stack
 stack:=X.stack
 ex:=fp
 calm:=X.calm
 fn:=λ_=>false
 pn:=X.pn++Ad
 xe:=λ_ _=>False
 fz:=X.fz
def Uj:TT:=λ_ H Q=>Q true H
inductive Hy (Y:Cx):List BY->TT->Prop where
 |nil:Hy Y [] Uj
 |one {c:BY} {t:TT} (h:PT Y c t):Hy Y [c] t
noncomputable def No (U:St)(caps:List (Str×Nat))(v:Option V):St:=v::caps.map λc=>(U[c.2]?).join
def IN (wi:TI)(caps:List (Str×Nat))(tt:TT)(te:TE):TE:=λU H Q=>wi U H λJ H1=>∃(n:Nat) (W:Nat->List V->Hp->Prop),W 0 [] H1/\∀i ys H,W i ys H ->
 (J.stop i H/\ys.length<=An/\∀p,H p=none->Q (.ref p) (CI H p (.lst ys))) \/
 (J.go i H/\i<n/\ys.length<An/\∀x H',J.yld i H x H'->tt (No U caps (some x)) H' λb H2=>if b=true then te (No U caps (some x)) H2 λy H3=>W (i+1) (ys++[y]) H3 else W (i+1) ys H2)
structure DX (X:Cx)(scope:KG)(x:Str)(caps:List (Str×Nat)):Prop where
 kind:scope.kind=.function
 frees:(scope.names.all λy=>y.2 != .free || X.env.scope.names.lookup y.1 == some .cell || X.env.scope.names.lookup y.1 == some .free)=true
 nocell:(scope.names.all λy=>y.2 != .cell)=true
 locs:(scope.names.all λy=>y.2 != .local || scope.names.lookup y.1 == some .local)=true
 var:scope.names.lookup x=some .local
 capsOk:(caps.all λc=>scope.names.lookup c.1 == some .free && X.N[c.2]? == some c.1 && (X.env.scope.names.lookup c.1 == some .cell || X.env.scope.names.lookup c.1 == some .free))=true
 nd:(x::caps.map (·.1)).Nodup
noncomputable def FC (U:St)(caps:List (Str×Nat))(vs:List (Option V)):St:=vs++caps.map λc=>(U[c.2]?).join
structure La (X:Cx)(scope:KG)(x:Str)(ns:List Str)(caps:List (Str×Nat)):Prop where
 b:DX X scope x caps
 C2:(ns.all λy=>scope.names.lookup y == some .local)=true
 nd:(x::(ns++caps.map (·.1))).Nodup
section
variable {x:Str}
def DX.hfree (B:DX X scope x caps):∀y∈scope.names,y.2=.free->X.env.kindOf y.1=some .cell\/X.env.kindOf y.1=some .free:=λy hy hf=>by
 have:=Ca.mp B.frees y hy;rw[hf]at this;simp only[IW]at this;rcases this with(h|h)|h
 .simp at h
 .exact .inl (show X.env.scope.names.lookup y.1=_ by simpa using h)
 .exact .inr (show X.env.scope.names.lookup y.1=_ by simpa using h)
def DX.hcell (B:DX X scope x caps):∀y∈scope.names,y.2≠.cell:=λy hy hf=>by
 have:=Ca.mp B.nocell y hy;rw[hf]at this;simp at this
def DX.hloc (B:DX X scope x caps):∀y∈scope.names,y.2=.local->scope.names.lookup y.1=some .local:=λy hy hf=>by
 have:=Ca.mp B.locs y hy;rw[hf]at this;simpa using this
def DX.hcaps (B:DX X scope x caps):∀c∈caps,scope.names.lookup c.1=some .free/\X.N[c.2]? = some c.1/\(X.env.kindOf c.1=some .cell\/X.env.kindOf c.1=some .free):=λc hc=>by
 have:=Ca.mp B.capsOk c hc;simp only[Br,IW]at this;obtain⟨⟨h1,h2⟩,h3⟩:=this;refine⟨by simpa using h1,by simpa using h2,?_⟩;rcases h3 with h|h
 .exact .inl (show X.env.scope.names.lookup c.1=_ by simpa using h)
 .exact .inr (show X.env.scope.names.lookup c.1=_ by simpa using h)
def qg (B:DX X scope x caps)(I:AX X Ad U H s)(hC:C=s.heap.objs.size+1)(hf:∀b∈fp,JN X Ad H b)(hfo:∀b∈fp,∃o,s.heap.get? b=some o)(hcl:∀y∈scope.names,y.2=.free->∃c,X.env.cells.lookup y.1=some c) :
  (GI X scope (EH X.env scope.names []) C (x::caps.map (·.1)) fp Ad s H).Ok where
 mod:=I.ok.mod
 kind:=B.kind
 glob:=I.ok.glob
 blt:=I.ok.blt
 above:=by show s.heap.objs.size<=C;rw[hC];exact Kc _
 inj:=λy z c h1 h2=>I.ok.inj y z c (V7 _ _ hcl (λ_ _ e=>by simp at e) _ _ h1) (V7 _ _ hcl (λ_ _ e=>by simp at e) _ _ h2)
 has:=λy h=>by
  refine oZ _ _ (.inr ?_);rcases h with h|h
  .rcases iM h with e|⟨_,e⟩
   .exact absurd rfl (B.hcell _ (lookup_mem e))
   .exact lookup_mem e
  .rcases iM h with e|⟨z,e⟩
   .exact lookup_mem e
   .cases z
 cab:=λ_ _ h=>nomatch h
 hd:=I.ok.hd
 frames:=I.ok.frames
 stk:=.inl rfl
 exf:=λb hb=>by
  obtain⟨o,ho⟩:=hfo b hb;refine⟨λz=>?_,λy c e=>(hf b hb).2.2.2.2.1 y c (V7 _ _ hcl (λ_ _ e=>by simp at e) _ _ e)⟩;exact absurd (show b=C from z) (A6 (by rw[hC];exact EB (Ar ho)))
 bs:=I.bs
 bsz:=A4 I.ok.bsz I.sz
 noex:=λb o e hb=>by
  rcases(hf b hb).2.2.2.1 with z|z
  .exact I.ok.noex b o e z
  .exact absurd (Bj (Ar e) (A4 I.ok.bsz z)) (EC _)
 exfs:=λb hb hs=>by
  rcases AR.mp (I.stkSub b hs)with e|e
  .exact(hf b hb).2.1 e
  .exact(hf b hb).2.2.1 e
 funs:=I.stack
 frf:=I.stkFree
noncomputable def KC (Bi:List Ai)(n:Nat):Obj:={cls:=.type "list",data:=.seq Bi.toArray n}
def wj (B:La X scope x ns caps)(I:AX X Ad U H s)(hC:C=s.heap.objs.size+1)(hf:∀b∈fp,JN X Ad H b)(hfo:∀b∈fp,∃o,s.heap.get? b=some o)(hcl:∀y∈scope.names,y.2=.free->∃c,X.env.cells.lookup y.1=some c) :
  (GI X scope (EH X.env scope.names []) C (x::(ns++caps.map (·.1))) fp Ad s H).Ok:=by
 have h:=qg B.b I hC hf hfo hcl;exact{h with}
def cq {Q:VK}{RR:Ai->Av->UZ->As->Prop}(B:La X scope x ns caps)(hc:X.calm=true)
  (he:∀cl C fp pn s H,PE 'h' elt te) (hif:∀cl C fp pn s H,Hy 'h' ifs tt)
  (hg:∀cl C fp pn s H,PG 'h' tgt g)
  (hRR:∀D C s' H' ys m,AX X Ad U (CI H' D (.lst ys)) s'->JN X Ad (CI H' D (.lst ys)) C->s'.heap.Ns C m->Q (.ref D) (CI H' D (.lst ys))->RR (.ref D) C (.ok .next) s')
  (h:bQ X Ad U tgt (λJ H1=>∃ (n:Nat) (W:Nat->List V->Hp->Prop),W 0 [] H1/\∀ i ys H,W i ys H ->
   (J.stop i H/\ys.length<=An/\∀p,H p=none->Q (.ref p) (CI H p (.lst ys))) \/
   (J.go i H/\i<n/\ys.length<An/\∀ v H',J.yld i H v H'->∃ us:List V,us.length=ns.length+1/\(∀ (o:List (Option V)) (R:St->Hp->Prop),o.length=ns.length+1->R (FC U caps (us.map some)) H'->g v (FC U caps o) H' R)/\tt (FC U caps (us.map some)) H' λb H2=>if b=true then te (FC U caps (us.map some)) H2 λy H3=>W (i+1) (ys++[y]) H3 else W (i+1) ys H2)) it s₂) :
  Au 'd' X.A (QS []) (λacc s₃=>Au 'd' X.A (NY scope X.env.globals (EH X.env scope.names []) [] X.env.qual none .none (some X.env)) (λcenv s₄ =>
   D4 'd' X.A (.compStart (.ListComp elt [⟨tgt,iter,ifs,0⟩] scope pos) 0 it acc { cenv with scope:=relabel scope X.env }) (RR acc cenv.locals) s₄) E s₃) E s₂:=by
 obtain⟨itA,fp,tn,J,H2,e1',I2,T,st2,f2,n,W,w0,turn⟩:_:=h;have hcl:∀y∈scope.names,y.2=.free->∃c,X.env.cells.lookup y.1=some c:=λy hy hf=>I2.ok.has y.1 (B.b.hfree y hy hf);have hfo:∀b∈fp,∃o,s₂.heap.get? b=some o:=λb hb=>by obtain⟨o,e,_⟩:=T.obj _ _ st2 b hb;exact⟨o,e⟩
 refine B7 (wpAny_newFunctionEnv B.b.hcell (by intro y hy;simp at hy) (λh₁ hns₁ hsb₁=>?_) B.b.kind);dsimp only at hns₁ hsb₁ ⊢;generalize hH2:s₂.heap.push {cls:=.type "list",dict:=none,data:=.seq ([]:List Ai).toArray}=G2 at hns₁ hsb₁ ⊢;have hC:G2.objs.size=s₂.heap.objs.size+1:=by rw[<- hH2,GC]
 have hDC:s₂.heap.objs.size≠G2.objs.size:=by rw[hC];exact A6 (FI _)
 have old:∀b o,s₂.heap.get? b=some o->h₁.get? b=some o:=λb o e=>hsb₁.extBut b o (A6 (by rw[hC];exact EB (Ar e))) (Ag _ (hH2 ▸ Ag _ e));have hacc:=hsb₁.extBut _ _ hDC (Ag _ (hH2 ▸ AC _ rfl));have okY:=wj B I2 hC f2 hfo hcl;generalize hY:GI X scope (EH X.env scope.names []) G2.objs.size (x::(ns++caps.map (·.1))) fp Ad s₂ H2=Y at okY;have freshD:=I2.hok.fresh (AL _);have freshC:H2 G2.objs.size=none:=I2.hok.fresh (by ext)
 have IY:∀tk,AX Y [(s₂.heap.objs.size,KC [] 0)] (FC U caps (Az (ns.length+1) none)) H2 {s₂ with heap:=h₁,toks:=tk}:=λtk=>by
  subst hY;refine⟨okY,rfl,I2.bare,Un.kept old,⟨_,hns₁,λi y v e1 e2 e3=>?_⟩,λy c e=>?_,freshC,λy c e=>?_,λp hp=>?_,I2.hok.kept old,?_,I2.fzd⟩
  .by_cases hin:i<ns.length+1
   .have hx:(FC U caps (Az (ns.length+1) none))[i]? = some none:=by
     unfold FC;rw[C9 (by simpa using hin),List.getElem?_replicate_of_lt hin]
    rw[hx]at e2;cases e2
   .obtain⟨j,rfl⟩:∃j,i=ns.length+1+j:=⟨i-(ns.length+1),by ext⟩
    have e1':(caps.map (·.1))[j]? = some y:=by
     have z:(x::(ns++caps.map (·.1)))[ns.length+1+j]? = some y:=e1;rw[<- EU,Cr 'f']at z;simpa[HH]using z
    have e2':(caps.map λc=>(U[c.2]?).join)[j]? = some (some v):=by
     have z:=e2;unfold FC at z;rw[Cr 'f']at z;simpa[HH]using z
    rw[AI]at e1' e2';cases ec:caps[j]? with
    |none=>rw[ec]at e1';cases e1'
    |some c=>
     rw[ec]at e1' e2';have e1'':c.1=y:=by simpa using e1'
     have e2'':(U[c.2]?).join=some v:=by simpa using e2'
     have hv:U[c.2]? = some (some v):=by
      cases q:U[c.2]? with
      |none=>rw[q]at e2'';cases e2''
      |some w'=>rw[q]at e2'';rw[show w'=some v from e2'']
     obtain⟨k1,k2,k3⟩:=B.b.hcaps c (AB ec);obtain⟨m,_,hl⟩:=I2.loc;obtain⟨u,ru,lk⟩:=hl c.2 c.1 v k2 hv (.inr k3);refine⟨u,ru,.inr ?_⟩;rcases lk with⟨z,_⟩|⟨_,cc,ce,ci⟩
     .rcases k3 with k3|k3
      .rw[k3]at z;cases z
      .rw[k3]at z;cases z
     .obtain⟨c',hc'⟩:=oZ scope.names [] (.inr (lookup_mem k1));have hs':=V7 scope.names [] hcl (λ_ _ e=>by simp at e) _ _ hc';rw[ce]at hs';cases hs';refine⟨?_,cc,?_,?_⟩
      .rw[<- e1''];exact rA k1
      .rw[<- e1''];exact hc'
      .obtain⟨o,ho,hd⟩:=ci;exact⟨o,old _ _ ho,hd⟩
  .obtain⟨v,o,ho,hd⟩:=I2.cell y c (V7 _ _ hcl (λ_ _ e=>by simp at e) _ _ e);exact⟨v,o,old _ _ ho,hd⟩
  .exact I2.freeC y c (V7 _ _ hcl (λ_ _ e=>by simp at e) _ _ e)
  .rcases AQ.mp hp with hp|hp
   .obtain⟨e,n,ne,nf,d⟩:=I2.pin p hp;refine⟨old _ _ e,n,λz=>?_,λhs=>?_,d⟩
    .exact absurd (show p.1=G2.objs.size from z) (A6 (by rw[hC];exact EB (Ar e)))
    .rcases AR.mp (I2.stkSub _ hs)with z|z
     .exact ne z
     .exact nf z
   .have e:p=(s₂.heap.objs.size,KC [] 0):=by simpa using hp
    subst e;refine⟨hacc,freshD,hDC,λhs=>?_,λv z=>by cases z⟩;rcases AR.mp (I2.stkSub _ hs)with z|z
    .exact absurd z (Fi I2.lt)
    .exact I2.nofs (AL _) z
  .simp[FC,GI];ext
 have fpY:∀{H':Hp} {l:Obj},(∀b∈fp,H' b=none)->∀b∈fp,JN Y [(s₂.heap.objs.size,l)] H' b:=λ{H' l} hn b hb=>by
  subst hY;obtain⟨o,ho⟩:=hfo b hb;have:=Ar ho;refine⟨hn b hb,(okY.exf b hb).1,okY.exfs b hb,.inl hb,(okY.exf b hb).2,λp hp=>?_⟩;rcases AQ.mp hp with hp|hp
  .exact(f2 b hb).2.2.2.2.2 p hp
  .have e:p=(s₂.heap.objs.size,l):=by simpa using hp
   subst e;exact λz=>absurd (show s₂.heap.objs.size=b from z) (Fi (Ar ho))
 have loop:∀s₃:As,s₃={s₂ with heap:=h₁,toks:=s₂.toks+([]:List (Str×Ai)).length} ->
   D4 'd' X.A (.compLoop (.ListComp elt [⟨tgt,iter,ifs,0⟩] scope pos) 0 (.ref itA) (.ref s₂.heap.objs.size) (N4 scope (EH X.env scope.names []) G2.objs.size X.env))
    (RR (.ref s₂.heap.objs.size) G2.objs.size) s₃:=by
  rintro s₃ rfl
  refine Zc3 (λk s'=>∃i ys H' v Bi l,k+i=n+1/\v.length=ns.length+1/\AX Y [(s₂.heap.objs.size,KC Bi l)] (FC U caps v) H' s'/\tn i s'.heap/\(∀b∈fp,H' b=none)/\W i ys H'/\BO ys Bi) ?_ (n+1)
   ⟨0,[],H2,Az (ns.length+1) none,[],0,rfl,Bu,IY _,T.keep _ _ _ st2 λb hb o e=>old b o e,λb hb=>(f2 b hb).1,w0,.nil⟩
  intro k s';ext1⟨i,ys,H',v,Bi,l,hk,hv,J1,st,fr,w1,rv⟩
  have hYe:Y.prog=X.prog/\Y.w=X.w/\Y.K=X.K/\Y.calm=true/\Y.A=X.A/\Y.env=N4 scope (EH X.env scope.names []) G2.objs.size X.env/\Y.N=x::(ns++caps.map (·.1))/\(∀e s,Y.xe e s->False)/\Y.fz=X.fz:=by
   subst hY;exact⟨rfl,rfl,rfl,hc,rfl,rfl,rfl,λ_ _ h=>h,rfl⟩
  obtain⟨y1,y2,y3,y4,y5,y6,y7,y8,yF⟩:_:=hYe;rcases turn i ys H' w1 with⟨stop,hz,qn⟩|⟨go,hin,hz,XX⟩
  .have d:=T.done Y y1 y2 y3 yF y4 i _ s' _ H' (λ_ _=>False) J1 (fpY fr) st stop;rw[y5]at d;refine Bw d (λr s4 ⟨hr,J4⟩=>?_) λ_ _ f=>f.elim;subst hr;have pD:=J4.pin (s₂.heap.objs.size,KC Bi l) (AS _ 'f');obtain⟨m,hm,_⟩:=J4.loc;have hC4:s4.heap.Ns G2.objs.size m:=by subst hY;exact hm
   have fC:H' G2.objs.size=none:=by subst hY;exact J4.free
   have baseY:Un (Eu X.stack) fp H2 H' s₂.heap s4.heap:=by subst hY;exact J4.base
   have hokY:HQ X.prog X.w H' s4.heap:=by rw[<- y1,<- y2];exact J4.hok
   have osY:s4.os=s₂.os:=by subst hY;exact J4.os
   have I4:=I2.call' osY baseY hokY J4.bare λb hb=>⟨(f2 b hb).2.2.2.1,(f2 b hb).2.1,(f2 b hb).2.2.2.2.1,(f2 b hb).2.2.2.2.2⟩;have fD4:=I2.fpOk (AL _) pD.2.1;have fC4:=I2.fpOk (by ext) fC;have I5:AX X Ad U (CI H' s₂.heap.objs.size (.lst ys)) s4:=I4.track fD4 ⟨hz,Bi,l,rv,pD.1⟩;refine hRR _ _ s4 H' ys m I5 ⟨by rw[Iq hDC.symm];exact fC4.1,fC4.2⟩ hC4 (qn _ pD.2.1)
  .have d:=T.item Y y1 y2 y3 yF y4 i _ s' _ H' (λ_ _=>False) J1 (fpY fr) st go;rw[y5]at d;refine Bw d (λr s4 ⟨u,hr,h4⟩=>?_) λ_ _ f=>f.elim;subst hr;refine Bw h4 (λ_ s5 ⟨v5,H5,J5,r5,yl5,st5,fr5⟩=>?_) λ_ _ f=>f.elim;have J5':=J5.pinned (fpY fr5) (T.obj _ _ st5);obtain⟨us,hus,hset,q5⟩:=XX v5 H5 yl5;have hgY:=hg (EH X.env scope.names []) G2.objs.size fp Ad s₂ H2;rw[hY]at hgY;have d6:=hgY _ s5 _ H5 v5 u (λU' H'=>U'=FC U caps (us.map some)/\H5=H') J5' r5 (hset _ _ hv ⟨rfl,rfl⟩);rw[y1,y2,y5,y6]at d6;refine Bw d6 (λ_ s6 ⟨U6,H6,J6,e6,e6'⟩=>?_) λe s z=>(y8 e s z).elim;subst e6 e6'
   have N6:∀{s7:As} {H7:Hp} {ys7:List V} {its7:List Ai} {l7:Nat},AX Y [(s₂.heap.objs.size,KC its7 l7)] (FC U caps (us.map some)) H7 s7->(∀b∈fp,∀o,s5.heap.get? b=some o->s7.heap.get? b=some o/\H7 b=none)->W (i+1) ys7 H7->BO ys7 its7 ->
     ∃m,m<k/\∃i ys H' v Bi l,m+i=n+1/\v.length=ns.length+1/\AX Y [(s₂.heap.objs.size,KC Bi l)] (FC U caps v) H' s7/\tn i s7.heap/\(∀b∈fp,H' b=none)/\W i ys H'/\BO ys Bi:=λ{s7 H7 ys7 its7 l7} K7 hb w7 r7=>by
    refine⟨k-1,by ext,i+1,ys7,H7,us.map some,its7,l7,by ext,by rw[Ab];exact hus,K7,T.keep _ _ _ st5 λb hb' o e=>(hb b hb' o e).1,λb hb'=>?_,w7,r7⟩;obtain⟨o,e,_⟩:=T.obj _ _ st5 b hb';exact(hb b hb' o e).2
   have pinD:∀{U7:St} {H7:Hp} {s7:As},AX Y ([(s₂.heap.objs.size,KC Bi l)]++Jh fp s5.heap) U7 H7 s7->(∀b∈fp,∀o,s5.heap.get? b=some o->s7.heap.get? b=some o/\H7 b=none):=λK7 b hb o e=>by
    have z:=K7.pin (b,o) (AS _ (AS _ (hZ hb e)));exact⟨z.1,z.2.1⟩
   have dt:Au 'd' X.A (forIn ifs true λc r=>if r=true then do let ok <- QW c (N4 scope (EH X.env scope.names []) G2.objs.size X.env) (eval c (N4 scope (EH X.env scope.names []) G2.objs.size X.env));pure (Dj ok)else pure (Dj r))
     (λok s7=>∃H7,AX Y ([(s₂.heap.objs.size,KC Bi l)]++Jh fp s5.heap) (FC U caps (us.map some)) H7 s7/\(if ok=true then te (FC U caps (us.map some)) H7 λy H3=>W (i+1) (ys++[y]) H3 else W (i+1) ys H7)) (λ_ _=>False) s6:=by
    have q:=q5;have pif:=hif (EH X.env scope.names []) G2.objs.size fp Ad s₂ H2;rw[hY]at pif;cases pif with
    |nil=>exact Ae ⟨H5,J6,q⟩
    |one pt=>have z:=pt _ s6 _ H5 _ J6 q;rw[y1,y2,y5,y6]at z;exact wpAny_tests_one (Bw z (λb s7 ⟨H7,J7,q7⟩=>⟨H7,J7,q7⟩) λe s z=>(y8 e s z).elim)
   refine Bw dt (λok s7 ⟨H7,J7,q7⟩=>?_) λ_ _ f=>f.elim;cases ok with
   |false=>rw[if_neg Ak]at q7 ⊢;exact N6 J7.unpinned (pinD J7) q7 rv
   |true=>
    rw[if_pos rfl]at q7 ⊢;have pe:=he (EH X.env scope.names []) G2.objs.size fp Ad s₂ H2;rw[hY]at pe;have z:=pe _ s7 _ H7 _ J7 q7;rw[y1,y2,y5,y6]at z;refine Bw z (λu8 s8 ⟨v8,H8,J8,r8,w8⟩=>?_) λe s z=>(y8 e s z).elim;have pD:=J8.pin (s₂.heap.objs.size,KC Bi l) (AS _ (CQ _ 'f'));have lits:=rv.length;refine wpAny_list_append_plain ⟨l,pD.1⟩ λh9 pl9 sb9=>?_;obtain⟨l9,e9⟩:=pl9
    have J9:AX Y (Jh fp s5.heap) (FC U caps (us.map some)) H8 {s8 with heap:=h9}:=by
     refine(J8.pins_of λp hp=>J8.pin p (AS _ (AS _ hp))).turned (λb o hb e=>(sb9.2 b hb).trans e) pD.2.1 pD.2.2.1 ?_ (λy c e z=>?_) λp hp z=>?_
     .subst hY;exact .inr (AL _)
     .obtain⟨v',o',ho',hd'⟩:=J8.cell y c e;rw[z,pD.1]at ho';cases ho';exact pD.2.2.2.2 _ hd'
     .rcases AQ.mp hp with hp|hp
      .have hp':p∈X.pn++Ad:=by subst hY;exact hp
       exact absurd z (A6 (Ar (I2.pin p hp').1))
      .obtain⟨hb,_⟩:=b8 hp;obtain⟨o,ho⟩:=hfo _ hb;exact absurd z (A6 (Ar ho))
    have J10:AX Y [(s₂.heap.objs.size,KC (Bi++[u8]) l9)] (FC U caps (us.map some)) H8 {s8 with heap:=h9}:=J9.pins_of λp hp=>by
     have e:p=(s₂.heap.objs.size,KC (Bi++[u8]) l9):=by simpa using hp
     subst e;refine⟨?_,pD.2.1,pD.2.2.1,pD.2.2.2.1,λv z=>by cases z⟩;rw[e9];simp[KC]
    refine N6 J10 (λb hb o e=>?_) w8 (rv.append (.cons r8 .nil));have z:=J9.pin (b,o) (AS _ (hZ hb e));exact⟨z.1,z.2.1⟩
 exact codeAny_compStart_list (loop _ rfl) (T.self _ 0 _ _ _ (T.keep _ _ _ st2 λb hb o e=>old b o e) (loop _ rfl))
def bE {Q:VK}{RR:Ai->Av->UZ->As->Prop}(B:DX X scope x caps)(hc:X.calm=true)
  (he:∀cl C fp pn s H,PE (GI X scope cl C (x::caps.map (·.1)) fp pn s H) elt te) (hif:∀cl C fp pn s H,Hy (GI X scope cl C (x::caps.map (·.1)) fp pn s H) ifs tt)
  (hRR:∀D C s' H' ys m,AX X Ad U (CI H' D (.lst ys)) s'->JN X Ad (CI H' D (.lst ys)) C->s'.heap.Ns C m->Q (.ref D) (CI H' D (.lst ys))->RR (.ref D) C (.ok .next) s')
  (h:bQ X Ad U (.Name x px) (λJ H1=>∃ (n:Nat) (W:Nat->List V->Hp->Prop),W 0 [] H1/\∀ i ys H,W i ys H ->
   (J.stop i H/\ys.length<=An/\∀p,H p=none->Q (.ref p) (CI H p (.lst ys))) \/
   (J.go i H/\i<n/\ys.length<An/\∀ v H',J.yld i H v H'->tt (No U caps (some v)) H' λb H2=>if b=true then te (No U caps (some v)) H2 λy H3=>W (i+1) (ys++[y]) H3 else W (i+1) ys H2)) it s₂) :
  Au 'd' X.A (QS []) (λacc s₃=>Au 'd' X.A (NY scope X.env.globals (EH X.env scope.names []) [] X.env.qual none .none (some X.env)) (λcenv s₄ =>
   D4 'd' X.A (.compStart (.ListComp elt [⟨.Name x px,iter,ifs,0⟩] scope pos) 0 it acc { cenv with scope:=relabel scope X.env }) (RR acc cenv.locals) s₄) E s₃) E s₂:=by
 refine cq (ns:=[]) (tgt:=.Name x px) (g:=JK 0) ⟨B,rfl,B.nd⟩ hc he hif (λcl C fp pn s H=>ME B.nd rfl (.inl (Sz B.var)) (.inr (Sz B.var))) hRR ?_;obtain⟨itA,fp,tn,J,H2,e,I2,T,st2,f2,n,W,w0,turn⟩:_:=h;refine⟨itA,fp,tn,J,H2,e,I2,T,st2,f2,n,W,w0,λi ys H w=>(turn i ys H w).imp id λ⟨z1,z2,z3,st⟩=>⟨z1,z2,z3,λv H' y=>⟨[v],rfl,λo R ho q=>?_,st v H' y⟩⟩⟩;cases o with
 |nil=>cases ho
 |cons o r=>cases AH (He ho);exact q
def fZ (B:DX X scope x caps)(hc:X.calm=true)(hi:PI X (.Name x px) iter wi)
  (he:∀cl C fp pn s H,PE (GI X scope cl C (x::caps.map (·.1)) fp pn s H) elt te) (hif:∀cl C fp pn s H,Hy (GI X scope cl C (x::caps.map (·.1)) fp pn s H) ifs tt)
  (hs:autoParam (∀x,Bn iter X.env x=pure x) NM):PE X (.ListComp elt [⟨.Name x px,iter,ifs,0⟩] scope pos) (IN wi caps tt te):=by
 intro Ad s U H Q I h;rw[eval_ListComp];have hcl:∀y∈scope.names,y.2=.free->∃c,X.env.cells.lookup y.1=some c:=λy hy hf=>I.ok.has y.1 (B.hfree y hy hf);refine HW rfl hs (rD hcl) B.kind B.hloc (Dp (hi Ad s U H _ I h) λv s1 h1=>Dp h1 λitv s2 h2=>?_);refine bE B hc he hif (λD C s' H' ys m I' f' hn q=>?_) h2;refine⟨m,hn,λh' sb=>⟨.ref D,CI H' D (.lst ys),?_,rfl,q⟩⟩;obtain⟨g0,g1,g2,g3,g4,g5⟩:=f';exact I'.turned (λb o hb e=>(sb.2 b hb).trans e) g0 g1 g3 g4 g5
def gB (hN:X.N.Nodup)(hi0:X.N[i]? = some y)(hy:X.env.scope.names.lookup y=some .local)(B:DX X scope x caps)(hc:X.calm=true)(hi:PI X (.Name x px) iter wi)
  (he:∀cl C fp pn s H,PE (GI X scope cl C (x::caps.map (·.1)) fp pn s H) elt te) (hif:∀cl C fp pn s H,Hy (GI X scope cl C (x::caps.map (·.1)) fp pn s H) ifs tt)
  (hsw:autoParam (C0 (.ListComp elt [⟨.Name x px,iter,ifs,0⟩] scope pos) (some (.Name y py)) spos.line X.env=pure true) BV)
  (hs:autoParam (∀x,Bn iter X.env x=pure x) NM):PS X (.Assign [.Name y py] (.ListComp elt [⟨.Name x px,iter,ifs,0⟩] scope pos) spos) (Ng (IN wi caps tt te) (JK i)):=by
 intro Ad s U H D I h;rw[exec_Assign_Name_used _ _ _ _ hsw];refine Aa (wpAny_standAt (Aa ?_));show Au _ X.A (do let _ <- comprehension (.ListComp elt [⟨.Name x px,iter,ifs,0⟩] scope pos) scope X.env _ (QS []) false (eval iter X.env) (some (Mc (.Name y py) X.env))) _ _ s;have hcl:∀y∈scope.names,y.2=.free->∃c,X.env.cells.lookup y.1=some c:=λy hy hf=>I.ok.has y.1 (B.hfree y hy hf)
 refine Aa (Bw (HW rfl hs (rD hcl) B.kind B.hloc (Dp (hi Ad s U H _ I h) λv s1 h1=>Dp h1 λitv s2 h2=>?_))
  (λ_ s' hq=>Ae (Ae hq)) λ_ _ e=>e)
 refine bE (Q:=λv H'=>D.nx (U.set i (some v)) H') (RR:=λacc C=>compPost 'd' X.A X.xe (some (Mc (.Name y py) X.env)) (λ_ s'=>SP X Ad D .next s') acc C) B hc he hif (λD' C s' H' ys m I' f' hn q=>?_) h2;show Au _ _ (Mc (.Name y py) X.env (.ref D')) _ _ s';obtain⟨g0,g1,g2,g3,g4,g5⟩:=f';refine Wx (cb I' hN hi0 (.inl hy) (v:=.ref D') rfl (λs'' I'' sb=>?_) (.inr hy));obtain⟨a,sb,ha⟩:=sb
 have nC:C≠a:=by
  rcases ha with rfl|ha
  .exact g1
  .exact λz=>g4 _ _ ha z.symm
 refine⟨m,hn.sameBut sb nC,λh' sb'=>⟨U.set i (some (.ref D')),CI H' D' (.lst ys),?_,q⟩⟩;exact I''.turned (λb o hb e=>(sb'.2 b hb).trans e) g0 g1 g3 g4 g5
end
section
variable {K:Ac}{a:Av}{xs:List V}{caps:List (Str×Nat)}{tt:TT}{te:TE}{U:St}{H:Hp}{Q:VK}
end
section
variable {κ:Type}[DecidableEq κ]
noncomputable def F8 (AG:List (κ×V))(k:κ):Option V:=(AG.find? λkv=>decide (kv.1=k)).map (·.2)
noncomputable def putK (AG:List (κ×V))(k:κ)(v:V):List (κ×V):=
 if (AG.any λkv=>decide (kv.1=k))=true then AG.map (λkv=>if kv.1=k then(kv.1,v)else kv)else AG++[(k,v)]
def qB {p:κ×V}{r:List (κ×V)}{k:κ}(e:p.1=k):F8 (p::r) k=some p.2:=by simp[F8,Cy,e]
def qG {p:κ×V}{r:List (κ×V)}{k:κ}(e:¬p.1=k):F8 (p::r) k=F8 r k:=by simp[F8,Cy,e]
theorem zI (k:κ):∀AG,(AG.any λkv=>decide (kv.1=k))=(F8 AG k).isSome
 |[]=>rfl
 |p::r=>by
  rw[Fk];by_cases e:p.1=k
  .simp only[qB e,decide_eq_true e,Bool.true_or,O0]
  .rw[qG e,decide_eq_false e,Vb];exact zI k r
def hV (AG:List (κ×V))(k:κ)(v:V):(putK AG k v).length<=AG.length+1:=by
 unfold putK;split
 .rw[Ab];ext
 .rw[Aq,AO,Fq];ext
def IK.isSome_eq (r:IK o u):o.isSome=u.isSome:=by
 cases o with
 |none=>cases u with
  |none=>rfl
  |some _=>exact(show False from r).elim
 |some _=>cases u with
  |none=>exact(show False from r).elim
  |some _=>rfl
def KV.val {AG:List (κ×V)}{vs:List (κ×Ai)}(r:KV AG vs)(k:κ):IK (F8 AG k) (Ln vs k):=by
 unfold KV at r;induction r with
 |nil=>exact Cu
 | @cons p q ps qs h t ih=>
  obtain⟨h1,h2⟩:=h;by_cases e:p.1=k
  .have e':=h1.symm.trans e;have b:Ln (q::qs) k=some q.2:=by simp[Ln,Cy,e']
   rw[qB e,b];exact h2
  .have e':¬q.1=k:=λz=>e (h1.trans z);have b:Ln (q::qs) k=Ln qs k:=by simp[Ln,Cy,e']
   rw[qG e,b];exact ih
theorem KV.any (r:KV AG vs)(k:κ):(AG.any λkv=>decide (kv.1=k))=vs.any λkv=>decide (kv.1=k):=by
 unfold KV at r;induction r with
 |nil=>rfl
 |cons h t ih=>rw[Fk,Fk,ih,h.1]
def KV.repl (r:KV AG vs)(k:κ)(ry:RelV y u) :
  KV (AG.map λkv=>if kv.1=k then(kv.1,y)else kv) (vs.map λkv=>if kv.1=k then(kv.1,u)else kv):=by
 unfold KV at r ⊢;induction r with
 |nil=>exact .nil
 | @cons p q ps qs h t ih=>
  rw[AU,AU];refine .cons ?_ ih;obtain⟨h1,h2⟩:=h;by_cases e:p.1=k
  .rw[if_pos e,if_pos (h1.symm.trans e)];exact⟨h1,ry⟩
  .rw[if_neg e,if_neg (λz=>e (h1.trans z))];exact⟨h1,h2⟩
def KV.put (r:KV AG vs)(k:κ)(ry:RelV y u):KV (putK AG k y) (stored vs k u):=by
 unfold putK stored;rw[r.any k];by_cases e:(vs.any λkv=>decide (kv.1=k))=true
 .rw[if_pos e,if_pos e];exact r.repl k ry
 .rw[if_neg e,if_neg e];exact U9 r ⟨rfl,ry⟩
def KV.keys {AG:List (κ×V)}{vs:List (κ×Ai)}(r:KV AG vs):AG.map (·.1)=vs.map (·.1):=by
 unfold KV at r;induction r with
 |nil=>rfl
 |cons h t ih=>rw[AU,AU,ih,h.1]
theorem KV.length {AG:List (κ×V)}{vs:List (κ×Ai)}(r:KV AG vs):AG.length=vs.length:=D9 r
end
def Tn (r:RelV (kV k) u):(BX P w).is k u=true:=by
 cases k with
 |inl i=>obtain⟨t,e⟩:=(show∃t,u=DS i t from r);subst e;exact ZiY P w i t
 |inr x=>obtain⟨t,e⟩:=(show∃t,u=Ds x t from r);subst e;exact ZiX P w x t
theorem br :∀{ks:List Ck}{us:List Ai},BO (ks.map kV) us->ItemsAre (BX P w) ks us
 |[],_,r=>by rw[DB]at r;cases r;exact .nil
 |k::ks,_,r=>by
  rw[AU]at r;cases r with
  |cons h t=>exact .cons (Tn h) (br t)
abbrev KT (H:Hp):List (List Ck×V)->List (List Ck×Av×Ai)->Prop:=Eo λp q=>p.1=q.1/\H q.2.1=some (.tup (p.1.map kV))/\RelV p.2 q.2.2
def KT.val {H:Hp}{AG:List (List Ck×V)}{xs:List (List Ck×Av×Ai)}(r:KT H AG xs)(k:List Ck):IK (F8 AG k) ((Qh xs k).map (·.2)):=by
 induction r with
 |nil=>exact Cu
 | @cons p q ps qs h t ih=>
  obtain⟨h1,_,h2⟩:=h;by_cases e:p.1=k
  .have e':=h1.symm.trans e;have b:Qh (q::qs) k=some q.2:=by simp[Qh,Cy,e']
   rw[qB e,b];exact h2
  .have e':¬q.1=k:=λz=>e (h1.trans z);have b:Qh (q::qs) k=Qh qs k:=by simp[Qh,Cy,e']
   rw[qG e,b];exact ih
def KT.repl (r:KT H AG xs)(k:List Ck)(ry:RelV y u) :
  KT H (AG.map λkv=>if kv.1=k then(kv.1,y)else kv) (xs.map (putAt k u)):=by
 induction r with
 |nil=>exact .nil
 | @cons p q ps qs h t ih=>
  rw[AU,AU];refine .cons ?_ ih;obtain⟨h1,h2,h3⟩:=h;unfold putAt;by_cases e:p.1=k
  .rw[if_pos e,if_pos (h1.symm.trans e)];exact⟨h1,h2,ry⟩
  .rw[if_neg e,if_neg (λz=>e (h1.trans z))];exact⟨h1,h2,h3⟩
def KT.put (r:KT H AG xs)(k:List Ck)(hb:H b=some (.tup (k.map kV)))(ry:RelV y u) :
  KT H (putK AG k y) (storedH xs k b u):=by
 have e:(AG.any λkv=>decide (kv.1=k))=(Qh xs k).isSome:=by
  rw[zI,(r.val k).isSome_eq,NZ]
 unfold putK storedH;rw[e];by_cases q:(Qh xs k).isSome=true
 .rw[if_pos q,if_pos q];exact r.repl k ry
 .rw[if_neg q,if_neg q];exact U9 r ⟨rfl,hb,ry⟩
def KT.keeps (r:KT H AG xs)(ht:∀b ys,H b=some (.tup ys)->H' b=some (.tup ys)):KT H' AG xs:=
 Eo.mapP r λ_ _ z=>⟨z.1,ht _ _ z.2.1,z.2.2⟩
def vC (ok:HQ P w H h)(e:Rd H a u):CK P w H h a u:=e.ok ok
def Tp (ok:HQ P w H h)(e:Rd H a (.dK AG)):AG.length<=An/\(a == Fp)=false/\∃vs,KV AG vs/\h.DictOf (BX P w) a vs:=
 show CK P w H h a (.dK AG)from vC ok e
def nH (ok:HQ P w H h)(e:H a=some (.dK AG)):AG.length<=An/\(a == Fp)=false/\∃vs,KV AG vs/\h.DictOf (BX P w) a vs:=Tp ok (.inl e)
def aK (ok:HQ P w H h)(e:H a=some (.tup (ks.map kV))):(L5 (BX P w)).is h ks a:=by
 obtain⟨_,Bi,r,o,h1,h2,n,h3,_⟩:=(show CK P w H h a (.tup (ks.map kV))from ok a _ e);exact⟨o,Bi.toArray,n,h1,h2,h3,by simpa using br r⟩
def Xc (ok:HQ P w H h)(e:Rd H a (.dT AG)):AG.length<=An/\(a == Fp)=false /\
  ∃xs,KT H AG xs/\h.DictOfH (L5 (BX P w)) a xs:=by
 obtain⟨z,y,xs,r,o,es,ep,h1,h2,h3,h4,h5⟩:=(show CK P w H h a (.dT AG)from vC ok e);refine⟨z,y,xs,r,o,es,ep,h1,h2,h3,h4,λx hx=>?_,h5⟩
 have all:∀{l:List (List Ck×V)} {m:List (List Ck×Av×Ai)},KT H l m->∀x∈m,(L5 (BX P w)).is h x.1 x.2.1:=by
  intro l m q;induction q with
  |nil=>intro x hx;exact nomatch hx
  | @cons p q ps qs hq t ih=>
   intro x hx;rcases AR.mp hx with e|hx
   .subst e;exact aK ok (by rw[<- hq.1];exact hq.2.1)
   .exact ih x hx
 exact all r x hx
def my (ok:HQ P w H h)(e:H a=some (.dT AG)):AG.length<=An/\(a == Fp)=false /\
  ∃xs,KT H AG xs/\h.DictOfH (L5 (BX P w)) a xs:=Xc ok (.inl e)
def RX (H:Hp)(a:Av)(y:V)(r:Option V):Prop:=
 (∃AG k,Rd H a (.dK AG)/\y=kV k/\r=F8 AG k)\/∃AG k b,Rd H a (.dT AG)/\y=.ref b/\H b=some (.tup (k.map kV))/\r=F8 AG k
def RW (H:Hp)(a:Av)(y v:V)(H':Hp):Prop:=
 (∃AG k,H a=some (.dK AG)/\y=kV k/\AG.length<An/\H'=CI H a (.dK (putK AG k v))) \/
 ∃AG k b,H a=some (.dT AG)/\y=.ref b/\H b=some (.tup (k.map kV))/\AG.length<An/\H'=CI H a (.dT (putK AG k v))
theorem RW.k {k:Ck}(e:H a=some (.dK AG))(hl:AG.length<An):RW H a (kV k) v (CI H a (.dK (putK AG k v))):=.inl ⟨AG,k,e,rfl,hl,rfl⟩
def AX.big (I:AX X Ad U H s):Fp<s.heap.objs.size:=by
 have h:=(I.mod.glob.keeps I.bk).lt;exact Nat.lt_trans 'g' h
def Τ (hu:A.units+1<D8)(I:AX X Ad U H s)(g:RX H a y (some v))(ry:RelV y u)(h:∀w' s',AX X Ad U H s'->RelV v w'->Q w' s') :
  Au 'd' A (Ke (.ref a) u) Q E s:=by
 rcases g with⟨AG,k,e,ey,l⟩|⟨AG,k,b,e,ey,eb,l⟩
 .subst ey;obtain⟨z,hd,vs,rel,dd⟩:=Tp I.hok e;obtain⟨w',hw,rw'⟩:=IK.some_of (by rw[l];exact rel.val k);exact XU (Tn ry) dd.mapOf hw (h w' _ (I.tok _) rw')
 .subst ey;cases(show u=AE b from ry);obtain⟨z,hd,xs,rel,dd⟩:=Xc I.hok e;obtain⟨w',hw,rw'⟩:=IK.some_of (by rw[l];exact rel.val k);obtain⟨p,hp,hp2⟩:=Fg.mp hw;refine wpAny_getItem_heap (Hj hu) (aK I.hok eb) dd hp ?_;rw[hp2];exact h w' _ (I.tok _) rw'
def mK (hu:A.units+1<D8)(I:AX X Ad U H s)(g:RX H a y o)(ry:RelV y u)(h:∀s',AX X Ad U H s'->Q (.bool o.isSome) s') :
  Au 'd' A (Bc .In u (.ref a)) Q E s:=by
 rcases g with⟨AG,k,e,ey,l⟩|⟨AG,k,b,e,ey,eb,l⟩
 .subst ey;obtain⟨z,hd,vs,rel,dd⟩:=Tp I.hok e;refine wpAny_in_of (Tn ry) hd dd.mapOf ?_;rw[<- (rel.val k).isSome_eq,<- l];exact h _ (I.tok _)
 .subst ey;cases(show u=AE b from ry);obtain⟨z,hd,xs,rel,dd⟩:=Xc I.hok e;refine wpAny_in_heap (Hj hu) (aK I.hok eb) hd dd ?_;have q:=(rel.val k).isSome_eq;rw[NZ]at q;rw[<- q,<- l];exact h _ (I.tok _)
def uq (hu:A.units+1<D8)(I:AX X Ad U H s)(g:RX H a y o)(ry:RelV y u)(h:∀s',AX X Ad U H s'->Q (.bool (!o.isSome)) s') :
  Au 'd' A (Bc .NotIn u (.ref a)) Q E s:=by
 rcases g with⟨AG,k,e,ey,l⟩|⟨AG,k,b,e,ey,eb,l⟩
 .subst ey;obtain⟨z,hd,vs,rel,dd⟩:=Tp I.hok e;refine wpAny_notIn_of (Tn ry) hd dd.mapOf ?_;rw[<- (rel.val k).isSome_eq,<- l];exact h _ (I.tok _)
 .subst ey;cases(show u=AE b from ry);obtain⟨z,hd,xs,rel,dd⟩:=Xc I.hok e;refine wpAny_notIn_heap (Hj hu) (aK I.hok eb) hd dd ?_;have q:=(rel.val k).isSome_eq;rw[NZ]at q;rw[<- q,<- l];exact h _ (I.tok _)
def fY (I:AX X Ad U H s)(mu:bR (H a))(hs:BM a s.heap h')(he:∃q,h'.get? a=some q)(new:CK X.prog X.w (CI H a ob) h' a ob) :
  AX X Ad U (CI H a ob) {s with heap:=h',toks:=t' }:=
 I.write mu (.inl rfl) (λb q hb z=>(hs.2 b hb).trans z) he new
def fJ (z:AG.length<=An)(hd:(a == Fp)=false)(rel:KV AG vs)(dd:h'.DictOf (BX P w) a vs) :
  CK P w H' h' a (.dK AG):=⟨z,hd,vs,rel,dd⟩
def Υ (hu:A.units+1<D8)(I:AX X Ad U H s)(g:RW H a y v H')(ry:RelV y u)(rv:RelV v r)(h:∀s',AX X Ad U H' s'->Q () s') :
  Au 'd' A (setItem (.ref a) u r) Q E s:=by
 rcases g with⟨AG,k,e,ey,l,eH⟩|⟨AG,k,b,e,ey,eb,l,eH⟩
 .subst ey eH;obtain⟨z,hd,vs,rel,dd⟩:=nH I.hok e;have hz:vs.length<=An:=by rw[<- rel.length];exact z
  have hl:(putK AG k v).length<=An:=by have:=hV AG k v;ext
  refine wpAny_setItem_pairs (Tn ry) dd λh' dd' hs=>h _ ?_;have he:∃q,h'.get? a=some q:=let ⟨q,_,_,hq,_⟩:=dd';⟨q,hq⟩;exact fY I (by rw[e];exact Cu) hs he (fJ hl hd (rel.put k rv) dd')
 .subst ey eH;cases(show u=AE b from ry);obtain⟨z,hd,xs,rel,dd⟩:=my I.hok e;have hz:xs.length<=An:=by rw[<- D9 rel];exact z
  have hl:(putK AG k v).length<=An:=by have:=hV AG k v;ext
  refine wpAny_setItem_heap (Hj hu) (aK I.hok eb) dd λh' dd' hs=>h _ ?_;obtain⟨q,es,ep,hq,h2,h3,h4,_,h5⟩:=dd';refine fY I (by rw[e];exact Cu) hs ⟨q,hq⟩ ⟨hl,hd,_,(rel.put k eb rv).keeps λc ys ec=>?_,q,es,ep,hq,h2,h3,h4,h5⟩;rw[Iq (m9 ec e (λz=>nomatch z))];exact ec
def mx (I:AX X Ad U H s)(e:Rd H a (.dK AG))(h:∀t s',AX X Ad U H s'->Q (.int AG.length t) s'):Au 'd' A (Ix (.builtin "len") [.ref a]) Q E s:=by
 obtain⟨z,hd,vs,rel,dd⟩:=Tp I.hok e;refine call_len_dict hd dd (by rw[<- rel.length];rw[HU]at z;ext) ?_;rw[<- rel.length];exact h _ _ (I.tok _)
def Wl (i:BY):Prop:=∀ov iv,MJ i false ov iv=operate [ov,iv] (Ke ov iv)
def yu {T id:String}
  (hl:NT (.type T) "__getitem__" = pure (some (.builtin id))) (hs:Wl slice)
  (h:Au 'm' A (eval value env) (λo s₁=>Au 'm' A (eval slice env) (λi s₂=>s₂.TypeIs o T/\Au 'm' A (Ke o i) Q E s₂) E s₁) E s) :
  Au 'm' A (eval (.Subscript value slice pos) env) Q E s:=by
 refine UY (Bw h (λo s₁ h₁=>Bw h₁ (λi s₂ h₂=>?_) λ_ _ x=>x) λ_ _ x=>x);obtain⟨hT,h₂⟩:=h₂;unfold Pn;refine Aa ?_;rw[getitemInPython_of_ne hT.not_modules];refine Aa (cA hT hl ?_)
 have fin:Au 'm' A (MJ slice false o i) (λr s₃=>Au 'm' A (letTemporaryGo value o r >>= λ_=>pure r) Q E s₃) E s₂:=by
  rw[hs o i];exact wpAny_operating (Bw h₂ (λr s₃ h₃=>Aa (wpAny_letTemporaryGo (Ae h₃))) λ_ _ x=>x)
 first
  |exact Ae (Aa fin)
  |exact Aa (Ae (Aa fin))
  |exact Aa fin
def Zje (I:AX X Ad U H s)(g:RX H a y o):s.TypeIs (.ref a) "dict":=by
 rcases g with⟨AG,k,e,_,_⟩|⟨AG,k,b,e,_,_,_⟩
 .obtain⟨_,_,vs,_,dd⟩:=Tp I.hok e;exact dd.typeIs
 .obtain⟨_,_,xs,_,dd⟩:=Xc I.hok e;exact dd.typeIs
def Y0 (td ty:TE):TE:=λU H Q=>td U H λx H1=>ty U H1 λy H2=>∃a v,x=.ref a/\RX H2 a y (some v)/\Q v H2
def Zd (td ty tv:TE):TS:=λD U H=>tv U H λv H1=>td U H1 λx H2=>ty U H2 λy H3=>∃a H4,x=.ref a/\RW H3 a y v H4/\D.nx U H4
def xw (hu:X.A.units+1<D8)(ho:PE X o td)(hi:PE X i ty)(hs:Wl i):PE X (.Subscript o i pos) (Y0 td ty):=by
 intro Ad s U H Q I h;refine yu PySem.F.slot_dict_getitem.lookup hs (Dp (ho Ad s U H _ I h) λu s1 e=>e.el λx H1 I1 rx q1=>Dp (hi Ad s1 U H1 _ I1 q1) λiv s2 e=>e.el λy H2 I2 ry ⟨a,v,ex,g,q2⟩=>?_);subst ex;obtain rfl:u=AE a:=rx;exact⟨Zje I2 g,Τ hu I2 g ry λw' s3 I3 rw'=>⟨v,H2,I3,rw',q2⟩⟩
def yh (hu:X.A.units+1<D8)(ho:PE X o td)(hi:PE X i ty)(hv:PE X value tv)(hs:C0 value (some (.Subscript o i pos')) pos.line X.env=pure false) :
  PS X (.Assign [.Subscript o i pos'] value pos) (Zd td ty tv):=by
 intro Ad s U H D I h;refine wpAny_Assign_Subscript (Dp (hv Ad s U H _ I h) λr s1 e=>e.el λv H1 I1 rv q1=>Dp (ho Ad s1 U H1 _ I1 q1) λu s2 e=>e.el λx H2 I2 rx q2=>Dp (hi Ad s2 U H2 _ I2 q2) λiv s3 e=>e.el λy H3 I3 ry ⟨a,H4,ex,g,q3⟩=>?_) hs;subst ex;obtain rfl:u=AE a:=rx;exact Υ hu I3 g ry rv λs4 I4=>⟨U,H4,I4,q3⟩
def zQ (h:CN)(hb:Fp<h.objs.size):CK P w H (h.push {cls:=.type "dict",data:=.dict #[]}) h.objs.size (.dK []):=
 ⟨Ej _,beq_eq_false_iff_ne.mpr (Bk (A6 hb)),[],.nil,NC h⟩
def Vj:TE:=λ_ H Q=>∀p,H p=none->Q (.ref p) (CI H p (.dK []))
def zn:PE X (.Dict [] [] pos) Vj:=λAd s U H Q I h=>
 wpAny_Dict_empty ⟨.ref s.heap.objs.size,_,I.laid (λ_ _ q=>Ag _ q) (AL _) (zQ s.heap I.big),rfl,h _ (I.hok.fresh (AL _))⟩
def Oq:List (TE×TE)->St->Hp->(List (V×V)->Hp->Prop)->Prop
 |[],_,H,Q=>Q [] H
 |(tk,tv)::r,U,H,Q=>tk U H λx H1=>tv U H1 λy H2=>Oq r U H2 λps H3=>Q ((x,y)::ps) H3
abbrev VV:List (V×V)->List (Ai×Ai)->Prop:=Eo λp q=>RelV p.1 q.1/\RelV p.2 q.2
def iQ (X:Cx)(pos:Pos)(keys:List (Option BY))(values:List BY)(trs:List (TE×TE)):Prop:=
 ∀(Ad:List (Av×Obj)) (s:As) (U:St) (H:Hp) (Q:List (V×V)->Hp->Prop),AX X Ad U H s->Oq trs U H Q ->
  Au 'd' X.A (evalPairs (pairTrees keys values X.env pos)) (λvs s'=>∃ps H',AX X Ad U H' s'/\VV ps vs/\Q ps H') X.xe s
def yg :iQ X pos [] [] []:=λAd s U H Q I h=>pairTrees_nil_walk ⟨[],H,I,.nil,h⟩
def gR (hk:PE X k tk)(hv:PE X v tv)(hr:iQ X pos ks vs trs) :
  iQ X pos (some k::ks) (v::vs) ((tk,tv)::trs):=λAd s U H Q I h=>
 pairTrees_cons_walk (Dp (hk Ad s U H _ I h) λu s1 ⟨x,H1,I1,rx,q1⟩=>Dp (hv Ad s1 U H1 _ I1 q1) λw2 s2 ⟨y,H2,I2,ry,q2⟩ =>
  Dp (hr Ad s2 U H2 _ I2 q2) λws s3 ⟨ps,H3,I3,rel,q3⟩=>⟨(x,y)::ps,H3,I3,.cons ⟨rx,ry⟩ rel,q3⟩)
noncomputable def mergeK (AG more:List (Ck×V)):List (Ck×V):=more.foldl (λacc kv=>putK acc kv.1 kv.2) AG
def KV.merge:∀{more:List (Ck×V)}{rs:List (Ck×Ai)}{AG:List (Ck×V)}{vs:List (Ck×Ai)},KV more rs->KV AG vs->KV (mergeK AG more) (JS vs rs):=by
 intro more rs AG vs r;unfold KV at r;induction r generalizing AG vs with
 |nil=>intro q;exact q
 | @cons p q ps qs h t ih=>
  intro r0
  have e:KV (putK AG p.1 p.2) (stored vs q.1 q.2):=by
   have:=r0.put p.1 h.2;rw[<- h.1];exact this
  exact ih e
theorem im:∀(more AG:List (Ck×V)),(mergeK AG more).length<=AG.length+more.length
 |[],AG=>by show AG.length<=AG.length+0;ext
 |p::r,AG=>by
  have h1:=im r (putK AG p.1 p.2);have h2:=hV AG p.1 p.2;show(mergeK (putK AG p.1 p.2) r).length<=_;rw[AO];ext
theorem cm :∀{AG:List (Ck×V)}{ws:List (Ai×Ai)},VV (AG.map λkv=>(kV kv.1,kv.2)) ws->∃rs,Carries (BX P w) ws rs/\KV AG rs
 |[],_,r=>by rw[DB]at r;cases r;exact⟨[],Cu,.nil⟩
 |p::AG,_,r=>by
  rw[AU]at r;cases r with
  | @cons a b as bs h t=>obtain⟨rs,c,q⟩:=cm t;obtain⟨b1,b2⟩:=b;exact⟨(p.1,b2)::rs,⟨Tn h.1,rfl,c⟩,.cons ⟨rfl,h.2⟩ q⟩
def YZ (trs:List (TE×TE)):TE:=λU H Q=>∀p,H p=none->Oq trs U (CI H p (.dK [])) λps H2=>H2 p=some (.dK [])/\∃AG,ps=AG.map (λkv=>(kV kv.1,kv.2))/\AG.length<=15/\Q (.ref p) (CI H2 p (.dK (mergeK [] AG)))
def xx (h:iQ X pos keys values trs)(hall:keys.all (·.isSome)=true)(hl:keys.length=values.length)(h0:keys≠[])
  (h15:keys.length<=15):PE X (.Dict keys values pos) (YZ trs):=by
 intro Ad s U H Q I q;have hn:=I.hok.fresh (AL s.heap.objs.size);have I1:=I.laid (a:=s.heap.objs.size) (o:=.dK []) (h':=s.heap.push {cls:=.type "dict",data:=.dict #[]}) (t':=s.toks) (λ_ _ q=>Ag _ q) (AL _) (zQ s.heap I.big);refine wpAny_Dict_walk (knd:=BX X.prog X.w) hall hl h0 h15 (Dp (h Ad _ U _ _ I1 (q _ hn)) λws s2 ⟨ps,H2,I2,rel,e,AG,ep,lk,q2⟩=>?_);subst ep;obtain⟨rs,c,rk⟩:=cm (P:=X.prog) (w:=X.w) rel;obtain⟨z,hd,vs0,r0,dd⟩:=nH I2.hok e;cases r0;refine⟨rs,c,dd,λh' dd' hs=>⟨.ref s.heap.objs.size,_,?_,rfl,q2⟩⟩
 have hz:(mergeK [] AG).length<=An:=by
  have h1:=im AG [];rw[Fq]at h1;rw[HU];ext
 have he:∃q,h'.get? s.heap.objs.size=some q:=let ⟨q,_,_,hq,_⟩:=dd';⟨q,hq⟩;exact fY I2 (by rw[e];exact Cu) hs he (fJ hz hd (rk.merge .nil) dd')
structure M1 (X:Cx)(o:BY)(m:Str)(apos:Pos)(e:BY)(cpos:Pos):Prop where
 base:CL o m X.env (eval o X.env)=eval o X.env
 few:((B5 cpos (Ap [e] X.env)).all (λx=>!x.1) && (FP cpos (DQ [] X.env)).all (λx=>x.1.isSome)
  && decide (([e]:List BY).length+([]:List Fn).length+(if ([]:List Fn).isEmpty then 0 else 1)<30))=true
 line:(apos.endLine == cpos.line)=true
 trees:B5 cpos (Ap [e] X.env)=[(false,eval e X.env)]
structure M2 (X:Cx)(o:BY)(m:Str)(apos:Pos)(e f:BY)(cpos:Pos):Prop where
 base:CL o m X.env (eval o X.env)=eval o X.env
 few:((B5 cpos (Ap [e,f] X.env)).all (λx=>!x.1) && (FP cpos (DQ [] X.env)).all (λx=>x.1.isSome)
  && decide (([e,f]:List BY).length+([]:List Fn).length+(if ([]:List Fn).isEmpty then 0 else 1)<30))=true
 line:(apos.endLine == cpos.line)=true
 trees:B5 cpos (Ap [e,f] X.env)=[(false,eval e X.env),(false,eval f X.env)]
section
variable {κ:Type}[DecidableEq κ]
end
structure Df (K:Ac)(mg:Str->Option Ai)(x:Str)(st:C6)(ps:List Str)(f:Av)(fd:Dy):Prop where
 F:CB K x x st f fd
 b:HF K fd ps []
 m:mg x=some (.ref f)
structure Blt (mg:Str->Option Ai):Prop where
 len:mg "len" = none
 range:mg "range" = none
 isinstance:mg "isinstance" = none
 int:mg "int" = none
 bool:mg "bool" = none
 list:mg "list" = none
 tuple:mg "tuple" = none
 max:mg "max" = none
 min:mg "min" = none
 dict:mg "dict" = none
 reversed:mg "reversed" = none
 sorted:mg "sorted" = none
 set:mg "set" = none
 str:mg "str" = none
 sum:mg "sum" = none
 enumerate:mg "enumerate" = none
 zip:mg "zip" = none
 all:mg "all" = none
def Zy {st:C6}(d:Df X.K X.mg x st ps f fd)(G:FnOk X.prog X.w X.K X.mg X.base CX0 k f fd ps sp)(hr:Db k X.A)(ha:PA X (e::es) t)
  (hg:autoParam (Gl X x) BV) (hdb:autoParam 'j' Gy) (he:autoParam (Ap (e::es) X.env=(false,eval e X.env)::Ap es X.env) BV) (hpl:autoParam ((B5 pos (Ap es X.env)).any (·.1)=false) BV) :
  PE X (.Call (.Name x p) (e::es) [] pos) (Uk sp [] E0 t):=yS G hr hg d.m d.F.kp d.b .nil Pf ha hdb he hpl
def Zx (hm:X.mg x=some (.int i t))(hg:autoParam (Gl X x) BV)(hd:autoParam 'j' Gy):PE X (.Name x pos) (tC (.int i)):=yT hg hm ⟨_,rfl⟩ hd
def j2 (hm:X.mg x=none)(hv:CM x=some (.type T))(hg:autoParam (Gl X x) BV)(hn:autoParam (x≠"__name__") Gy)(hd:autoParam 'j' Gy):PE X (.Name x pos) (tC (.ty T)):=xu hg hm hv rfl hn hd
def small (h:n<=1000):n<=An:=FK (BU h)
def oG (xs)(k:Nat):LK xs none (some (k:Int))=xs.take k:=by
 unfold LK;rw[HT.sIx_none,HT.sIx_nat,Mb,NW];by_cases h:k<=xs.length
 .rw[Ft h]
 .rw[FF (by ext),Bm,BR (by ext)]
def zP (xs)(k:Nat):LK xs (some (k:Int)) none=xs.drop k:=by
 unfold LK;rw[HT.sIx_none,HT.sIx_nat];by_cases h:k<=xs.length
 .rw[Ft h,BR (by rw[Gn];exact AL _)]
 .rw[FF (by ext),JR,L6,NB (by ext)]
def TabOk (K:Ac)(w:BK)(h:Av)(D:List (Str×Int)):Prop:=
 ∃es n,K.lookup h=some ⟨.type "dict",none,.dict es n,#[]⟩/\PySem.W.KeysLit w.params es.toList/\∀x v,D.lookup x=some v->∃t,Md K h x=some (some (.int v t))
def Vx (hm:X.mg x=some (.ref h))(hg:autoParam (Gl X x) BV)(hd:autoParam 'j' Gy):PE X (.Name x pos) (tC (.ref h)):=yT hg hm rfl hd
def lN (K:Ac)(w:BK):R2:=λx y H Q=>∃h D k v,x=.ref h/\y=.str k/\TabOk K w h D/\D.lookup k=some v/\Q (.int v) H
def ot :P7 X (lN X.K X.w):=by
 intro value slice Ad s U H x y v u Q I rx ry h hs;obtain⟨a,D,k,z,e1',e2',⟨es,n,hl,hk,he⟩,hz,q⟩:_:=h;cases(show v=AE a from rx);obtain⟨t,rfl⟩:=(show∃t,u=Ds k t from ry);obtain⟨t',e⟩:=he k z hz;have hm:=PySem.W.mapOf_K (prog:=X.prog) (w:=X.w) I.kIn hl hk;exact iV hm.typeIs slot_dict_getitem.lookup (XU (strKind_is X.prog X.w k t) hm (PySem.W.find_K hl e) ⟨.int z,H,I.tok _,⟨_,rfl⟩,q⟩) hs
def oB (h0:0<=i)(h1:i<(xs.length:Int)):∃v,F3 xs i=some v/\v∈xs:=by
 have hk:i.toNat<xs.length:=by ext
 have e:i=((i.toNat:Nat):Int):=by ext
 have z:=Pk (Af hk);rw[<- e]at z;exact⟨xs[i.toNat],z,Go hk⟩
end L2
namespace L3
open PySem PySem.Spec PyProof.Rows L2
inductive D where
 |non | bl (b:Bool) | int (i:Int) | str (x:Str) | ref (a:Av) | ty (n:String)
 |tup (xs:List D) | lst (xs:List D) | dic (AG:List (Ck×D)) | dct (AG:List (List Ck×D))
noncomputable def RC:Bool:=false
abbrev Zt:=Av->D->Prop
def At (Z:Zt)(v:V):D->Prop
 |.non=>v=.non
 |.bl b=>v=.bl b
 |.int i=>v=.int i
 |.str x=>v=.str x
 |.ref a=>v=.ref a
 |.ty n=>v=.ty n
 |.tup xs=>∃p,v=.ref p/\Z p (.tup xs)
 |.lst xs=>∃p,v=.ref p/\Z p (.lst xs)
 |.dic AG=>∃p,v=.ref p/\Z p (.dic AG)
 |.dct AG=>∃p,v=.ref p/\Z p (.dct AG)
abbrev DH (Z:Zt):List V->List D->Prop:=Eo (At Z)
def KAt (Z:Zt)(p:κ×V)(q:κ×D):Prop:=p.1=q.1/\At Z p.2 q.2
abbrev C7 (Z:Zt):List (κ×V)->List (κ×D)->Prop:=Eo (KAt Z)
def Le (Z Z':Zt):Prop:=∀p d,Z p d->Z' p d
def Le.refl (Z:Zt):Le Z Z:=λ_ _ h=>h
def Le.trans (a:Le Z Z1)(b:Le Z1 Z2):Le Z Z2:=λp d h=>b p d (a p d h)
def At.mono (l:Le Z Z')(h:At Z v d):At Z' v d:=by
 cases d with
 |tup xs=>obtain⟨p,e,z⟩:=h;exact⟨p,e,l _ _ z⟩
 |lst xs=>obtain⟨p,e,z⟩:=h;exact⟨p,e,l _ _ z⟩
 |dic xs=>obtain⟨p,e,z⟩:=h;exact⟨p,e,l _ _ z⟩
 |dct xs=>obtain⟨p,e,z⟩:=h;exact⟨p,e,l _ _ z⟩
 |_=>exact h
theorem DH.mono {Z Z':Zt}(l:Le Z Z'):∀{vs:List V}{ds:List D},DH Z vs ds->DH Z' vs ds:=λh=>by
 induction h with
 |nil=>exact .nil
 |cons r t ih=>exact .cons (At.mono l r) ih
theorem C7.mono {κ:Type}{Z Z':Zt}(l:Le Z Z'):∀{vs:List (κ×V)}{ds:List (κ×D)},C7 Z vs ds->C7 Z' vs ds:=λh=>by
 induction h with
 |nil=>exact .nil
 |cons r t ih=>exact .cons ⟨r.1,At.mono l r.2⟩ ih
theorem DH.length (h:DH Z vs ds):vs.length=ds.length:=D9 h
theorem DH.get :∀{vs:List V}{ds:List D}{i:Nat}{d:D},DH Z vs ds->ds[i]? = some d->∃v,vs[i]? = some v/\At Z v d
 |_,_,_,_,.nil,e=>by simp at e
 |_,_,0,_,.cons r _,e=>by simp at e;subst e;exact⟨_,rfl,r⟩
 |_,_,i+1,d,.cons _ t,e=>by
  obtain⟨v,h1,h2⟩:=DH.get t (by simpa using e);exact⟨v,by simpa using h1,h2⟩
theorem DH.got :∀{vs:List V}{ds:List D}{i:Nat}{v:V},DH Z vs ds->vs[i]? = some v->∃d,ds[i]? = some d/\At Z v d
 |_,_,_,_,.nil,e=>by simp at e
 |_,_,0,_,.cons r _,e=>by simp at e;subst e;exact⟨_,rfl,r⟩
 |_,_,i+1,d,.cons _ t,e=>by
  obtain⟨v,h1,h2⟩:=DH.got t (by simpa using e);exact⟨v,by simpa using h1,h2⟩
def DH.append {Z:Zt}:∀{xs ys:List V}{us ws:List D},DH Z xs us->DH Z ys ws->DH Z (xs++ys) (us++ws):=λh s=>by
 induction h with
 |nil=>exact s
 |cons r t ih=>exact .cons r ih
theorem DH.take {Z:Zt}:∀{xs:List V}{us:List D}(n:Nat),DH Z xs us->DH Z (xs.take n) (us.take n):=λn h=>by
 induction h generalizing n with
 |nil=>rw[Lo,Lo];exact .nil
 |cons r t ih=>cases n with
  |zero=>exact .nil
  |succ n=>exact .cons r (ih n)
theorem DH.drop {Z:Zt}:∀{xs:List V}{us:List D}(n:Nat),DH Z xs us->DH Z (xs.drop n) (us.drop n):=λn h=>by
 induction h generalizing n with
 |nil=>rw[N3,N3];exact .nil
 |cons r t ih=>cases n with
  |zero=>exact .cons r t
  |succ n=>exact ih n
inductive MO where
 |lst (xs:List D) | dic (AG:List (Ck×D)) | dct (AG:List (List Ck×D)) | obj (C:Av) (fs:List (Str×D))
abbrev Mp:=Av->Option MO
noncomputable def put (M:Mp)(a:Av)(o:MO):Mp:=λb=>if b=a then some o else M b
noncomputable def J2 (M:Mp)(a:Av):Mp:=λb=>if b=a then none else M b
def Di :put M a o a=some o:=by unfold put;rw[if_pos rfl]
def DJ (h:b≠a):put M a o b=M b:=by unfold put;rw[if_neg h]
def QG :put (put M a o) a u=put M a u:=by funext b;unfold put;split<;>rfl
def UL (h:M a=none):J2 (put M a o) a=M:=by
 funext b;unfold J2 put;split
 .next e=>rw[e,h]
 .rfl
def Sub (M M':Mp):Prop:=∀a o,M a=some o->M' a=some o
def Sub.refl (M:Mp):Sub M M:=λ_ _ h=>h
def Sub.trans {M M1 M2:Mp}(a:Sub M M1)(b:Sub M1 M2):Sub M M2:=λp o h=>b p o (a p o h)
theorem Sub.put (h:M a=none):Sub M (put M a o):=λb u e=>by
 rw[DJ (λz=>by rw[z,h]at e;cases e)];exact e
def Sub.puts (s:Sub M M')(h:M a=none):Sub M (L3.put M' a o):=λb u e=>by
 rw[DJ (λz=>by rw[z,h]at e;cases e)];exact s b u e
section
variable (K:Ac)
def HB (H:Hp)(Z:Zt)(p:Av):D->Prop
 |.tup ds=>∃vs,H p=some (.tup vs)/\DH Z vs ds
 |.lst ds=>∃vs,Rd H p (.lst vs)/\DH Z vs ds
 |.dic AG=>∃ks,Rd H p (.dK ks)/\C7 Z ks AG
 |.dct AG=>∃ks,Rd H p (.dT ks)/\C7 Z ks AG
 |_=>False
def KB (Z:Zt)(p:Av):D->Prop
 |.tup ds=>RC=true/\∃vs,(∃o Bi n,K.lookup p=some o/\o.cls=.type "tuple"/\o.data=.seq Bi n/\Bi.size<=An/\BO vs Bi.toList)/\DH Z vs ds
 |.lst ds=>∃vs,(∃o Bi n,K.lookup p=some o/\o.cls=.type "list"/\o.dict=none/\o.data=.seq Bi n/\Bi.size<=An/\BO vs Bi.toList)/\DH Z vs ds
 |_=>False
def MB (H:Hp)(Z:Zt)(p:Av):MO->Prop
 |.lst ds=>∃vs,H p=some (.lst vs)/\DH Z vs ds
 |.dic AG=>∃ks,H p=some (.dK ks)/\C7 Z ks AG
 |.dct AG=>∃ks,H p=some (.dT ks)/\C7 Z ks AG
 |.obj C fs=>∃dx ks,H p=some (.ins C dx ks)/\C7 Z ks fs
structure HR (H:Hp)(M:Mp)(Z:Zt):Prop where
 z:∀p d,Z p d->HB H Z p d\/KB K Z p d
 m:∀p o,M p=some o->(∀d,Z p d->KB K Z p d)/\MB H Z p o
end
section
variable {K:Ac}{H:Hp}{M M':Mp}{Z:Zt}{p:Av}{d:D}
theorem HB.mono (l:Le Z Z')(h:HB H Z p d):HB H Z' p d:=by
 cases d with
 |tup ds=>obtain⟨vs,r,a⟩:=h;exact⟨vs,r,a.mono l⟩
 |lst ds=>obtain⟨vs,r,a⟩:=h;exact⟨vs,r,a.mono l⟩
 |dic ds=>obtain⟨vs,r,a⟩:=h;exact⟨vs,r,a.mono l⟩
 |dct ds=>obtain⟨vs,r,a⟩:=h;exact⟨vs,r,a.mono l⟩
 |_=>exact h.elim
theorem KB.mono (l:Le Z Z')(h:KB K Z p d):KB K Z' p d:=by
 cases d with
 |tup ds=>obtain⟨g,vs,r,a⟩:=h;exact⟨g,vs,r,a.mono l⟩
 |lst ds=>obtain⟨vs,r,a⟩:=h;exact⟨vs,r,a.mono l⟩
 |_=>exact h.elim
theorem MB.mono (l:Le Z Z')(h:MB H Z p o):MB H Z' p o:=by
 cases o with
 |lst ds=>obtain⟨vs,r,a⟩:=h;exact⟨vs,r,a.mono l⟩
 |dic ds=>obtain⟨vs,r,a⟩:=h;exact⟨vs,r,a.mono l⟩
 |dct ds=>obtain⟨vs,r,a⟩:=h;exact⟨vs,r,a.mono l⟩
 |obj C fs=>obtain⟨dx,vs,r,a⟩:=h;exact⟨dx,vs,r,a.mono l⟩
def Rd.at (e:H' p=H p)(h:Rd H p u):Rd H' p u:=by
 rcases h with h|⟨o,h⟩
 .exact .inl (e.trans h)
 .exact .inr ⟨o,e.trans h⟩
theorem HB.at (e:H' p=H p)(h:HB H Z p d):HB H' Z p d:=by
 cases d with
 |tup ds=>obtain⟨vs,r,a⟩:=h;exact⟨vs,e.trans r,a⟩
 |lst ds=>obtain⟨vs,r,a⟩:=h;exact⟨vs,Rd.at e r,a⟩
 |dic ds=>obtain⟨vs,r,a⟩:=h;exact⟨vs,Rd.at e r,a⟩
 |dct ds=>obtain⟨vs,r,a⟩:=h;exact⟨vs,Rd.at e r,a⟩
 |_=>exact h.elim
def MB.at (e:H' p=H p)(h:MB H Z p o):MB H' Z p o:=by
 cases o with
 |lst ds=>obtain⟨vs,r,a⟩:=h;exact⟨vs,e.trans r,a⟩
 |dic ds=>obtain⟨vs,r,a⟩:=h;exact⟨vs,e.trans r,a⟩
 |dct ds=>obtain⟨vs,r,a⟩:=h;exact⟨vs,e.trans r,a⟩
 |obj C fs=>obtain⟨dx,vs,r,a⟩:=h;exact⟨dx,vs,e.trans r,a⟩
def HB.some (h:HB H Z p d):H p≠none:=λe=>by
 cases d with
 |tup ds=>obtain⟨vs,r,a⟩:=h;rw[e]at r;cases r
 |lst ds=>obtain⟨vs,r | ⟨o,r⟩,a⟩:=h<;>rw[e]at r<;>cases r
 |dic ds=>obtain⟨vs,r | ⟨o,r⟩,a⟩:=h<;>rw[e]at r<;>cases r
 |dct ds=>obtain⟨vs,r | ⟨o,r⟩,a⟩:=h<;>rw[e]at r<;>cases r
 |_=>exact h.elim
def MB.some (h:MB H Z p o):H p≠none:=λe=>by
 cases o with
 |lst ds=>obtain⟨vs,r,a⟩:=h;rw[e]at r;cases r
 |dic ds=>obtain⟨vs,r,a⟩:=h;rw[e]at r;cases r
 |dct ds=>obtain⟨vs,r,a⟩:=h;rw[e]at r;cases r
 |obj C fs=>obtain⟨dx,vs,r,a⟩:=h;rw[e]at r;cases r
def HR.fresh (h:HR K H M Z)(e:H p=none):M p=none:=by
 cases q:M p with
 |none=>rfl
 |some o=>exact absurd e (h.m p o q).2.some
def HR.sub (h:HR K H M Z)(s:Sub M' M):HR K H M' Z:=⟨h.z,λp o e=>h.m p o (s p o e)⟩
def ext (Z:Zt)(p:Av)(d:D):Zt:=λb u=>Z b u\/(b=p/\u=d)
theorem Le.ext:Le Z (ext Z p d):=λ_ _ h=>.inl h
def HR.lay (h:HR K H M Z)(e:H p=none)(o:HO):(∀b u,Z b u->HB (CI H p o) Z b u\/KB K Z b u)/\∀b u,M b=some u->(∀d,Z b d->KB K Z b d)/\MB (CI H p o) Z b u:=by
 refine⟨λb u z=>?_,λb u q=>?_⟩
 .rcases h.z b u z with k|k
  .exact .inl (k.at (Iq λq=>k.some (by rw[q];exact e)))
  .exact .inr k
 .obtain⟨k1,k2⟩:=h.m b u q;exact⟨k1,k2.at (Iq λq=>k2.some (by rw[q];exact e))⟩
def HR.datum (h:HR K H M Z)(e:H p=none){o:HO}(hb:HB (CI H p o) Z p d):HR K (CI H p o) M (ext Z p d):=by
 obtain⟨h1,h2⟩:=h.lay e o;have mn:=h.fresh e;refine⟨λb u z=>?_,λb u q=>?_⟩
 .rcases z with z|⟨rfl,rfl⟩
  .rcases h1 b u z with k|k
   .exact .inl (k.mono Le.ext)
   .exact .inr (k.mono Le.ext)
  .exact .inl (hb.mono Le.ext)
 .obtain⟨k1,k2⟩:=h2 b u q;refine⟨λd' z=>?_,k2.mono Le.ext⟩;rcases z with z|⟨rfl,rfl⟩
  .exact(k1 d' z).mono Le.ext
  .rw[mn]at q;cases q
def HR.newT (h:HR K H M Z)(e:H p=none){vs:List V}{ds:List D}(a:DH Z vs ds):HR K (CI H p (.tup vs)) M (ext Z p (.tup ds)):=h.datum e ⟨vs,MX,a⟩
def HR.newF (h:HR K H M Z)(e:H p=none){vs:List V}{ds:List D}(a:DH Z vs ds):HR K (CI H p (.lst vs)) M (ext Z p (.lst ds)):=h.datum e ⟨vs,.inl MX,a⟩
def HR.newFD (h:HR K H M Z)(e:H p=none){vs:List (Ck×V)}{ds:List (Ck×D)}(a:C7 Z vs ds):HR K (CI H p (.dK vs)) M (ext Z p (.dic ds)):=h.datum e ⟨vs,.inl MX,a⟩
def za :At (ext Z p (.dct xs)) (.ref p) (.dct xs):=⟨p,rfl,.inr ⟨rfl,rfl⟩⟩
def xP :At (ext Z p (.tup xs)) (.ref p) (.tup xs):=⟨p,rfl,.inr ⟨rfl,rfl⟩⟩
def fW :At (ext Z p (.lst xs)) (.ref p) (.lst xs):=⟨p,rfl,.inr ⟨rfl,rfl⟩⟩
def xO :At (ext Z p (.dic xs)) (.ref p) (.dic xs):=⟨p,rfl,.inr ⟨rfl,rfl⟩⟩
def HR.newM (h:HR K H M Z)(e:H p=none){o:HO}{u:MO}(hb:MB (CI H p o) Z p u):HR K (CI H p o) (put M p u) Z:=by
 obtain⟨h1,h2⟩:=h.lay e o;refine⟨h1,λb w q=>?_⟩;by_cases hbp:b=p
 .subst hbp;rw[Di]at q;cases q;refine⟨λd z=>?_,hb⟩;rcases h.z b d z with k|k
  .exact absurd e k.some
  .exact k
 .rw[DJ hbp]at q;exact h2 b w q
def HR.newL (h:HR K H M Z)(e:H p=none){vs:List V}{ds:List D}(a:DH Z vs ds):HR K (CI H p (.lst vs)) (put M p (.lst ds)) Z:=h.newM e ⟨vs,MX,a⟩
def HR.newD (h:HR K H M Z)(e:H p=none){vs:List (Ck×V)}{ds:List (Ck×D)}(a:C7 Z vs ds):HR K (CI H p (.dK vs)) (put M p (.dic ds)) Z:=h.newM e ⟨vs,MX,a⟩
def HR.chg (h:HR K H M Z){u u':MO}{o:HO}(e:M p=some u)(hb:MB (CI H p o) Z p u'):HR K (CI H p o) (put M p u') Z:=by
 obtain⟨hk,_⟩:=h.m p u e;refine⟨λb d z=>?_,λb w q=>?_⟩
 .by_cases hbp:b=p
  .subst hbp;exact .inr (hk d z)
  .rcases h.z b d z with k|k
   .exact .inl (k.at (Iq hbp))
   .exact .inr k
 .by_cases hbp:b=p
  .subst hbp;rw[Di]at q;cases q;exact⟨hk,hb⟩
  .rw[DJ hbp]at q;obtain⟨k1,k2⟩:=h.m b w q;exact⟨k1,k2.at (Iq hbp)⟩
def HR.chgL (h:HR K H M Z){u:MO}(e:M p=some u){vs:List V}{ds:List D}(a:DH Z vs ds):HR K (CI H p (.lst vs)) (put M p (.lst ds)) Z:=h.chg e ⟨vs,MX,a⟩
def HR.chgD (h:HR K H M Z){u:MO}(e:M p=some u){vs:List (Ck×V)}{ds:List (Ck×D)}(a:C7 Z vs ds):HR K (CI H p (.dK vs)) (put M p (.dic ds)) Z:=h.chg e ⟨vs,MX,a⟩
def HR.frzM (h:HR K H M Z){u:MO}(e:M p=some u)(hb:HB H Z p d):HR K H (J2 M p) (ext Z p d):=by
 refine⟨λb d' z=>?_,λb w q=>?_⟩
 .rcases z with z|⟨rfl,rfl⟩
  .rcases h.z b d' z with k|k
   .exact .inl (k.mono Le.ext)
   .exact .inr (k.mono Le.ext)
  .exact .inl (hb.mono Le.ext)
 .unfold J2 at q;split at q
  .cases q
  .next hbp=>
   obtain⟨k1,k2⟩:=h.m b w q;refine⟨λd' z=>?_,k2.mono Le.ext⟩;rcases z with z|⟨z,_⟩
   .exact(k1 d' z).mono Le.ext
   .exact absurd z hbp
def HR.frzL (h:HR K H M Z){ds:List D}(e:M p=some (.lst ds)):HR K H (J2 M p) (ext Z p (.lst ds)):=by
 obtain⟨_,vs,r,a⟩:=h.m p _ e;exact h.frzM e ⟨vs,.inl r,a⟩
def HR.frzD (h:HR K H M Z){ds:List (Ck×D)}(e:M p=some (.dic ds)):HR K H (J2 M p) (ext Z p (.dic ds)):=by
 obtain⟨_,vs,r,a⟩:=h.m p _ e;exact h.frzM e ⟨vs,.inl r,a⟩
def HR.frzDT (h:HR K H M Z){ds:List (List Ck×D)}(e:M p=some (.dct ds)):HR K H (J2 M p) (ext Z p (.dct ds)):=by
 obtain⟨_,vs,r,a⟩:=h.m p _ e;exact h.frzM e ⟨vs,.inl r,a⟩
def HR.rdT (h:HR K H M Z){v:V}{ds:List D}(a:At Z v (.tup ds)):∃p vs,v=.ref p/\LY K H p vs/\DH Z vs ds:=by
 obtain⟨p,rfl,z⟩:=a;rcases h.z p _ z with⟨vs,r,a⟩|⟨_,vs,r,a⟩
 .exact⟨p,vs,rfl,.inl (.inl r),a⟩
 .exact⟨p,vs,rfl,.inr r,a⟩
def HR.rdK (hg:RC=false)(h:HR K H M Z){v:V}{ds:List D}(a:At Z v (.tup ds)):∃p vs,v=.ref p/\H p=some (.tup vs)/\DH Z vs ds:=by
 obtain⟨p,rfl,z⟩:=a;rcases h.z p _ z with⟨vs,r,a⟩|⟨g,_⟩
 .exact⟨p,vs,rfl,r,a⟩
 .rw[hg]at g;cases g
def HR.rdF (h:HR K H M Z){v:V}{ds:List D}(a:At Z v (.lst ds)):∃p vs,v=.ref p/\F4 K H p vs/\DH Z vs ds:=by
 obtain⟨p,rfl,z⟩:=a;rcases h.z p _ z with⟨vs,r,a⟩|⟨vs,r,a⟩
 .exact⟨p,vs,rfl,.inl r,a⟩
 .exact⟨p,vs,rfl,.inr r,a⟩
def HR.rdM (h:HR K H M Z){ds:List D}(e:M p=some (.lst ds)):∃vs,H p=some (.lst vs)/\DH Z vs ds:=(h.m p _ e).2
def HR.rdMT (h:HR K H M Z){ds:List (List Ck×D)}(e:M p=some (.dct ds)):∃vs,H p=some (.dT vs)/\C7 Z vs ds:=(h.m p _ e).2
def HR.rdMO (h:HR K H M Z){C:Av}{fs:List (Str×D)}(e:M p=some (.obj C fs)):∃dx vs,H p=some (.ins C dx vs)/\C7 Z vs fs:=(h.m p _ e).2
def HR.rdMD (h:HR K H M Z){ds:List (Ck×D)}(e:M p=some (.dic ds)):∃vs,H p=some (.dK vs)/\C7 Z vs ds:=(h.m p _ e).2
noncomputable def Bg (M:Mp):D->Option (List D)
 |.lst ds=>some ds
 |.ref p=>match M p with
  |some (.lst ds)=>some ds
  |_=>none
 |_=>none
noncomputable def HK (M:Mp):D->Option (List D)
 |.tup ds=>some ds
 |d=>Bg M d
def HR.rdL (h:HR K H M Z){v:V}{d:D}{ds:List D}(e:Bg M d=some ds)(a:At Z v d):∃p vs,v=.ref p/\F4 K H p vs/\DH Z vs ds:=by
 cases d with
 |lst xs=>cases e;exact h.rdF a
 |ref p=>
  cases(show v=.ref p from a);unfold Bg at e;simp only at e;split at e
  .next q=>
   cases e;obtain⟨vs,r,a⟩:=h.rdM q;exact⟨p,vs,rfl,F4.of r,a⟩
  .cases e
 |_=>cases e
def HR.rdS (h:HR K H M Z){v:V}{d:D}{ds:List D}(e:HK M d=some ds)(a:At Z v d):∃p vs,v=.ref p/\(F4 K H p vs\/LY K H p vs)/\DH Z vs ds:=by
 have go:Bg M d=some ds->∃p vs,v=.ref p/\(F4 K H p vs\/LY K H p vs)/\DH Z vs ds:=λe=>by
  obtain⟨p,vs,e1,s,a⟩:=h.rdL e a;exact⟨p,vs,e1,.inl s,a⟩
 cases d with
 |tup xs=>cases e;obtain⟨p,vs,e1,s,a⟩:=h.rdT a;exact⟨p,vs,e1,.inr s,a⟩
 |lst xs=>exact go e
 |ref p=>exact go e
 |_=>cases e
end
abbrev St:=L2.St
abbrev GK:=List (Option D)
abbrev Ef:=D->Mp->Prop
abbrev DZ:=GK->Mp->Ef->Prop
abbrev Lj:=GK->Mp->(Bool->Mp->Prop)->Prop
abbrev Ka:=GK->Mp->(List D->Mp->Prop)->Prop
abbrev bM:=GK->Mp->(Option Int->Mp->Prop)->Prop
structure Kq where
 nx:GK->Mp->Prop
 rt:Ef
 bk:GK->Mp->Prop:=λ_ _=>False
 ct:GK->Mp->Prop:=λ_ _=>False
abbrev Hw:=Kq->GK->Mp->Prop
abbrev LM:=D->D->Mp->Ef->Prop
abbrev DL:=List D->Mp->Ef->Prop
def OA (Z:Zt):Option V->Option D->Prop
 |_,none=>True
 |some v,some d=>At Z v d
 |none,some _=>False
abbrev GJ (Z:Zt):St->GK->Prop:=Eo (OA Z)
theorem OA.mono {Z Z':Zt}(l:Le Z Z'){v:Option V}{d:Option D}(h:OA Z v d):OA Z' v d:=by
 cases d with
 |none=>cases v<;>exact Cu
 |some d=>cases v with
  |none=>exact h
  |some v=>exact At.mono l h
theorem GJ.mono {Z Z':Zt}(l:Le Z Z'):∀{U:St}{τ:GK},GJ Z U τ->GJ Z' U τ:=λh=>by
 induction h with
 |nil=>exact .nil
 |cons r t ih=>exact .cons (OA.mono l r) ih
theorem GJ.set (r:At Z x d):∀{U:St}{τ:GK}(i:Nat),GJ Z U τ->GJ Z (U.set i (some x)) (τ.set i (some d))
 |_,_,_,.nil=>.nil
 |_,_,0,.cons _ t=>.cons r t
 |_,_,i+1,.cons q t=>.cons q (GJ.set r i t)
theorem GJ.get :∀{U:St}{τ:GK}{i:Nat}{d:D},GJ Z U τ->τ[i]? = some (some d)->∃v,U[i]? = some (some v)/\At Z v d
 |_,_,_,_,.nil,e=>by simp at e
 |v::_,_,0,_,.cons r _,e=>by
  simp at e;subst e;cases v with
  |none=>exact r.elim
  |some v=>exact⟨v,rfl,r⟩
 |_,_,i+1,d,.cons _ t,e=>by
  obtain⟨v,h1,h2⟩:=GJ.get t (by simpa using e);exact⟨v,by simpa using h1,h2⟩
def Fb (x:D)(k:Int->Prop):Prop:=match x with
 |.int i=>k i
 |_=>False
def Qx (x:D)(k:Bool->Prop):Prop:=match x with
 |.bl b=>k b
 |_=>False
def GG (x:D)(k:Str->Prop):Prop:=match x with
 |.str b=>k b
 |_=>False
def Ko (x:D)(k:Av->Prop):Prop:=match x with
 |.ref b=>k b
 |_=>False
def Cw (o:Option α)(k:α->Prop):Prop:=match o with
 |some x=>k x
 |none=>False
def C3 (h:Fb x k):∃i,x=.int i/\k i:=by
 cases x with
 |int i=>exact⟨i,rfl,h⟩
 |_=>exact h.elim
def Rw {x:D}{k:Bool->Prop}(h:Qx x k):∃i,x=.bl i/\k i:=by
 cases x with
 |bl i=>exact⟨i,rfl,h⟩
 |_=>exact h.elim
def Ea (h:GG x k):∃i,x=.str i/\k i:=by
 cases x with
 |str i=>exact⟨i,rfl,h⟩
 |_=>exact h.elim
def IG (h:Ko x k):∃i,x=.ref i/\k i:=by
 cases x with
 |ref i=>exact⟨i,rfl,h⟩
 |_=>exact h.elim
def Cm (h:Cw x k):∃i,x=some i/\k i:=by
 cases x with
 |some i=>exact⟨i,rfl,h⟩
 |none=>exact h.elim
section
variable (K:Ac)
def HE (Z:Zt)(Q2:Ef)(Q:VK):Prop:=∀Z' v d H' M',Le Z Z'->HR K H' M' Z'->At Z' v d->Q2 d M'->Q v H'
def lE (t:DZ):TE:=λU H Q=>∃Z τ M Q2,GJ Z U τ/\HR K H M Z/\t τ M Q2/\HE K Z Q2 Q
def lT (t:Lj):TT:=λU H Q=>∃Z τ M Q2,GJ Z U τ/\HR K H M Z/\t τ M Q2/\∀Z' b H' M',Le Z Z'->HR K H' M' Z'->Q2 b M'->Q b H'
def lA (t:Ka):TA:=λU H Q=>∃Z τ M Q2,GJ Z U τ/\HR K H M Z/\t τ M Q2/\∀Z' vs ds H' M',Le Z Z'->HR K H' M' Z'->DH Z' vs ds->Q2 ds M'->Q vs H'
def lO (t:bM):TO:=λU H Q=>∃Z τ M Q2,GJ Z U τ/\HR K H M Z/\t τ M Q2/\∀Z' b H' M',Le Z Z'->HR K H' M' Z'->Q2 b M'->Q b H'
def Su (Z:Zt)(Q2:GK->Mp->Prop)(Q:St->Hp->Prop):Prop:=∀Z' U τ H' M',Le Z Z'->GJ Z' U τ->HR K H' M' Z'->Q2 τ M'->Q U H'
structure ER (Z:Zt)(D2:Kq)(D:MI):Prop where
 nx:Su K Z D2.nx D.nx
 rt:HE K Z D2.rt D.rt
 bk:Su K Z D2.bk D.bk
 ct:Su K Z D2.ct D.ct
def lS (t:Hw):TS:=λD U H=>∃Z τ M D2,GJ Z U τ/\HR K H M Z/\t D2 τ M/\ER K Z D2 D
def lR (r:LM):R2:=λx y H Q=>∃Z dx dy M Q2,HR K H M Z/\At Z x dx/\At Z y dy/\r dx dy M Q2/\HE K Z Q2 Q
def lC (r:List D->Mp->Ef->Prop):List V->Hp->VK->Prop:=λxs H Q=>∃Z ds M Q2,HR K H M Z/\DH Z xs ds/\r ds M Q2/\HE K Z Q2 Q
def lU (r:D->Mp->Ef->Prop):V->Hp->VK->Prop:=λx H Q=>∃Z d M Q2,HR K H M Z/\At Z x d/\r d M Q2/\HE K Z Q2 Q
def lSp (sp:DL):Sp:=λvs H Q _=>∃Z ds M Q2,HR K H M Z/\DH Z vs ds/\sp ds M Q2/\HE K Z Q2 Q
end
section
variable {K:Ac}
def HE.le (h:HE K Z Q2 Q)(l:Le Z Z'):HE K Z' Q2 Q:=λZ1 v d H M l1 hr a q=>h Z1 v d H M (l.trans l1) hr a q
def Su.le {Q2:GK->Mp->Prop}{Q:St->Hp->Prop}(h:Su K Z Q2 Q)(l:Le Z Z'):Su K Z' Q2 Q:=λZ1 v d H M l1 hr a q=>h Z1 v d H M (l.trans l1) hr a q
theorem ER.le {D2:Kq}{D:MI}(h:ER K Z D2 D)(l:Le Z Z'):ER K Z' D2 D:=⟨h.nx.le l,h.rt.le l,h.bk.le l,h.ct.le l⟩
def HE.dn {Q2:Ef}{Q:VK}(h:HE K Z Q2 Q):HE K Z (λd M=>∃M0,Sub M0 M/\Q2 d M0) Q:=λZ1 v d H M l1 hr a ⟨M0,s,q⟩=>h Z1 v d H M0 l1 (hr.sub s) a q
end
@[irreducible] def B3 (X:Cx)(e:BY)(t:DZ):Prop:=PE X e (lE X.K t)
unseal B3
@[irreducible] def Ij (X:Cx)(e:BY)(t:Lj):Prop:=PT X e (lT X.K t)
unseal Ij
@[irreducible] def JQ (X:Cx)(e:BY)(t:Lj):Prop:=PW X e (lT X.K t)
unseal JQ
@[irreducible] def Gd (X:Cx)(es:List BY)(t:Ka):Prop:=PA X es (lA X.K t)
unseal Gd
@[irreducible] def KN (X:Cx)(e:Option BY)(t:bM):Prop:=PO X e (lO X.K t)
unseal KN
@[irreducible] def Gc (X:Cx)(st:C6)(t:Hw):Prop:=PS X st (lS X.K t)
unseal Gc
@[irreducible] def Dg (X:Cx)(st:List C6)(t:Hw):Prop:=K9 X st (lS X.K t)
unseal Dg
@[irreducible] def Cq (X:Cx)(f:Ai->Ai->Sem Ai)(r:LM):Prop:=Gf X f (lR X.K r)
unseal Cq
@[irreducible] def Gb (X:Cx)(f:Ai->Sem Ai)(r:D->Mp->Ef->Prop):Prop:=Ss X f (lU X.K r)
unseal Gb
@[irreducible] def BW (X:Cx)(f:Ai)(r:List D->Mp->Ef->Prop):Prop:=Fo X f (lC X.K r)
unseal BW
@[irreducible] def F0 (X:Cx)(r:LM):Prop:=P7 X (lR X.K r)
unseal F0
section
variable {X:Cx}
def PE.mono {e:BY}{t t':TE}(h:PE X e t)(m:∀U H Q,t' U H Q->t U H Q):PE X e t':=λAd s U H Q I q=>h Ad s U H Q I (m U H Q q)
def PT.mono {e:BY}{t t':TT}(h:PT X e t)(m:∀U H Q,t' U H Q->t U H Q):PT X e t':=λAd s U H Q I q=>h Ad s U H Q I (m U H Q q)
def PW.mono (h:PW X e t)(m:∀U H Q,t' U H Q->t U H Q):PW X e t':=λwh Ad s U H Q I q=>h wh Ad s U H Q I (m U H Q q)
def PA.mono (h:PA X e t)(m:∀U H Q,t' U H Q->t U H Q):PA X e t':=λpos Ad s U H Q I q=>h pos Ad s U H Q I (m U H Q q)
def PO.mono (h:PO X e t)(m:∀U H Q,t' U H Q->t U H Q):PO X e t':=λAd s U H Q I q=>h Ad s U H Q I (m U H Q q)
def PS.mono (h:PS X e t)(m:∀D U H,t' D U H->t D U H):PS X e t':=λAd s U H D I q=>h Ad s U H D I (m D U H q)
def K9.mono (h:K9 X e t)(m:∀D U H,t' D U H->t D U H):K9 X e t':=λAd s U H D I q=>h Ad s U H D I (m D U H q)
def Gf.mono (h:Gf X f r)(m:∀x y H Q,r' x y H Q->r x y H Q):Gf X f r':=λAd s U H x y v u Q I rx ry q=>h Ad s U H x y v u Q I rx ry (m x y H Q q)
def Ss.mono (h:Ss X f r)(m:∀x H Q,r' x H Q->r x H Q):Ss X f r':=λAd s U H x v Q I rx q=>h Ad s U H x v Q I rx (m x H Q q)
def Fo.mono (h:Fo X f r)(m:∀x H Q,r' x H Q->r x H Q):Fo X f r':=λAd s U H x v Q I rx q=>h Ad s U H x v Q I rx (m x H Q q)
def P7.mono (h:P7 X r)(m:∀x y H Q,r' x y H Q->r x y H Q):P7 X r':=λvalue slice Ad s U H x y v u Q I rx ry q hs=>h value slice Ad s U H x y v u Q I rx ry (m x y H Q q) hs
def Gw (i:Nat):DZ:=λτ M Q=>Cw (τ[i]?).join λd=>Q d M
def uC (d:D):DZ:=λ_ M Q=>Q d M
def qv (i:Nat)(hN:autoParam (X.N[i]? = some x) BV)(hv:autoParam (XM X.env.scope x) tO)(hd:autoParam 'j' Gy)
  (hcd:autoParam ((x == ("__classdict__":Str))=false) Gy):B3 X (.Name x pos) (Gw i):=PE.mono (pv i hN hv hd hcd) λU H Q ⟨Z,τ,M,Q2,st,hr,h,k⟩=>by
 obtain⟨d,e,q⟩:=Cm h;obtain⟨v,e1,a⟩:=st.get (E5.mp e);exact⟨v,e1,k Z v d H M (Le.refl _) hr a q⟩
def qc (h:PE X e (tC v))(a:∀Z,At Z v d):B3 X e (uC d):=PE.mono h λU H Q ⟨Z,τ,M,Q2,st,hr,q,k⟩=>k Z v d H M (Le.refl _) hr (a Z) q
def Aj {i j pos}:B3 X (.Constant (.int i) j pos) (uC (.int i)):=qc sv λ_=>rfl
def S6 {b j pos}:B3 X (.Constant (.bool b) j pos) (uC (.bl b)):=qc lg λ_=>rfl
def PQ {j pos}:B3 X (.Constant .none j pos) (uC .non):=qc sw λ_=>rfl
def BZ {x j pos}:B3 X (.Constant (.str x) j pos) (uC (.str x)):=qc s9 λ_=>rfl
def IP (hm:X.mg x=some (.int i t))(hg:autoParam (Gl X x) BV)(hd:autoParam 'j' Gy):B3 X (.Name x pos) (uC (.int i)):=qc (Zx hm hg hd) λ_=>rfl
def Rr (hm:X.mg x=some (.ref h))(hg:autoParam (Gl X x) BV)(hd:autoParam 'j' Gy):B3 X (.Name x pos) (uC (.ref h)):=qc (Vx hm hg hd) λ_=>rfl
def sP (hm:X.mg x=none)(hv:CM x=some (.type T))(hg:autoParam (Gl X x) BV)(hn:autoParam (x≠"__name__") Gy)(hd:autoParam 'j' Gy):B3 X (.Name x pos) (uC (.ty T)):=qc (j2 hm hv hg hn hd) λ_=>rfl
variable {a b c e:BY}{ta tb tc te:DZ}{pos:Pos}
def lE.bind {K:Ac}{U:St}{H:Hp}{Z:Zt}{τ:GK}{M:Mp}{R:Ef}{Q:VK}(st:GJ Z U τ)(hr:HR K H M Z)(h:ta τ M R)
  (k:∀Z' v d H' M',Le Z Z'->HR K H' M' Z'->At Z' v d->R d M'->Q v H'):lE K ta U H Q:=⟨Z,τ,M,R,st,hr,h,k⟩
def WU (r:LM)(ta tb:DZ):DZ:=λτ M Q=>ta τ M λx M1=>tb τ M1 λy M2=>r x y M2 Q
def eB {K:Ac}{r:LM}:∀U H Q,lE K (WU r ta tb) U H Q->YS (lR K r) (lE K ta) (lE K tb) U H Q:=by
 intro U H Q;ext1⟨Z,τ,M,Q2,st,hr,h,k⟩;refine lE.bind st hr h λZ1 x dx H1 M1 l1 h1 a1 q1=>lE.bind (st.mono l1) h1 q1 λZ2 y dy H2 M2 l2 h2 a2 q2=>?_;exact⟨Z2,dx,dy,M2,Q2,h2,a1.mono l2,a2,q2,k.le (l1.trans l2)⟩
def BJ (ho:Cq X (Bz op) r)(ha:B3 X a ta)(hb:B3 X b tb):B3 X (.BinOp a op b pos) (WU r ta tb):=PE.mono (li ho ha hb) eB
def Bf (hr:F0 X r)(ha:B3 X a ta)(hb:B3 X b tb)(hs:Pm b:=by exact λ_ _=>rfl):B3 X (.Subscript a b pos) (WU r ta tb):=PE.mono (lh hr ha hb hs) eB
def JY (ho:Cq X (Bc op) r)(ha:B3 X a ta)(hb:B3 X b tb)(hm:autoParam (Gj op b=false) tM):B3 X (.Compare a [op] [b] pos) (WU r ta tb):=PE.mono (xv ho ha hb hm) eB
def Pb (t:DZ):Lj:=λτ M Q=>t τ M λx M1=>Qx x λc=>Q c M1
def Us {K:Ac}{t1:TE}(m:∀U H Q,lE K te U H Q->t1 U H Q):∀U H Q,lT K (Pb te) U H Q->t1 U H λx H1=>∃k,x=.bl k/\Q k H1:=by
 intro U H Q;ext1⟨Z,τ,M,Q2,st,hr,h,k⟩;refine m _ _ _ (lE.bind st hr h λZ1 x dx H1 M1 l1 h1 a1 q1=>?_);obtain⟨c,rfl,q⟩:=Rw q1;exact⟨c,a1,k Z1 c H1 M1 l1 h1 q⟩
def AV {op:CmpOp}{r:LM}(ho:Cq X (Bc op) r)(ha:B3 X a ta)(hb:B3 X b tb)(hm:autoParam (Gj op b=false) tM):Ij X (.Compare a [op] [b] pos) (Pb (WU r ta tb)):=PT.mono (ym ho ha hb hm) (Us eB)
def GF {t:DZ}(h:B3 X e t)(he:autoParam (∀whole,QW e X.env whole=(do let v <- whole;Nw e.pos;G6 [v] (truthy v))) NM):Ij X e (Pb t):=PT.mono (ui h he) (Us λ_ _ _ h=>h)
def Op (r r':LM)(ta tb tc:DZ):DZ:=λτ M Q=>ta τ M λx M1=>tb τ M1 λy M2=>r x y M2 λz M3=>Qx z λk=>if k=true then tc τ M3 λw M4=>r' y w M4 Q else Q (.bl false) M3
def VE {K:Ac} :∀U H Q,lE K (Op r r' ta tb tc) U H Q->Rh (lR K r) (lR K r') (lE K ta) (lE K tb) (lE K tc) U H Q:=by
 intro U H Q;ext1⟨Z,τ,M,Q2,st,hr,h,k⟩;refine lE.bind st hr h λZ1 x dx H1 M1 l1 h1 a1 q1=>lE.bind (st.mono l1) h1 q1 λZ2 y dy H2 M2 l2 h2 a2 q2=>?_;refine⟨Z2,dx,dy,M2,_,h2,a1.mono l2,a2,q2,λZ3 z dz H3 M3 l3 h3 a3 q3=>?_⟩;obtain⟨c,rfl,q⟩:=Rw q3;refine⟨c,a3,?_⟩;cases c with
 |false=>rw[if_neg Ak]at q ⊢;exact k Z3 (.bl false) (.bl false) H3 M3 (l1.trans (l2.trans l3)) h3 rfl q
 |true=>rw[if_pos rfl]at q ⊢;refine lE.bind (st.mono (l1.trans (l2.trans l3))) h3 q λZ4 w dw H4 M4 l4 h4 a4 q4=>?_;exact⟨Z4,dy,dw,M4,Q2,h4,a2.mono (l3.trans l4),a4,q4,k.le (l1.trans (l2.trans (l3.trans l4)))⟩
def OC (ho:Cq X (Bc op) r)(ho':Cq X (Bc op') r')(ha:B3 X a ta)(hb:B3 X b tb)(hc:B3 X c tc)
  (hm:autoParam (lastMarks [op,op'] [b,c]=false) tP):B3 X (.Compare a [op,op'] [b,c] pos) (Op r r' ta tb tc):=PE.mono (Ζ ho ho' ha hb hc hm) VE
def sB (r:D->Mp->Ef->Prop)(ta:DZ):DZ:=λτ M Q=>ta τ M λx M1=>r x M1 Q
def Sf {op:UnaryOp}{r:D->Mp->Ef->Prop}(ho:Gb X (Nv op) r)(ha:B3 X a ta):B3 X (.UnaryOp op a pos) (sB r ta):=PE.mono (lm ho ha) (by
 intro U H Q;ext1⟨Z,τ,M,Q2,st,hr,h,k⟩;exact lE.bind st hr h λZ1 x dx H1 M1 l1 h1 a1 q1=>⟨Z1,dx,M1,Q2,h1,a1,q1,k.le l1⟩)
variable {tB:Lj}{C2:List BY}
def YN (t u:Lj):Lj:=λτ M Q=>t τ M λc M1=>if c=true then u τ M1 Q else Q false M1
def sE (t u:Lj):Lj:=λτ M Q=>t τ M λc M1=>if c=true then Q true M1 else u τ M1 Q
def YG (t:Lj):Lj:=λτ M Q=>t τ M λc M1=>Q (!c) M1
def lT.bind {K:Ac}(st:GJ Z U τ)(hr:HR K H M Z)(h:tA τ M R)
  (k:∀Z' b H' M',Le Z Z'->HR K H' M' Z'->R b M'->Q b H'):lT K tA U H Q:=⟨Z,τ,M,R,st,hr,h,k⟩
def UH (ha:Ij X a tA):JQ X (.BoolOp .And [a] pos) tA:=yo ha
def aH (ha:Ij X a tA):JQ X (.BoolOp .Or [a] pos) tA:=uk ha
def UF (ha:Ij X a tA)(hb:JQ X (.BoolOp .And (b::C2) pos) tB):JQ X (.BoolOp .And (a::b::C2) pos) (YN tA tB):=PW.mono (uj ha hb) (by
 intro U H Q;ext1⟨Z,τ,M,Q2,st,hr,h,k⟩;refine lT.bind st hr h λZ1 c H1 M1 l1 h1 q1=>?_;cases c with
 |true=>rw[if_pos rfl]at q1 ⊢;exact lT.bind (st.mono l1) h1 q1 λZ2 c H2 M2 l2 h2 q2=>k Z2 c H2 M2 (l1.trans l2) h2 q2
 | false=>rw [if_neg Ak] at q1 ⊢;exact k Z1 false H1 M1 l1 h1 q1)
def W6 (ha:Ij X a tA)(hb:JQ X (.BoolOp .Or (b::C2) pos) tB):JQ X (.BoolOp .Or (a::b::C2) pos) (sE tA tB):=PW.mono (lr ha hb) (by
 intro U H Q;ext1⟨Z,τ,M,Q2,st,hr,h,k⟩;refine lT.bind st hr h λZ1 c H1 M1 l1 h1 q1=>?_;cases c with
 |false=>rw[if_neg Ak]at q1 ⊢;exact lT.bind (st.mono l1) h1 q1 λZ2 c H2 M2 l2 h2 q2=>k Z2 c H2 M2 (l1.trans l2) h2 q2
 | true=>rw [if_pos rfl] at q1 ⊢;exact k Z1 true H1 M1 l1 h1 q1)
theorem JQ.pt (h:JQ X e t):Ij X e t:=PW.pt (show PW X e (lT X.K t)from h)
def Ni (ha:Ij X a tA):Ij X (.UnaryOp .Not a pos) (YG tA):=PT.mono (uh ha) (by
 intro U H Q;ext1⟨Z,τ,M,Q2,st,hr,h,k⟩;exact lT.bind st hr h λZ1 c H1 M1 l1 h1 q1=>k Z1 _ H1 M1 l1 h1 q1)
def Uh (ta tb:DZ):DZ:=λτ M Q=>ta τ M λx M1=>Qx x λc=>if c=true then tb τ M1 Q else Q (.bl false) M1
def YF (ta tb:DZ):DZ:=λτ M Q=>ta τ M λx M1=>Qx x λc=>if c=true then Q (.bl true) M1 else tb τ M1 Q
def T8 (ta:DZ):DZ:=λτ M Q=>ta τ M λx M1=>Qx x λc=>Q (.bl (!c)) M1
def OB {op}(h:B3 X a t):B3 X (.BoolOp op [a] pos) t:=sy h
def Rs (ha:B3 X a ta)(hb:B3 X (.BoolOp .And (b::C2) pos) tb):B3 X (.BoolOp .And (a::b::C2) pos) (Uh ta tb):=PE.mono (rc ha hb) (by
 intro U H Q;ext1⟨Z,τ,M,Q2,st,hr,h,k⟩;refine lE.bind st hr h λZ1 x dx H1 M1 l1 h1 a1 q1=>?_;obtain⟨c,rfl,q1'⟩:=Rw q1;replace q1:=q1';refine⟨c,a1,?_⟩;cases c with
 |true=>rw[if_pos rfl]at q1 ⊢;exact lE.bind (st.mono l1) h1 q1 λZ2 y dy H2 M2 l2 h2 a2 q2=>k Z2 y dy H2 M2 (l1.trans l2) h2 a2 q2
 | false=>rw [if_neg Ak] at q1 ⊢;exact k Z1 (.bl false) (.bl false) H1 M1 l1 h1 rfl q1)
def lV (ha:B3 X a ta)(hb:B3 X (.BoolOp .Or (b::C2) pos) tb):B3 X (.BoolOp .Or (a::b::C2) pos) (YF ta tb):=PE.mono (lj ha hb) (by
 intro U H Q;ext1⟨Z,τ,M,Q2,st,hr,h,k⟩;refine lE.bind st hr h λZ1 x dx H1 M1 l1 h1 a1 q1=>?_;obtain⟨c,rfl,q1'⟩:=Rw q1;replace q1:=q1';refine⟨c,a1,?_⟩;cases c with
 |false=>rw[if_neg Ak]at q1 ⊢;exact lE.bind (st.mono l1) h1 q1 λZ2 y dy H2 M2 l2 h2 a2 q2=>k Z2 y dy H2 M2 (l1.trans l2) h2 a2 q2
 | true=>rw [if_pos rfl] at q1 ⊢;exact k Z1 (.bl true) (.bl true) H1 M1 l1 h1 rfl q1)
def lW (ha:B3 X a ta):B3 X (.UnaryOp .Not a pos) (T8 ta):=PE.mono (sx ha) (by
 intro U H Q;ext1⟨Z,τ,M,Q2,st,hr,h,k⟩;refine lE.bind st hr h λZ1 x dx H1 M1 l1 h1 a1 q1=>?_;obtain ⟨c,rfl,q1'⟩:=Rw q1;replace q1:=q1';exact ⟨c,a1,k Z1 (.bl (!c)) (.bl (!c)) H1 M1 l1 h1 rfl q1⟩)
def sF (t:Lj)(ta tb:DZ):DZ:=λτ M Q=>t τ M λc M1=>if c=true then ta τ M1 Q else tb τ M1 Q
def JX (hc:Ij X c tA)(ha:B3 X a ta)(hb:B3 X b tb):B3 X (.IfExp c a b pos) (sF tA ta tb):=PE.mono (zo hc ha hb) (by
 intro U H Q;ext1⟨Z,τ,M,Q2,st,hr,h,k⟩;refine lT.bind st hr h λZ1 c H1 M1 l1 h1 q1=>?_;cases c with
 |true=>rw[if_pos rfl]at q1 ⊢;exact lE.bind (st.mono l1) h1 q1 λZ2 y dy H2 M2 l2 h2 a2 q2=>k Z2 y dy H2 M2 (l1.trans l2) h2 a2 q2
 | false=>rw [if_neg Ak] at q1 ⊢;exact lE.bind (st.mono l1) h1 q1 λZ2 y dy H2 M2 l2 h2 a2 q2=>k Z2 y dy H2 M2 (l1.trans l2) h2 a2 q2)
variable {es:List BY}{t:Ka}
def Vf:Ka:=λ_ M Q=>Q [] M
def Ug (ta:DZ)(tr:Ka):Ka:=λτ M Q=>ta τ M λx M1=>tr τ M1 λxs M2=>Q (x::xs) M2
def qN:Gd X [] Vf:=PA.mono fM (by
 intro U H Q;ext1⟨Z,τ,M,Q2,st,hr,h,k⟩;exact k Z [] [] H M (Le.refl _) hr .nil h)
def qA (ha:B3 X e te)(hr:Gd X es t)(hs:autoParam (Ap (e::es) X.env=(false,eval e X.env)::Ap es X.env) BV):Gd X (e::es) (Ug te t):=PA.mono (fU ha hr hs) (by
 intro U H Q;ext1⟨Z,τ,M,Q2,st,hr,h,k⟩;refine lE.bind st hr h λZ1 x dx H1 M1 l1 h1 a1 q1=>⟨Z1,τ,M1,_,st.mono l1,h1,q1,λZ2 vs ds H2 M2 l2 h2 a2 q2=>?_⟩;exact k Z2 (x::vs) (dx::ds) H2 M2 (l1.trans l2) h2 (.cons (a1.mono l2) a2) q2)
def Yy (t:Ka):DZ:=λτ M Q=>t τ M λxs M1=>xs.length<=An/\Q (.tup xs) M1
def Ub (t:Ka):DZ:=λτ M Q=>t τ M λxs M1=>xs.length<=An/\Q (.lst xs) M1
def YH (t:Ka):DZ:=λτ M Q=>t τ M λxs M1=>xs.length<=An/\∀p,M1 p=none->Q (.ref p) (put M1 p (.lst xs))
def CJ {x1}(h:Gd X es t):B3 X (.Tuple es x1 pos) (Yy t):=PE.mono (tf h) (by
 intro U H Q;ext1⟨Z,τ,M,Q2,st,hr,h,k⟩;refine ⟨Z,τ,M,_,st,hr,h,λZ1 vs ds H1 M1 l1 h1 a1 q1=>⟨by rw [a1.length];exact q1.1,λp hp=>?_⟩⟩;exact k _ (.ref p) (.tup ds) _ M1 (l1.trans Le.ext) (h1.newT hp a1) xP q1.2)
def Ib (h:Gd X es t):B3 X (.List es pos) (Ub t):=PE.mono (wY h) (by
 intro U H Q;ext1⟨Z,τ,M,Q2,st,hr,h,k⟩;refine ⟨Z,τ,M,_,st,hr,h,λZ1 vs ds H1 M1 l1 h1 a1 q1=>⟨by rw [a1.length];exact q1.1,λp hp=>?_⟩⟩;exact k _ (.ref p) (.lst ds) _ M1 (l1.trans Le.ext) (h1.newF hp a1) fW q1.2)
def Jg (h:Gd X es t):B3 X (.List es pos) (YH t):=PE.mono (wY h) (by
 intro U H Q;ext1⟨Z,τ,M,Q2,st,hr,h,k⟩;refine ⟨Z,τ,M,_,st,hr,h,λZ1 vs ds H1 M1 l1 h1 a1 q1=>⟨by rw [a1.length];exact q1.1,λp hp=>?_⟩⟩;exact k Z1 (.ref p) (.ref p) _ _ l1 (h1.newL hp a1) rfl (q1.2 p (h1.fresh hp)))
def dO (r:List D->Mp->Ef->Prop)(t:Ka):DZ:=λτ M Q=>t τ M λxs M1=>r xs M1 Q
def sT {K:Ac} :∀U H Q,lE K (dO r t) U H Q->jU (lC K r) (lA K t) U H Q:=by
 intro U H Q;ext1⟨Z,τ,M,Q2,st,hr,h,k⟩;exact⟨Z,τ,M,_,st,hr,h,λZ1 vs ds H1 M1 l1 h1 a1 q1=>⟨Z1,ds,M1,Q2,h1,a1,q1,k.le l1⟩⟩
def B6 {id:String}(hc:BW X (.builtin id) r)(hm:X.mg x=none)(hv:CM x=some (.builtin id))(ha:Gd X (e::es) t)(hg:autoParam (Gl X x) BV)(hn:autoParam (x≠"__name__") Gy)(hdb:autoParam 'j' Gy)
  (he:autoParam (Ap (e::es) X.env=(false,eval e X.env)::Ap es X.env) BV) (hpl:autoParam ((B5 pos (Ap es X.env)).any (·.1)=false) BV):B3 X (.Call (.Name x p) (e::es) [] pos) (dO r t):=PE.mono (Ε hc hg hm hv ha hn hdb he hpl) sT
def Ee (hc:BW X (.type T) r)(hm:X.mg x=none)(hv:CM x=some (.type T))(ha:Gd X (e::es) t)(hg:autoParam (Gl X x) BV)(hn:autoParam (x≠"__name__") Gy)(hdb:autoParam 'j' Gy)
  (he:autoParam (Ap (e::es) X.env=(false,eval e X.env)::Ap es X.env) BV) (hpl:autoParam ((B5 pos (Ap es X.env)).any (·.1)=false) BV):B3 X (.Call (.Name x p) (e::es) [] pos) (dO r t):=PE.mono (ZlF hc hg hm hv ha hn hdb he hpl) sT
def Rc (sp:DL)(t:Ka):DZ:=λτ M Q=>t τ M λxs M1=>sp xs M1 Q
def Zu {st:C6}(d:Df X.K X.mg x st ps f fd)(G:FnOk X.prog X.w X.K X.mg X.base CX0 k f fd ps (lSp X.K sp))(hr:Db k X.A)(ha:Gd X (e::es) t)
  (hg:autoParam (Gl X x) BV) (hdb:autoParam 'j' Gy) (he:autoParam (Ap (e::es) X.env=(false,eval e X.env)::Ap es X.env) BV) (hpl:autoParam ((B5 pos (Ap es X.env)).any (·.1)=false) BV) :
  B3 X (.Call (.Name x p) (e::es) [] pos) (Rc sp t):=PE.mono (Zy d G hr ha hg hdb he hpl) (by
 intro U H Q;ext1⟨Z,τ,M,Q2,st,hr,h,k⟩;refine ⟨Z,τ,M,_,st,hr,h,λZ1 vs ds H1 M1 l1 h1 a1 q1=>?_⟩;show lSp X.K sp (vs++[]) H1 Q E0;rw [Cc];exact ⟨Z1,ds,M1,Q2,h1,a1,q1,k.le l1⟩)
def Pc:bM:=λ_ M Q=>Q none M
def T7 (t:DZ):bM:=λτ M Q=>t τ M λx M1=>Fb x λi=>Q (some i) M1
def Xv:KN X none Pc:=PO.mono yd (by
 intro U H Q;ext1⟨Z,τ,M,Q2,st,hr,h,k⟩;exact k Z none H M (Le.refl _) hr h)
def UM (h:B3 X e te):KN X (some e) (T7 te):=PO.mono (ye h) (by
 intro U H Q;ext1⟨Z,τ,M,Q2,st,hr,h,k⟩;refine lE.bind st hr h λZ1 x dx H1 M1 l1 h1 a1 q1=>?_;obtain ⟨i,rfl,q⟩:=C3 q1;exact ⟨i,a1,k Z1 (some i) H1 M1 l1 h1 q⟩)
def sC (r:D->Option Int->Option Int->Mp->Ef->Prop)(te:DZ)(tl th:bM):DZ:=λτ M Q=>te τ M λx M1=>tl τ M1 λl M2=>th τ M2 λu M3=>r x l u M3 Q
def j7 (K:Ac)(r:D->Option Int->Option Int->Mp->Ef->Prop):V->Option Int->Option Int->Hp->VK->Prop:=λx lo hi H Q=>∃Z d M Q2,HR K H M Z/\At Z x d/\r d lo hi M Q2/\HE K Z Q2 Q
@[irreducible] def Gz (X:Cx)(r:D->Option Int->Option Int->Mp->Ef->Prop):Prop:=TD X (j7 X.K r)
unseal Gz
def TD.mono (h:TD X r)(m:∀x l u H Q,r' x l u H Q->r x l u H Q):TD X r':=λAd s U H x v vl vu lo hi sl Q I rx hs pl pu q=>h Ad s U H x v vl vu lo hi sl Q I rx hs pl pu (m x lo hi H Q q)
def Jf {lo hi:Option BY}(hr:Gz X r)(he:B3 X e te)(hl:KN X lo tl)(hu:KN X hi th):B3 X (.Subscript e (.Slice lo hi none p2) pos) (sC r te tl th):=PE.mono (zq hr he hl hu) (by
 intro U H Q;ext1⟨Z,τ,M,Q2,st,hr,h,k⟩;refine lE.bind st hr h λZ1 x dx H1 M1 l1 h1 a1 q1=>⟨Z1,τ,M1,_,st.mono l1,h1,q1,λZ2 lo H2 M2 l2 h2 q2=>⟨Z2,τ,M2,_,st.mono (l1.trans l2),h2,q2,λZ3 hi H3 M3 l3 h3 q3=>?_⟩⟩;exact ⟨Z3,dx,M3,Q2,h3,a1.mono (l2.trans l3),q3,k.le (l1.trans (l2.trans l3))⟩)
end
end L3
namespace L3
open PySem PySem.Spec PyProof.Rows L2
unseal B3 Ij JQ Gd KN Gc Dg Cq Gb BW F0 Gz
section
variable {K:Ac}{Z:Zt}{H:Hp}{M:Mp}{Q2:Ef}{Q:VK}
theorem HE.v (k:HE K Z Q2 Q)(hr:HR K H M Z){v:V}(a:At Z v d)(q:Q2 d M):Q v H:=k Z v d H M (Le.refl _) hr a q
theorem HE.b (k:HE K Z Q2 Q)(hr:HR K H M Z){b:Bool}(q:Q2 (.bl b) M):Q (.bl b) H:=k Z (.bl b) (.bl b) H M (Le.refl _) hr rfl q
def HE.i (k:HE K Z Q2 Q)(hr:HR K H M Z){b:Int}(q:Q2 (.int b) M):Q (.int b) H:=k Z (.int b) (.int b) H M (Le.refl _) hr rfl q
def HE.s (k:HE K Z Q2 Q)(hr:HR K H M Z){b:Str}(q:Q2 (.str b) M):Q (.str b) H:=k Z (.str b) (.str b) H M (Le.refl _) hr rfl q
def HE.n (k:HE K Z Q2 Q)(hr:HR K H M Z)(q:Q2 .non M):Q .non H:=k Z .non .non H M (Le.refl _) hr rfl q
def HE.t (k:HE K Z Q2 Q)(hr:HR K H M Z){vs:List V}{ds:List D}{p:Av}(hp:H p=none)(a:DH Z vs ds)(q:Q2 (.tup ds) M):Q (.ref p) (CI H p (.tup vs)):=k _ (.ref p) (.tup ds) _ M Le.ext (hr.newT hp a) xP q
def HE.f (k:HE K Z Q2 Q)(hr:HR K H M Z){vs:List V}{ds:List D}{p:Av}(hp:H p=none)(a:DH Z vs ds)(q:Q2 (.lst ds) M):Q (.ref p) (CI H p (.lst vs)):=k _ (.ref p) (.lst ds) _ M Le.ext (hr.newF hp a) fW q
def HE.l (k:HE K Z Q2 Q)(hr:HR K H M Z){vs:List V}{ds:List D}{p:Av}(hp:H p=none)(a:DH Z vs ds)(q:∀p,M p=none->Q2 (.ref p) (put M p (.lst ds))):Q (.ref p) (CI H p (.lst vs)):=k Z (.ref p) (.ref p) _ _ (Le.refl _) (hr.newL hp a) rfl (q p (hr.fresh hp))
def HE.fd (k:HE K Z Q2 Q)(hr:HR K H M Z){vs:List (Ck×V)}{ds:List (Ck×D)}{p:Av}(hp:H p=none)(a:C7 Z vs ds)(q:Q2 (.dic ds) M):Q (.ref p) (CI H p (.dK vs)):=k _ (.ref p) (.dic ds) _ M Le.ext (hr.newFD hp a) xO q
def HE.d (k:HE K Z Q2 Q)(hr:HR K H M Z){vs:List (Ck×V)}{ds:List (Ck×D)}{p:Av}(hp:H p=none)(a:C7 Z vs ds)(q:∀p,M p=none->Q2 (.ref p) (put M p (.dic ds))):Q (.ref p) (CI H p (.dK vs)):=k Z (.ref p) (.ref p) _ _ (Le.refl _) (hr.newD hp a) rfl (q p (hr.fresh hp))
end
def sI (C:Int->Int->Prop)(g:Int->Int->D):LM:=λx y M Q=>Fb x λi=>Fb y λj=>C i j/\Q (g i j) M
def Rm (g:Int->Int->D):LM:=λx y M Q=>Fb x λi=>Fb y λj=>Q (g i j) M
def o2 (h:Gf X f (rI C g))(hg:∀i j Z,At Z (g i j) (g2 i j)):Cq X f (sI C g2):=Gf.mono h (by
 intro x y H Q;ext1⟨Z,dx,dy,M,Q2,hr,ax,ay,h,k⟩;obtain ⟨i,rfl,h1⟩:=C3 h;obtain ⟨j,rfl,c,q⟩:=C3 h1;exact ⟨i,j,ax,ay,c,k Z _ _ H M (Le.refl _) hr (hg i j Z) q⟩)
def Td (h:Gf X f (Qw g))(hg:∀i j Z,At Z (g i j) (g2 i j)):Cq X f (Rm g2):=Gf.mono h (by
 intro x y H Q;ext1⟨Z,dx,dy,M,Q2,hr,ax,ay,h,k⟩;obtain ⟨i,rfl,h1⟩:=C3 h;obtain ⟨j,rfl,q⟩:=C3 h1;exact ⟨i,j,ax,ay,k Z _ _ H M (Le.refl _) hr (hg i j Z) q⟩)
def HN:Cq X (Bz .Add) (Rm λi j=>.int (i+j)):=Td p7 λ_ _ _=>rfl
def Nr:Cq X (Bz .Sub) (Rm λi j=>.int (i-j)):=Td qz λ_ _ _=>rfl
def VO:Cq X (Bz .Mult) (sI P9 λi j=>.int (i*j)):=o2 qu λ_ _ _=>rfl
def Li:Cq X (Bz .FloorDiv) (sI Wt λi j=>.int (i / j)):=o2 wt λ_ _ _=>rfl
def Hv:Cq X (Bz .Mod) (sI (λ_ j=>0<j) λi j=>.int (i%j)):=o2 qt λ_ _ _=>rfl
def To:Cq X (Bz .Pow) (sI P8 λi j=>.int (i^j.toNat)):=o2 qw λ_ _ _=>rfl
def W5:Cq X (Bz .LShift) (sI P8 λi j=>.int (i*2^j.toNat)):=o2 qx λ_ _ _=>rfl
def nM:Cq X (Bz .RShift) (sI (λ_ j=>0<=j) λi j=>.int (i / 2^j.toNat)):=o2 qy λ_ _ _=>rfl
def UD:Cq X (Bz .BitAnd) (Rm λi j=>.int (AF i j)):=Td p8 λ_ _ _=>rfl
def Ky:Cq X (Bz .BitOr) (Rm λi j=>.int (AM i j)):=Td k8 λ_ _ _=>rfl
def UE:Cq X (Bz .BitXor) (Rm λi j=>.int (Bd i j)):=Td ra λ_ _ _=>rfl
def Kz:Cq X (Bc .Lt) (Rm λi j=>.bl (decide (i<j))):=Td k6 λ_ _ _=>rfl
def Rx:Cq X (Bc .LtE) (Rm λi j=>.bl (decide (i<=j))):=Td kz λ_ _ _=>rfl
def LJ:Cq X (Bc .Gt) (Rm λi j=>.bl (decide (j<i))):=Td ku λ_ _ _=>rfl
def ZD:Cq X (Bc .GtE) (Rm λi j=>.bl (decide (j<=i))):=Td kt λ_ _ _=>rfl
def sU (g:Int->D):D->Mp->Ef->Prop:=λx M Q=>Fb x λi=>Q (g i) M
def u2 (h:Ss X f (rU g))(hg:∀i Z,At Z (g i) (g2 i)):Gb X f (sU g2):=Ss.mono h (by
 intro x H Q;ext1⟨Z,dx,M,Q2,hr,ax,h,k⟩;obtain ⟨i,rfl,q⟩:=C3 h;exact ⟨i,ax,k Z _ _ H M (Le.refl _) hr (hg i Z) q⟩)
def fB:Gb X (Nv .USub) (sU λi=>.int (-i)):=u2 wa λ_ _=>rfl
def Xg:Gb X (Nv .Invert) (sU λi=>.int (Ep i)):=u2 vz λ_ _=>rfl
noncomputable def EF:D->Bool
 |.non=>true
 |.bl _=>true
 |.int _=>true
 |.str _=>true
 |_=>false
noncomputable def Lh:D->D->Bool
 |.non,.non=>true
 |.bl a,.bl b=>a == b
 |.bl a,.int b=>(if a then 1 else 0) == b
 |.int a,.bl b=>a == (if b then 1 else 0)
 |.int a,.int b=>decide (a=b)
 |.str a,.str b=>decide (a=b)
 |_,_=>false
noncomputable def Ux (x y:D):Bool:=match x,y with
 |.non,.non=>true | .non,.int _=>true | .int _,.non=>true | .non,.bl _=>true | .bl _,.non=>true | .non,.str _=>true | .str _,.non=>true
 |.int _,.int _=>true | .bl _,.bl _=>true | .str _,.str _=>true
 |.int _,.str _=>true | .str _,.int _=>true | .bl _,.str _=>true | .str _,.bl _=>true
 |_,_=>false
def Zc (neg:Bool):LM:=λx y M Q=>Ux x y=true/\Q (.bl (if neg then !Lh x y else Lh x y)) M
def cv {Z:Zt}{x y:V}{dx dy:D}(ax:At Z x dx)(ay:At Z y dy)(h:Ux dx dy=true):Vk x y=true/\decide (x=y)=Lh dx dy:=by
 cases dx<;>cases dy<;>first
  |exact absurd h Ak
  |(subst ax;subst ay;refine⟨rfl,?_⟩;delta Lh;simp[Oi])
def CP:Cq X (Bc .Eq) (Zc false):=Gf.mono kq (by
 intro x y H Q;ext1⟨Z,dx,dy,M,Q2,hr,ax,ay,⟨f,q⟩,k⟩;obtain ⟨h1,h2⟩:=cv ax ay f;exact ⟨h1,by rw [h2];exact k.b hr q⟩)
def ZC:Cq X (Bc .NotEq) (Zc true):=Gf.mono k7 (by
 intro x y H Q;ext1⟨Z,dx,dy,M,Q2,hr,ax,ay,⟨f,q⟩,k⟩;obtain ⟨h1,h2⟩:=cv ax ay f;exact ⟨h1,by rw [h2];exact k.b hr q⟩)
def jK:Option MO->Option String
 |some (.lst _)=>some "list"
 |some (.dic _)=>some "dict"
 |some (.dct _)=>some "dict"
 |_=>none
noncomputable def NF (M:Mp):D->Option String
 |.non=>some "NoneType"
 |.bl _=>some "bool"
 |.int _=>some "int"
 |.str _=>some "str"
 |.tup _=>some "tuple"
 |.lst _=>some "list"
 |.dic _=>some "dict"
 |.dct _=>some "dict"
 |.ref p=>jK (M p)
 |.ty _=>none
def WV {M:Mp}{p:Av}{o:Option MO}(h:M p=o):NF M (.ref p)=jK o:=congrArg jK h
noncomputable def Nn (t c:String):Option Bool:=if t=c then some true else if t = "bool"/\c = "int" then some true else if (t = "int"\/t = "str"\/t = "list"\/t = "tuple"\/t = "dict"\/t = "NoneType")/\(c = "bool"\/c = "int"\/c = "str"\/c = "list"\/c = "tuple"\/c = "dict")then some false else none
def uy (K:Ac)(h:Nn t c=some b):CU K (.type t) (.type c)=some b:=by
 unfold Nn at h;split at h
 .next e=>subst e;cases h;exact ξ K t
 .split at h
  .next e=>obtain⟨rfl,rfl⟩:=e;cases h;kernel_rfl
  .split at h
   .next n1 n2 e=>
    cases h;obtain⟨e1,e2⟩:=e
    rcases e1 with rfl|rfl|rfl|rfl|rfl|rfl<;>rcases e2 with rfl|rfl|rfl|rfl|rfl|rfl<;>first
     |exact absurd rfl n1
     |kernel_rfl
   .cases h
def Za (c:String):List D->Mp->Ef->Prop:=λxs M Q=>match xs with
 |[x,.ty c']=>c'=c/\Cw (NF M x) λt=>Cw (Nn t c) λb=>Q (.bl b) M
 |_=>False
def oo {Ad:List (Av×Obj)}{U:St}{H:Hp}{s:As}{A:CH}{E:Ai->As->Prop}{Q:Ai->As->Prop}{c:Ai}{b:Bool}{M:Mp}{Z:Zt}{x:V}{d:D}{u:Ai}{t:String}(I:AX X Ad U H s)(hr:HR X.K H M Z)(a:At Z x d)(rx:RelV x u)(ty:NF M d=some t)
  (e:CU X.K (.type t) c=some b) (h:∀tk,Q (.bool b) {s with toks:=tk}):Au 'd' A (Ix (.builtin "isinstance") [u,c]) Q E s:=by
 have dicC:∀{p:Av} {ks:List (Ck×V)},Rd H p (.dK ks)->CU X.K (.type "dict") c=some b->Au 'd' A (Ix (.builtin "isinstance") [.ref p,c]) Q E s:=λhp e=>by
  obtain⟨_,_,vs,_,o,es,ep,h1,h2,_⟩:_:=Tp I.hok hp;exact EJ L9 I.kIn ⟨o,h1,h2.1⟩ e (λz=>nomatch z) h
 have dctC:∀{p:Av} {ks:List (List Ck×V)},Rd H p (.dT ks)->CU X.K (.type "dict") c=some b->Au 'd' A (Ix (.builtin "isinstance") [.ref p,c]) Q E s:=λhp e=>by
  obtain⟨_,_,vs,_,o,es,ep,h1,h2,_⟩:_:=Xc I.hok hp;exact EJ L9 I.kIn ⟨o,h1,h2.1⟩ e (λz=>nomatch z) h
 have lisC:∀{p:Av} {vs:List V},F4 X.K H p vs->CU X.K (.type "list") c=some b->Au 'd' A (Ix (.builtin "isinstance") [.ref p,c]) Q E s:=λhs e=>by
  obtain⟨Bi,_,p,_⟩:=I.list hs;obtain⟨o,h1,h2,_⟩:=p.isList;exact EJ Qb I.kIn ⟨o,h1,h2⟩ e (λz=>nomatch z) h
 cases d with
 |non=>cases ty;exact gZ I rx (by cases(show x=V.non from a);exact IJ.non) e h
 |bl y=>cases ty;exact gZ I rx (by cases(show x=V.bl y from a);exact IJ.bl _) e h
 |int y=>cases ty;exact gZ I rx (by cases(show x=V.int y from a);exact IJ.int _) e h
 |str y=>cases ty;exact gZ I rx (by cases(show x=V.str y from a);exact IJ.str _) e h
 |tup ds=>cases ty;obtain⟨p,vs,rfl,hs,_⟩:=hr.rdT a;cases(show u=AE p from rx);obtain⟨Bi,_,⟨o,h1,h2,_⟩,_⟩:=I.tuple hs;exact EJ UV I.kIn ⟨o,h1,h2⟩ e (λz=>nomatch z) h
 |lst ds=>cases ty;obtain⟨p,vs,rfl,hs,_⟩:=hr.rdF a;cases(show u=AE p from rx);exact lisC hs e
 |dic ds=>
  cases ty;obtain⟨p,rfl,z⟩:=a;cases(show u=AE p from rx);rcases hr.z p _ z with⟨vs,r,_⟩|k
  .exact dicC r e
  .exact k.elim
 |dct ds=>
  cases ty;obtain⟨p,rfl,z⟩:=a;cases(show u=AE p from rx);rcases hr.z p _ z with⟨vs,r,_⟩|k
  .exact dctC r e
  .exact k.elim
 |ref p=>
  cases(show x=.ref p from a);cases(show u=AE p from rx);cases q:M p with
  |none=>rw[WV q]at ty;cases ty
  |some o=>
   rw[WV q]at ty;cases o with
   |lst l=>cases ty;obtain⟨vs,r,_⟩:=hr.rdM q;exact lisC (F4.of r) e
   |dic l=>cases ty;obtain⟨vs,r,_⟩:=hr.rdMD q;exact dicC (.inl r) e
   |dct l=>cases ty;obtain⟨vs,r,_⟩:=hr.rdMT q;exact dctC (.inl r) e
   |obj C f=>cases ty
 |ty n=>cases ty
def tV (c:String):BW X (.builtin "isinstance") (Za c):=by
 intro Ad s U H xs us Q I r;ext1⟨Z,ds,M,Q2,hr,a,h,k⟩
 match ds,a,h with
 |[x,.ty c'],a,h=>
  obtain⟨rfl,h⟩:=h;obtain⟨t,ht,h⟩:=Cm h;obtain⟨b,hb,q⟩:=Cm h;cases a with
  |cons a1 a2=>
   cases a2 with
   |cons a2 a3=>cases a3;obtain⟨u,w',rfl,r1,r2⟩:=Nd r;cases(show _=V.ty c' from a2);cases(show w'=D0 c' from r2);exact oo I hr a1 r1 ht (uy _ hb) λtk=>⟨.bl b,H,I.tok tk,rfl,k.b hr q⟩
inductive Cs:List BY->List D->Prop where
 |nil:Cs [] []
 |int {i j pos es ds} (h:Cs es ds):Cs (.Constant (.int i) j pos::es) (.int i::ds)
 |str {i j pos es ds} (h:Cs es ds):Cs (.Constant (.str i) j pos::es) (.str i::ds)
def sG (ds:List D):Ka:=λ_ M Q=>Q ds M
def ZZ {es:List BY}{ds:List D}(h:Cs es ds):Gd X es (sG ds):=by
 induction h with
 |nil=>exact PA.mono (qN (X:=X)) λ_ _ _ h=>h
 |int h ih=>exact PA.mono (qA (Aj (X:=X)) ih rfl) λ_ _ _ h=>h
 |str h ih=>exact PA.mono (qA (BZ (X:=X)) ih rfl) λ_ _ _ h=>h
def wB (a:DH Z vs ds)(h:F3 ds i=some d):∃v,F3 vs i=some v/\At Z v d:=by
 unfold F3 at h ⊢;rw[a.length];cases e:Sk ds.length i with
 |none=>rw[e]at h;cases h
 |some j=>rw[e]at h;exact a.get h
def Mq:LM:=λx y M Q=>match x with
 |.tup xs=>Fb y λi=>Cw (F3 xs i) λv=>Q v M
 |_=>False
def Y8:LM:=λx y M Q=>Cw (Bg M x) λxs=>Fb y λi=>Cw (F3 xs i) λv=>Q v M
def BE:F0 X Mq:=P7.mono ou (by
 intro x y H Q;ext1⟨Z,dx,dy,M,Q2,hr,ax,ay,h,k⟩;cases dx with
 |tup xs=>obtain⟨i,rfl,h1⟩:=C3 h;obtain⟨v,e,q⟩:=Cm h1;obtain⟨p,vs,rfl,hs,a⟩:=hr.rdT ax;obtain⟨v',e',a'⟩:=wB a e;exact⟨p,vs,i,v',rfl,ay,hs,e',k.v hr a' q⟩
 | _=>exact h.elim)
def Ii:F0 X Y8:=P7.mono uz (by
 intro x y H Q;ext1⟨Z,dx,dy,M,Q2,hr,ax,ay,h,k⟩;obtain ⟨xs,e0,h0⟩:=Cm h;obtain ⟨i,rfl,h1⟩:=C3 h0;obtain ⟨v,e,q⟩:=Cm h1;obtain ⟨p,vs,rfl,hs,a⟩:=hr.rdL e0 ax;obtain ⟨v',e',a'⟩:=wB a e;exact ⟨p,vs,i,v',rfl,ay,hs,e',k.v hr a' q⟩)
def Y7:LM:=λx y M Q=>GG x λz=>Fb y λi=>z.length<=An/\Cw (F3 z.cps.toList i) λc=>Q (.str ⟨#[c]⟩) M
def ZY:F0 X Y7:=P7.mono oq (by
 intro x y H Q;ext1⟨Z,dx,dy,M,Q2,hr,ax,ay,h,k⟩;obtain ⟨z,rfl,h1⟩:=Ea h;obtain ⟨i,rfl,hz,h2⟩:=C3 h1;obtain ⟨c,e,q⟩:=Cm h2;exact ⟨z,i,c,ax,ay,hz,e,k.s hr q⟩)
def GH (xs:List D)(k:D->Prop):Prop:=match xs with
 |[x]=>k x
 |_=>False
def FW (xs:List D)(k:D->D->Prop):Prop:=match xs with
 |[x,y]=>k x y
 |_=>False
def GV (h:GH xs k):∃x,xs=[x]/\k x:=by
 match xs,h with
 |[x],h=>exact⟨x,rfl,h⟩
def LI (h:FW xs k):∃x y,xs=[x,y]/\k x y:=by
 match xs,h with
 |[x,y],h=>exact⟨x,y,rfl,h⟩
def II (a:DH Z vs [d]):∃v,vs=[v]/\At Z v d:=by
 cases a with
 |cons a1 a2=>cases a2;exact⟨_,rfl,a1⟩
def P2 (a:DH Z vs [d,e]):∃v w,vs=[v,w]/\At Z v d/\At Z w e:=by
 cases a with
 |cons a1 a2=>obtain⟨w,rfl,a3⟩:=II a2;exact⟨_,w,rfl,a1,a3⟩
def K6:BW X (.builtin "len") (λxs M Q=>GH xs λx=>Cw (HK M x) λys=>Q (.int ys.length) M):=Fo.mono Zi9 (by
 intro xs H Q;ext1⟨Z,ds,M,Q2,hr,a,h,k⟩;obtain ⟨x,rfl,h1⟩:=GV h;obtain ⟨ys,e,q⟩:=Cm h1;obtain ⟨v,rfl,a1⟩:=II a;obtain ⟨p,vs,rfl,hs,a2⟩:=hr.rdS e a1;exact ⟨p,vs,rfl,hs,by rw [a2.length];exact k.i hr q⟩)
def ZmM:BW X (.builtin "len") (λxs M Q=>GH xs λx=>GG x λz=>z.length<=An/\Q (.int z.length) M):=Fo.mono Zi8 (by
 intro xs H Q;ext1⟨Z,ds,M,Q2,hr,a,h,k⟩;obtain ⟨x,rfl,h1⟩:=GV h;obtain ⟨z,rfl,hz,q⟩:=Ea h1;obtain ⟨v,rfl,a1⟩:=II a;cases (show v=V.str z from a1);exact ⟨z,rfl,hz,k.i hr q⟩)
def aL:BW X (.type "list") (λxs M Q=>GH xs λx=>Cw (HK M x) λys=>Q (.lst ys) M):=Fo.mono Zi7 (by
 intro xs H Q;ext1⟨Z,ds,M,Q2,hr,a,h,k⟩;obtain ⟨x,rfl,h1⟩:=GV h;obtain ⟨ys,e,q⟩:=Cm h1;obtain ⟨v,rfl,a1⟩:=II a;obtain ⟨p,vs,rfl,hs,a2⟩:=hr.rdS e a1;exact ⟨p,vs,rfl,hs,λl hl=>k.f hr hl a2 q⟩)
def aM:BW X (.type "tuple") (λxs M Q=>GH xs λx=>Cw (HK M x) λys=>Q (.tup ys) M):=Fo.mono ZgE (by
 intro xs H Q;ext1⟨Z,ds,M,Q2,hr,a,h,k⟩;obtain⟨x,rfl,h1⟩:=GV h;obtain⟨ys,e,q⟩:=Cm h1;obtain⟨v,rfl,a1⟩:=II a
 have go:Bg M x=some ys->∃p zs,[v]=[V.ref p]/\((F4 X.K H p zs/\∀l,H l=none->Q (.ref l) (CI H l (.tup zs)))\/(LY X.K H p zs/\Q (.ref p) H)):=λe=>by
  obtain⟨p,vs,rfl,hs,a2⟩:=hr.rdL e a1;exact⟨p,vs,rfl,.inl ⟨hs,λl hl=>k.t hr hl a2 q⟩⟩
 cases x with
 |tup zs=>cases e;obtain⟨p,vs,rfl,hs,a2⟩:=hr.rdT a1;exact⟨p,vs,rfl,.inr ⟨hs,k.v hr a1 q⟩⟩
 |lst zs=>exact go e
 |ref p=>exact go e
 | _=>cases e)
def tW (hc:X.calm=true):BW X (.builtin "max") (λxs M Q=>FW xs λx y=>Fb x λi=>Fb y λj=>Q (.int (if j > i then j else i)) M):=Fo.mono (ZmK hc) (by
 intro xs H Q;ext1⟨Z,ds,M,Q2,hr,a,h,k⟩;obtain ⟨x,y,rfl,h1⟩:=LI h;obtain ⟨i,rfl,h2⟩:=C3 h1;obtain ⟨j,rfl,q⟩:=C3 h2;obtain ⟨v,w,rfl,a1,a2⟩:=P2 a;cases (show v=V.int i from a1);cases (show w=V.int j from a2);exact ⟨i,j,rfl,k.i hr q⟩)
def mw (hc:X.calm=true):BW X (.builtin "min") (λxs M Q=>FW xs λx y=>Fb x λi=>Fb y λj=>Q (.int (if j<i then j else i)) M):=Fo.mono (ZmJ hc) (by
 intro xs H Q;ext1⟨Z,ds,M,Q2,hr,a,h,k⟩;obtain ⟨x,y,rfl,h1⟩:=LI h;obtain ⟨i,rfl,h2⟩:=C3 h1;obtain ⟨j,rfl,q⟩:=C3 h2;obtain ⟨v,w,rfl,a1,a2⟩:=P2 a;cases (show v=V.int i from a1);cases (show w=V.int j from a2);exact ⟨i,j,rfl,k.i hr q⟩)
noncomputable def cutD (xs:List D)(lo hi:Option Int):List D:=(xs.drop (HT.sIx xs.length 0 lo)).take (HT.sIx xs.length xs.length hi-HT.sIx xs.length 0 lo)
def DH.cut (a:DH Z vs ds)(lo hi:Option Int):DH Z (LK vs lo hi) (cutD ds lo hi):=by
 unfold LK cutD;rw[a.length];exact(a.drop _).take _
def Y5:D->Option Int->Option Int->Mp->Ef->Prop:=λx lo hi M Q=>Cw (Bg M x) λxs=>Q (.lst (cutD xs lo hi)) M
def aX:Gz X Y5:=TD.mono xm (by
 intro x lo hi H Q;ext1⟨Z,d,M,Q2,hr,a,h,k⟩;obtain ⟨xs,e,q⟩:=Cm h;obtain ⟨p,vs,rfl,hs,a2⟩:=hr.rdL e a;exact ⟨p,vs,rfl,hs,λl hl=>k.f hr hl (a2.cut lo hi) q⟩)
def Y4:D->Option Int->Option Int->Mp->Ef->Prop:=λx lo hi M Q=>match x with
 |.tup xs=>¬(HT.sIx xs.length 0 lo=0/\HT.sIx xs.length xs.length hi=xs.length)/\Q (.tup (cutD xs lo hi)) M
 |_=>False
def vD:Gz X Y4:=TD.mono vt (by
 intro x lo hi H Q;ext1⟨Z,d,M,Q2,hr,a,h,k⟩;cases d with
 |tup xs=>obtain⟨hn,q⟩:=h;obtain⟨p,vs,rfl,hs,a2⟩:=hr.rdT a;exact⟨p,vs,rfl,hs,by rw[a2.length];exact hn,λl hl=>k.t hr hl (a2.cut lo hi) q⟩
 | _=>exact h.elim)
section
variable {X:Cx}{st:C6}{C2:List C6}{t u:Hw}{e:BY}{te:DZ}{pos:Pos}
def T9:Hw:=λD τ M=>D.nx τ M
def YB (t u:Hw):Hw:=λD τ M=>t {D with nx:=u D} τ M
def jJ (t u:Hw):Hw:=λD τ M=>∃N:GK->Mp->Prop,t {D with nx:=N} τ M/\∀τ' M',N τ' M'->u D τ' M'
def Ra:Hw:=λ_ _ _=>False
theorem lS.nx {K:Ac}{Z:Zt}{U:St}{τ:GK}{H:Hp}{M:Mp}{D2:Kq}{D:MI}(er:ER K Z D2 D)(st:GJ Z U τ)(hr:HR K H M Z)(h:D2.nx τ M):D.nx U H:=er.nx Z U τ H M (Le.refl _) st hr h
def qE:Dg X [] T9:=K9.mono yj (by
 intro D U H;ext1⟨Z,τ,M,D2,st,hr,h,er⟩;exact lS.nx er st hr h)
def qC (h1:Gc X st t)(h2:Dg X C2 u):Dg X (st::C2) (YB t u):=K9.mono (yY h1 h2) (by
 intro D U H;ext1⟨Z,τ,M,D2,st,hr,h,er⟩;exact ⟨Z,τ,M,{ D2 with nx:=u D2 },st,hr,h,⟨λZ1 U1 τ1 H1 M1 l1 s1 h1 q1=>⟨Z1,τ1,M1,D2,s1,h1,q1,er.le l1⟩,er.rt,er.bk,er.ct⟩⟩)
def EW (h1:Gc X st t)(h2:Dg X C2 u):Dg X (st::C2) (jJ t u):=K9.mono (yY h1 h2) (by
 intro D U H;ext1⟨Z,τ,M,D2,st,hr,⟨N,h,hN⟩,er⟩;exact ⟨Z,τ,M,{ D2 with nx:=N },st,hr,h,⟨λZ1 U1 τ1 H1 M1 l1 s1 h1 q1=>⟨Z1,τ1,M1,D2,s1,h1,hN τ1 M1 q1,er.le l1⟩,er.rt,er.bk,er.ct⟩⟩)
def qO (h1:Gc X st t):Dg X [st] t:=yk h1
def P5:Gc X st Ra:=λ_ _ _ _ _ _ ⟨_,_,_,_,_,_,h,_⟩=>h.elim
def Uc (te:DZ):Hw:=λD τ M=>te τ M λ_ M1=>D.nx τ M1
def Fh (he:B3 X e te)(hs:autoParam (C0 e none pos.line X.env=pure false) BV):Gc X (.Expr e pos) (Uc te):=PS.mono (yi he hs) (by
 intro D U H;ext1⟨Z,τ,M,D2,st,hr,h,er⟩;exact lE.bind st hr h λZ1 x dx H1 M1 l1 h1 a1 q1=>lS.nx (er.le l1) (st.mono l1) h1 q1)
def YE (te:DZ):Hw:=λD τ M=>te τ M D.rt
def CA (he:B3 X e te):Gc X (.Return (some e) pos) (YE te):=PS.mono (ue he) (by
 intro D U H;ext1⟨Z,τ,M,D2,st,hr,h,er⟩;exact ⟨Z,τ,M,D2.rt,st,hr,h,er.rt⟩)
def YI (c:Lj)(t u:Hw):Hw:=λD τ M=>c τ M λb M1=>if b=true then t D τ M1 else u D τ M1
def Ew (hc:Ij X c tc)(ha:Dg X a t)(hb:Dg X b u):Gc X (.If c a b pos) (YI tc t u):=PS.mono (lq hc ha hb) (by
 intro D U H;ext1⟨Z,τ,M,D2,st,hr,h,er⟩;refine lT.bind st hr h λZ1 c H1 M1 l1 h1 q1=>?_;cases c with
 |true=>rw[if_pos rfl]at q1 ⊢;exact⟨Z1,τ,M1,D2,st.mono l1,h1,q1,er.le l1⟩
 | false=>rw [if_neg Ak] at q1 ⊢;exact ⟨Z1,τ,M1,D2,st.mono l1,h1,q1,er.le l1⟩)
abbrev UO:=D->GK->(GK->Prop)->Prop
def lG (K:Ac)(g:UO):TG:=λv U H Q=>∃Z τ M d Q2,GJ Z U τ/\HR K H M Z/\At Z v d/\g d τ (λτ'=>Q2 τ' M)/\Su K Z Q2 Q
@[irreducible] def Ll (X:Cx)(tg:BY)(g:UO):Prop:=PG X tg (lG X.K g)
unseal Ll
def PG.mono {tg:BY}{t t':TG}(h:PG X tg t)(m:∀v U H Q,t' v U H Q->t v U H Q):PG X tg t':=λAd s U H v u Q I r q=>h Ad s U H v u Q I r (m v U H Q q)
def JJ (i:Nat):UO:=λd τ k=>k (τ.set i (some d))
def NO {i:Nat}{x:Str}(hN:X.N.Nodup)(hi:X.N[i]? = some x)(hx:Wo X.env.scope x)(hf:autoParam (X.fn x=true\/X.env.scope.names.lookup x=some .local) VN):Ll X (.Name x pos) (JJ i):=PG.mono (ME hN hi hx hf) (by
 intro v U H Q;ext1⟨Z,τ,M,d,Q2,st,hr,a,h,k⟩;exact k Z _ _ H M (Le.refl _) (st.set a i) hr h)
noncomputable def GU:GK->List Nat->List D->GK
 | τ,i::is,x::xs=>GU (τ.set i (some x)) is xs
 | τ,_,_=>τ
def GX:List Nat->XN
 |[]=>ZP
 |i::is=>Uw (JK i) (GX is)
theorem bd {K:Ac}(hr:HR K H M Z)(k:Su K Z Q2 Q):∀is {vs:List V}{ds:List D}{U:St}{τ:GK},DH Z vs ds->GJ Z U τ->ds.length=is.length->Q2 (GU τ is ds) M->GX is vs U H Q
 |[],vs,ds,U,τ,a,st,hl,q=>by
  have e:=AH hl;subst e;cases a;exact⟨rfl,k Z U τ H M (Le.refl _) st hr (by unfold GU at q;exact q)⟩
 |i::is,vs,[],U,τ,a,st,hl,q=>by cases hl
 |i::is,vs,d::ds,U,τ,a,st,hl,q=>by
  cases a with
  |cons a1 a2=>exact⟨_,_,rfl,bd hr k is a2 (st.set a1 i) (He hl) q⟩
def ZO (is:List Nat):UO:=λd τ k=>match d with
 |.tup xs=>xs.length=is.length/\k (GU τ is xs)
 |_=>False
def Xj {es:List BY}{k:Nat}{is:List Nat}(hc:X.calm=true)(h:UP X es (GX is))
  (hn:autoParam ((C1 es X.env).length=is.length) BV) (hst:autoParam ((C1 es X.env).findIdx? (·.1)=none) BV):Ll X (.Tuple es k pos) (ZO is):=PG.mono (vF hc h hn hst) (by
 intro v U H Q;ext1⟨Z,τ,M,d,Q2,st,hr,a,h,k⟩;cases d with
 |tup xs=>obtain⟨hl,q⟩:=h;obtain⟨p,vs,rfl,hs,a2⟩:=hr.rdT a;exact⟨p,vs,rfl,hs,by rw[a2.length];exact hl,bd hr k is a2 st hl q⟩
 | _=>exact h.elim)
def Vh (te:DZ)(g:UO):Hw:=λD τ M=>te τ M λx M1=>g x τ λτ'=>D.nx τ' M1
def mG {K:Ac} :∀D U H,lS K (Vh te g) D U H->Ng (lE K te) (lG K g) D U H:=by
 intro D U H;ext1⟨Z,τ,M,D2,st,hr,h,er⟩;exact lE.bind st hr h λZ1 x dx H1 M1 l1 h1 a1 q1=>⟨Z1,τ,M1,dx,D2.nx,st.mono l1,h1,a1,q1,er.nx.le l1⟩
def re (he:B3 X e te)(hg:Ll X tg g)(hs:autoParam (swapsWithSole [tg] e pos.line X.env=pure false) BV)(hw:autoParam (swappedStores [tg] e X.env=pure none) BV)
  (h1:autoParam ((C1 [tg] X.env).map (·.2)=[Mc tg X.env]) BV):Gc X (.Assign [tg] e pos) (Vh te g):=PS.mono (ub he hg hs hw h1) mG
def Fy (i:Nat)(te:DZ):Hw:=λD τ M=>te τ M λx M1=>D.nx (τ.set i (some x)) M1
def mF {K:Ac}{i:Nat}:∀D U H,lS K (Fy i te) D U H->Ng (lE K te) (JK i) D U H:=by
 intro D U H;ext1⟨Z,τ,M,D2,st,hr,h,er⟩;exact lE.bind st hr h λZ1 x dx H1 M1 l1 h1 a1 q1=>lS.nx (er.le l1) ((st.mono l1).set a1 i) h1 q1
def aG (hN:X.N.Nodup)(hi:X.N[i]? = some x)(hx:Wo X.env.scope x)(he:B3 X e te)(hs:autoParam (C0 e (some (.Name x pos')) pos.line X.env=pure false) BV)(hf:autoParam (X.fn x=true\/X.env.scope.names.lookup x=some .local) VN) :
  Gc X (.Assign [.Name x pos'] e pos) (Fy i te):=PS.mono (uf hN hi hx he hs hf) mF
def Cv (i)(hN:X.N.Nodup)(he:B3 X e te)(hi:autoParam (X.N[i]? = some x) BV)(hx:Wo X.env.scope x:=by exact Cd rfl)(hs:autoParam (C0 e (some (.Name x pos')) pos.line X.env=pure false) BV)(hf:autoParam (X.fn x=true\/X.env.scope.names.lookup x=some .local) VN) :
  Gc X (.Assign [.Name x pos'] e pos) (Fy i te):=aG hN hi hx he hs hf
def YJ (te:DZ):DZ:=λτ M Q=>te τ M λd M1=>Ko d λp=>match M1 p with
 |some (.lst ds)=>Q (.lst ds) (J2 M1 p)
 |some (.dic ds)=>Q (.dic ds) (J2 M1 p)
 |some (.dct ds)=>Q (.dct ds) (J2 M1 p)
 |_=>False
def KZ (h:B3 X e te):B3 X e (YJ te):=PE.mono h (by
 intro U H Q;ext1⟨Z,τ,M,Q2,st,hr,h,k⟩;refine lE.bind st hr h λZ1 x dx H1 M1 l1 h1 a1 q1=>?_;obtain⟨p,rfl,q⟩:=IG q1;cases(show x=V.ref p from a1);split at q
 .next e=>exact k _ (.ref p) (.lst _) H1 _ (l1.trans Le.ext) (h1.frzL e) fW q
 .next e=>exact k _ (.ref p) (.dic _) H1 _ (l1.trans Le.ext) (h1.frzD e) xO q
 .next e=>exact k _ (.ref p) (.dct _) H1 _ (l1.trans Le.ext) (h1.frzDT e) za q
 .exact q.elim)
def Ve (c:Lj)(tb:Hw):Hw:=λD τ M=>∃Pv:Nat->GK->Mp->Prop,(∃m,Pv m τ M)/\∀m τ M,Pv m τ M ->
 c τ M λb M1=>if b=true then tb {D with nx:=λτ' M'=>∃m',m' < m/\Pv m' τ' M',ct:=λτ' M'=>∃m',m' < m/\Pv m' τ' M',bk:=D.nx} τ M1 else D.nx τ M1
def Tw {c:BY}{body:List C6}{tc:Lj}{tb:Hw}(hp:Ql 'd' X.A X.env X.xe)(hc:Ij X c tc)(hb:Dg X body tb):Gc X (.While c body [] pos) (Ve tc tb):=PS.mono (zw hp hc hb) (by
 intro D U H;ext1⟨Z,τ,M,D2,st,hr,⟨Pv,⟨m0,p0⟩,turn⟩,er⟩;refine⟨λm U H=>∃Z1 τ1 M1,Le Z Z1/\GJ Z1 U τ1/\HR X.K H M1 Z1/\Pv m τ1 M1,⟨m0,Z,τ,M,Le.refl _,st,hr,p0⟩,?_⟩;intro m U1 H1;ext1⟨Z1,τ1,M1,l1,s1,h1,p1⟩;refine lT.bind s1 h1 (turn m τ1 M1 p1) λZ2 c H2 M2 l2 h2 q2=>?_;cases c with
 |false=>rw[if_neg Ak]at q2 ⊢;exact lS.nx (er.le (l1.trans l2)) (s1.mono l2) h2 q2
 | true=>rw [if_pos rfl] at q2 ⊢;refine ⟨_,λU' H' n=>n,Z2,τ1,M2,_,s1.mono l2,h2,q2,?_⟩;have k:Su X.K Z2 (λτ' M'=>∃ m',m' < m/\Pv m' τ' M') λU' H'=>∃ m',m' < m/\∃ Z1 τ1 M1,Le Z Z1/\GJ Z1 U' τ1/\HR X.K H' M1 Z1/\Pv m' τ1 M1:=λZ3 U3 τ3 H3 M3 l3 s3 h3 ⟨m',lt,p'⟩=>⟨m',lt,Z3,τ3,M3,l1.trans (l2.trans l3),s3,h3,p'⟩;exact ⟨k,er.rt.le (l1.trans l2),er.nx.le (l1.trans l2),k⟩)
def bT (K:Ac)(J:It)(xs:List D)(S:Mp->Prop)(Z:Zt):Prop:=∀i H M Z',Le Z Z'->HR K H M Z'->S M ->
 (∀d,xs[i]? = some d->J.go i H/\∀x H',J.yld i H x H'->∃Z2,Le Z' Z2/\HR K H' M Z2/\At Z2 x d)/\(xs.length<=i->J.stop i H)
abbrev NP:=GK->Mp->(List D->(Mp->Prop)->Mp->Prop)->Prop
def lI (K:Ac)(t:NP):TI:=λU H R=>∃Z τ M R2,GJ Z U τ/\HR K H M Z/\t τ M R2/\∀Z' J xs S H' M',Le Z Z'->HR K H' M' Z'->bT K J xs S Z'->R2 xs S M'->R J H'
@[irreducible] def HP (X:Cx)(tg iter:BY)(t:NP):Prop:=PI X tg iter (lI X.K t)
unseal HP
def PI.mono {t t':TI}(h:PI X tg iter t)(m:∀U H R,t' U H R->t U H R):PI X tg iter t':=λAd s U H R I q=>h Ad s U H R I (m U H R q)
def T5 (te:DZ):NP:=λτ M R=>te τ M λx M1=>Cw (Bg M1 x) λxs=>R xs (λM=>Bg M x=some xs) M1
def Yu (te:DZ):NP:=λτ M R=>te τ M λx M1=>match x with
 |.tup xs=>R xs (λ_=>True) M1
 |_=>False
def J3 {tg l:BY}(hl:B3 X l tl):HP X tg l (T5 tl):=PI.mono (ya hl) (by
 intro U H R;ext1⟨Z,τ,M,R2,st,hr,h,k⟩;refine lE.bind st hr h λZ1 v d H1 M1 l1 h1 a1 q1=>?_;obtain ⟨xs,e,q⟩:=Cm q1;obtain ⟨p,vs,rfl,hs,a2⟩:=h1.rdL e a1;refine ⟨p,rfl,⟨vs,hs⟩,k Z1 _ xs _ H1 M1 l1 h1 (λi H M Z' l hr s=>?_) q⟩;obtain ⟨p',ws,e2,hs2,a3⟩:=hr.rdL s (a1.mono l);cases e2;refine ⟨λd hd=>?_,λhi=>⟨ws,hs2,by rw [a3.length];exact hi⟩⟩;obtain ⟨v,hv,av⟩:=a3.get hd;refine ⟨⟨ws,v,hs2,hv⟩,λx H' y=>?_⟩;obtain ⟨rfl,y⟩:=y;have:=y ws hs2;rw [hv] at this;cases this;exact ⟨Z',Le.refl _,hr,av⟩)
def RN {tg l:BY}(hl:B3 X l tl):HP X tg l (Yu tl):=PI.mono (tq hl) (by
 intro U H R;ext1⟨Z,τ,M,R2,st,hr,h,k⟩;refine lE.bind st hr h λZ1 v d H1 M1 l1 h1 a1 q1=>?_;cases d with
 |tup xs=>obtain⟨p,vs,rfl,hs,a2⟩:=h1.rdT a1;refine⟨p,rfl,⟨vs,hs⟩,k Z1 _ xs _ H1 M1 l1 h1 (λi H M Z' l hr s=>?_) q1⟩;obtain⟨p',ws,e2,hs2,a3⟩:=hr.rdT (a1.mono l);cases e2;refine⟨λd hd=>?_,λhi=>⟨ws,hs2,by rw[a3.length];exact hi⟩⟩;obtain⟨v,hv,av⟩:=a3.get hd;refine⟨⟨ws,v,hs2,hv⟩,λx H' y=>?_⟩;obtain⟨rfl,y⟩:=y;have:=y ws hs2;rw[hv]at this;cases this;exact⟨Z',Le.refl _,hr,av⟩
 | _=>exact q1.elim)
noncomputable def Ov (lo:Int)(n:Nat):List D:=(Bx n).map λk=>.int (lo+(k:Nat))
def aW {lo:Int}(h:(Ov lo n)[i]? = some d):i<n/\d=.int (lo+(i:Nat)):=by
 unfold Ov at h;rw[AI]at h;by_cases hi:i<n
 .rw[ET hi]at h;exact⟨hi,(AZ h).symm⟩
 .rw[EM.mpr (by rw[Ch];ext)]at h;cases h
def Xy (lo:Int)(n:Nat):(Ov lo n).length=n:=by unfold Ov;rw[Ab,Ch]
def Zmd {K:Ac}(lo:Int)(n:Nat):bT K (iS lo n) (Ov lo n) (λ_=>True) Z:=λi H M Z' l hr s=>by
 refine⟨λd hd=>?_,λhi=>by rw[Xy]at hi;exact hi⟩;obtain⟨hi,rfl⟩:=aW hd;refine⟨hi,λx H' y=>?_⟩;obtain⟨rfl,rfl⟩:=y;exact⟨Z',Le.refl _,hr,rfl⟩
def T4 (t:Ka):NP:=λτ M R=>t τ M λxs M1=>GH xs λx=>Fb x λj=>(-(2^62)<=j/\j<2^62)/\R (Ov 0 j.toNat) (λ_=>True) M1
def gV {tg a:BY}{ta:Ka}{p pos:Pos}(hm:X.mg "range" = none)(ha:Gd X [a] ta)(hg:autoParam (Gl X "range") BV)(hs:autoParam (Ap [a] X.env=[(false,eval a X.env)]) BV) :
  HP X tg (.Call (.Name "range" p) [a] [] pos) (T4 ta):=PI.mono (ZlC hg hm ha hs) (by
 intro U H R;ext1⟨Z,τ,M,R2,st,hr,h,k⟩;refine ⟨Z,τ,M,_,st,hr,h,λZ1 vs ds H1 M1 l1 h1 a1 q1=>?_⟩;obtain ⟨x,rfl,q⟩:=GV q1;obtain ⟨j,rfl,⟨b1,b2⟩,q⟩:=C3 q;obtain ⟨v,rfl,a2⟩:=II a1;cases (show v=V.int j from a2);exact ⟨j,rfl,b1,b2,k Z1 _ _ _ H1 M1 l1 h1 (Zmd _ _) q⟩)
def Wn (xs:List D)(S:Mp->Prop)(g:UO)(tb:Hw)(D:Kq)(τ:GK)(M:Mp):Prop:=∃Pv:Nat->GK->Mp->Prop,Pv 0 τ M/\(∀k τ M,Pv k τ M->S M) /\
 (∀k x τ M,xs[k]? = some x->Pv k τ M->g x τ λτ'=>tb {D with nx:=Pv (k+1),ct:=Pv (k+1),bk:=D.nx} τ' M)/\∀τ M,Pv xs.length τ M->D.nx τ M
def YK (ti:NP)(g:UO)(tb:Hw):Hw:=λD τ M=>ti τ M λxs S M1=>Wn xs S g tb D τ M1
def LL {tg iter:BY}{body:List C6}{wi:NP}{g:UO}{tb:Hw}(hp:Ql 'd' X.A X.env X.xe)(hc:X.calm=true)(hi:HP X tg iter wi)(hg:Ll X tg g)(hb:Dg X body tb)
  (hs:autoParam (∀ x,Bn iter X.env x=pure x) NM):Gc X (.For tg iter body [] pos) (YK wi g tb):=PS.mono (ud hp hc hi hg hb hs) (by
 intro D U H;ext1⟨Z,τ,M,D2,st,hr,h,er⟩;refine⟨Z,τ,M,_,st,hr,h,λZ1 J xs S H1 M1 l1 h1 jk ⟨Pv,p0,stay,turn,done⟩=>?_⟩;refine⟨λi m U H=>m=xs.length-i/\i<=xs.length/\∃Z2 τ2 M2,Le Z1 Z2/\GJ Z2 U τ2/\HR X.K H M2 Z2/\Pv i τ2 M2,⟨xs.length,by simp,Ej _,Z1,τ,M1,Le.refl _,st.mono l1,h1,p0⟩,?_⟩;intro i m U2 H2;ext1⟨e1',hi,Z2,τ2,M2,l2,s2,h2,p2⟩;obtain⟨go,stop⟩:=jk i H2 M2 Z2 l2 h2 (stay i τ2 M2 p2);by_cases hlt:i<xs.length
 .obtain⟨g1,g2⟩:=go _ (Af hlt);refine .inr ⟨g1,λU' H'=>∃Z3 τ3 M3,Le Z1 Z3/\GJ Z3 U' τ3/\HR X.K H' M3 Z3/\Pv (i+1) τ3 M3,λU' H' n=>⟨xs.length-(i+1),by ext,rfl,hlt,n⟩,λx H' y=>?_⟩;obtain⟨Z5,l5,h5,a⟩:=g2 x H' y;have tk:=turn i _ τ2 M2 (Af hlt) p2;have l2:=l2.trans l5;refine⟨Z5,τ2,M2,_,λτ' M'=>tb {D2 with nx:=Pv (i+1),ct:=Pv (i+1),bk:=D2.nx} τ' M',s2.mono l5,h5,a,tk,λZ3 U3 τ3 H3 M3 l3 s3 h3 q3=>?_⟩;have k:Su X.K Z3 (Pv (i+1)) λU' H'=>∃Z3 τ3 M3,Le Z1 Z3/\GJ Z3 U' τ3/\HR X.K H' M3 Z3/\Pv (i+1) τ3 M3:=λZ4 U4 τ4 H4 M4 l4 s4 h4 q4=>⟨Z4,τ4,M4,l2.trans (l3.trans l4),s4,h4,q4⟩;have er3:=er.le (l1.trans (l2.trans l3));exact⟨Z3,τ3,M3,_,s3,h3,q3,⟨k,er3.rt,er3.nx,k⟩⟩
 .have e:i=xs.length:=by ext
  subst e;exact .inl ⟨stop (AL _),lS.nx (er.le (l1.trans l2)) s2 h2 (done τ2 M2 p2)⟩)
end
end L3
namespace L3
open PySem PySem.Spec PyProof.Rows L2
unseal B3 Ij JQ Gd KN Gc Dg Cq Gb BW F0 Gz Ll HP
section
variable {X:Cx}{e:BY}{te:DZ}
noncomputable def MC (τ:GK)(caps:List (Str×Nat))(v:Option D):GK:=v::caps.map λc=>(τ[c.2]?).join
theorem GJ.join (h:GJ Z U τ)(i:Nat):OA Z (U[i]?).join (τ[i]?).join:=by
 cases e:(τ[i]?).join with
 |none=>cases(U[i]?).join<;>exact Cu
 |some d=>obtain⟨v,h1,h2⟩:=h.get (E5.mp e);rw[h1];exact h2
def GJ.cap (h:GJ Z U τ)(caps:List (Str×Nat))(a:At Z x d):GJ Z (No U caps (some x)) (MC τ caps (some d)):=by
 refine .cons a ?_;induction caps with
 |nil=>exact .nil
 |cons c r ih=>exact .cons (h.join c.2) ih
def HA:Lj:=λ_ M Q=>Q true M
def Ev (xs:List D)(S:Mp->Prop)(caps:List (Str×Nat))(tt:Lj)(te:DZ)(τ:GK)(M:Mp)(Q:List D->Mp->Prop):Prop:=xs.length<=An/\∃W:Nat->List D->Mp->Prop,W 0 [] M/\(∀i ys M,W i ys M->S M/\ys.length<=i) /\
 (∀i x ys M,xs[i]? = some x->W i ys M->tt (MC τ caps (some x)) M λb M2=>if b=true then te (MC τ caps (some x)) M2 λy M3=>W (i+1) (ys++[y]) M3 else W (i+1) ys M2)/\∀ys M,W xs.length ys M->Q ys M
def GQ (wi:NP)(caps:List (Str×Nat))(tt:Lj)(te:DZ):DZ:=λτ M Q=>wi τ M λxs S M1=>Ev xs S caps tt te τ M1 λys M2=>Q (.lst ys) M2
def Pe (wi:NP)(caps:List (Str×Nat))(tt:Lj)(te:DZ):DZ:=λτ M Q=>wi τ M λxs S M1=>Ev xs S caps tt te τ M1 λys M2=>∀p,M2 p=none->Q (.ref p) (put M2 p (.lst ys))
def bE {K:Ac}(st:GJ Z U τ)(hr:HR K H M Z)(h:wi τ M λxs S M1=>Ev xs S caps tt te τ M1 QL)
  (ht:∀U H Q,lT K tt U H Q->tt1 U H Q)
  (k:∀Z1 H1 M1 vs ds,Le Z Z1->HR K H1 M1 Z1->DH Z1 vs ds->QL ds M1->∀p,H1 p=none->Q (.ref p) (CI H1 p (.lst vs))):IN (lI K wi) caps tt1 (lE K te) U H Q:=by
 refine⟨Z,τ,M,_,st,hr,h,λZ1 J xs S H1 M1 l1 h1 jk ⟨hz,W,w0,stay,turn,done⟩=>?_⟩;refine⟨xs.length,λi vs H=>i<=xs.length/\∃Z2 M2 ds,Le Z1 Z2/\HR K H M2 Z2/\DH Z2 vs ds/\W i ds M2,⟨Ej _,Z1,M1,[],Le.refl _,h1,.nil,w0⟩,?_⟩;intro i vs H2;ext1⟨hi,Z2,M2,ds,l2,h2,a2,w2⟩;obtain⟨s2,hl⟩:=stay i ds M2 w2;obtain⟨go,stop⟩:=jk i H2 M2 Z2 l2 h2 s2;have la:=a2.length;by_cases hlt:i<xs.length
 .obtain⟨g1,g2⟩:=go _ (Af hlt);refine .inr ⟨g1,hlt,by ext,λx H' y=>?_⟩;obtain⟨Z5,l5,h5,a⟩:=g2 x H' y;have tk:=turn i _ ds M2 (Af hlt) w2;have l2:=l2.trans l5;have a2:=a2.mono l5;refine ht _ _ _ (lT.bind ((st.mono (l1.trans l2)).cap caps a) h5 tk λZ3 b H3 M3 l3 h3 q3=>?_);cases b with
  |false=>rw[if_neg Ak]at q3 ⊢;exact⟨hlt,Z3,M3,ds,l2.trans l3,h3,a2.mono l3,q3⟩
  |true=>rw[if_pos rfl]at q3 ⊢;refine lE.bind (((st.mono (l1.trans l2)).cap caps a).mono l3) h3 q3 λZ4 z dz H4 M4 l4 h4 a4 q4=>?_;exact⟨hlt,Z4,M4,ds++[dz],l2.trans (l3.trans l4),h4,(a2.mono (l3.trans l4)).append (.cons a4 .nil),q4⟩
 .have e:i=xs.length:=by ext
  subst e;exact .inl ⟨stop (AL _),by ext,k Z2 H2 M2 vs ds (l1.trans l2) h2 a2 (done ds M2 w2)⟩
def LV {K:Ac}:∀U H Q,lT K HA U H Q->Uj U H Q:=(by
 intro U H Q;ext1⟨Z,τ,M,Q2,st,hr,h,k⟩;exact k Z true H M (Le.refl _) hr h)
def Mu {K:Ac}(ht:∀U H Q,lT K tt U H Q->tt1 U H Q):∀U H Q,lE K (GQ wi caps tt te) U H Q->IN (lI K wi) caps tt1 (lE K te) U H Q:=by
 intro U H Q;ext1⟨Z,τ,M,Q2,st,hr,h,k⟩;exact bE st hr h ht λZ1 H1 M1 vs ds l1 h1 a1 q p hp=>(k.le l1).f h1 hp a1 q
def Ut {K:Ac}(ht:∀U H Q,lT K tt U H Q->tt1 U H Q):∀U H Q,lE K (Pe wi caps tt te) U H Q->IN (lI K wi) caps tt1 (lE K te) U H Q:=by
 intro U H Q;ext1⟨Z,τ,M,Q2,st,hr,h,k⟩;exact bE st hr h ht λZ1 H1 M1 vs ds l1 h1 a1 q p hp=>(k.le l1).l h1 hp a1 q
variable {scope:KG}{x:Str}{px:Pos}{caps:List (Str×Nat)}{elt iter:BY}  {wi:NP}
def F9 (B:DX X scope x caps)(hc:X.calm=true)(hi:HP X (.Name x px) iter wi)(he:∀cl C fp pn s H,B3 (GI X scope cl C (x::caps.map (·.1)) fp pn s H) elt te)
  (hs:autoParam (∀x,Bn iter X.env x=pure x) NM):B3 X (.ListComp elt [⟨.Name x px,iter,[],0⟩] scope pos) (GQ wi caps HA te):=PE.mono (fZ (te:=lE X.K te) B hc hi he (λ_ _ _ _ _ _=>Hy.nil) hs) (Mu LV)
def Zs (B:DX X scope x caps)(hc:X.calm=true)(hi:HP X (.Name x px) iter wi)(he:∀cl C fp pn s H,B3 (GI X scope cl C (x::caps.map (·.1)) fp pn s H) elt te)
  (hs:autoParam (∀x,Bn iter X.env x=pure x) NM):B3 X (.ListComp elt [⟨.Name x px,iter,[],0⟩] scope pos) (Pe wi caps HA te):=PE.mono (fZ (te:=lE X.K te) B hc hi he (λ_ _ _ _ _ _=>Hy.nil) hs) (Ut LV)
def JH (B:DX X scope x caps)(hc:X.calm=true)(hi:HP X (.Name x px) iter wi)(he:∀cl C fp pn s H,B3 (GI X scope cl C (x::caps.map (·.1)) fp pn s H) elt te)(hif:∀cl C fp pn s H,Ij (GI X scope cl C (x::caps.map (·.1)) fp pn s H) c tt)
  (hs:autoParam (∀x,Bn iter X.env x=pure x) NM):B3 X (.ListComp elt [⟨.Name x px,iter,[c],0⟩] scope pos) (GQ wi caps tt te):=PE.mono (fZ (te:=lE X.K te) (tt:=lT X.K tt) B hc hi he (λcl C fp pn s H=>Hy.one (hif cl C fp pn s H)) hs) (Mu λ_ _ _ h=>h)
section
variable {i:Nat}{y:Str}
def RA {K:Ac}(m:∀U H Q,lE K t2 U H Q->t1 U H Q):∀D U H,lS K (Fy i t2) D U H->Ng t1 (JK i) D U H:=by
 intro D U H;ext1⟨Z,τ,M,D2,st,hr,h,er⟩;exact m _ _ _ (lE.bind st hr h λZ1 x dx H1 M1 l1 h1 a1 q1=>lS.nx (er.le l1) ((st.mono l1).set a1 i) h1 q1)
variable (hN:X.N.Nodup)(hi0:X.N[i]? = some y)(hy:X.env.scope.names.lookup y=some .local)(B:DX X scope x caps)(hc:X.calm=true)(hi:HP X (.Name x px) iter wi)(he:∀cl C fp pn s H,B3 (GI X scope cl C (x::caps.map (·.1)) fp pn s H) elt te)
def yZ (hN:X.N.Nodup)(hi0:X.N[i]? = some y)(hy:X.env.scope.names.lookup y=some .local)(B:DX X scope x caps)(hc:X.calm=true)(hi:HP X (.Name x px) iter wi)(he:∀cl C fp pn s H,B3 (GI X scope cl C (x::caps.map (·.1)) fp pn s H) elt te)
  (hsw:autoParam (C0 (.ListComp elt [⟨.Name x px,iter,[],0⟩] scope pos) (some (.Name y py)) spos.line X.env=pure true) BV) (hs:autoParam (∀x,Bn iter X.env x=pure x) NM) :
  Gc X (.Assign [.Name y py] (.ListComp elt [⟨.Name x px,iter,[],0⟩] scope pos) spos) (Fy i (GQ wi caps HA te)):=PS.mono (gB (te:=lE X.K te) hN hi0 hy B hc hi he (λ_ _ _ _ _ _=>Hy.nil) hsw hs) (RA (Mu LV))
def wv (hN:X.N.Nodup)(hi0:X.N[i]? = some y)(hy:X.env.scope.names.lookup y=some .local)(B:DX X scope x caps)(hc:X.calm=true)(hi:HP X (.Name x px) iter wi)(he:∀cl C fp pn s H,B3 (GI X scope cl C (x::caps.map (·.1)) fp pn s H) elt te)
  (hsw:autoParam (C0 (.ListComp elt [⟨.Name x px,iter,[],0⟩] scope pos) (some (.Name y py)) spos.line X.env=pure true) BV) (hs:autoParam (∀x,Bn iter X.env x=pure x) NM) :
  Gc X (.Assign [.Name y py] (.ListComp elt [⟨.Name x px,iter,[],0⟩] scope pos) spos) (Fy i (Pe wi caps HA te)):=PS.mono (gB (te:=lE X.K te) hN hi0 hy B hc hi he (λ_ _ _ _ _ _=>Hy.nil) hsw hs) (RA (Ut LV))
def gW (hN:X.N.Nodup)(hi0:X.N[i]? = some y)(hy:X.env.scope.names.lookup y=some .local)(B:DX X scope x caps)(hc:X.calm=true)(hi:HP X (.Name x px) iter wi)(he:∀cl C fp pn s H,B3 (GI X scope cl C (x::caps.map (·.1)) fp pn s H) elt te)(hif:∀cl C fp pn s H,Ij (GI X scope cl C (x::caps.map (·.1)) fp pn s H) c tt)
  (hsw:autoParam (C0 (.ListComp elt [⟨.Name x px,iter,[c],0⟩] scope pos) (some (.Name y py)) spos.line X.env=pure true) BV) (hs:autoParam (∀x,Bn iter X.env x=pure x) NM) :
  Gc X (.Assign [.Name y py] (.ListComp elt [⟨.Name x px,iter,[c],0⟩] scope pos) spos) (Fy i (GQ wi caps tt te)):=PS.mono (gB (te:=lE X.K te) (tt:=lT X.K tt) hN hi0 hy B hc hi he (λcl C fp pn s H=>Hy.one (hif cl C fp pn s H)) hsw hs) (RA (Mu λ_ _ _ h=>h))
end
def lM (K:Ac)(r:D->List D->Mp->Ef->Prop):V->List V->Hp->VK->Prop:=λx xs H Q=>∃Z d ds M Q2,HR K H M Z/\At Z x d/\DH Z xs ds/\r d ds M Q2/\HE K Z Q2 Q
@[irreducible] def EX (X:Cx)(id:String)(r:D->List D->Mp->Ef->Prop):Prop:=NQ X id (lM X.K r)
unseal EX
def NQ.mono {id:String}{r r':V->List V->Hp->VK->Prop}(h:NQ X id r)(m:∀x xs H Q,r' x xs H Q->r x xs H Q):NQ X id r':=λAd s U H x xs v us Q I rx r q=>h Ad s U H x xs v us Q I rx r (m x xs H Q q)
def sH (T:String)(r:D->List D->Mp->Ef->Prop)(to:DZ)(t:Ka):DZ:=λτ M Q=>to τ M λx M1=>NF M1 x=some T/\t τ M1 λxs M2=>r x xs M2 Q
def YM (T:String)(r:D->List D->Mp->Ef->Prop)(to:DZ):DZ:=λτ M Q=>to τ M λx M1=>NF M1 x=some T/\r x [] M1 Q
def yX {K:Ac}{H:Hp}{M:Mp}{Z:Zt}{T:String}{v:V}{d:D}(hr:HR K H M Z)(a:At Z v d)(h:NF M d=some T)(hT:T = "list"\/T = "int"\/T = "str"):dP K T v H:=by
 cases d with
 |int i=>cases h;cases(show v=V.int i from a);rfl
 |str i=>cases h;cases(show v=V.str i from a);rfl
 |lst ds=>cases h;obtain⟨p,vs,rfl,hs,_⟩:=hr.rdF a;exact .inl ⟨rfl,vs,hs⟩
 |dic ds=>cases h;rcases hT with h | h | h<;>exact absurd h (by decide)
 |dct ds=>cases h;rcases hT with h | h | h<;>exact absurd h (by decide)
 |ref p=>
  cases(show v=.ref p from a);cases q:M p with
  |none=>rw[WV q]at h;cases h
  |some o=>
   rw[WV q]at h;cases o with
   |lst l=>cases h;obtain⟨vs,r,_⟩:=hr.rdM q;exact .inl ⟨rfl,vs,F4.of r⟩
   |dic l=>cases h;rcases hT with h | h | h<;>exact absurd h 'g'
   |dct l=>cases h;rcases hT with h | h | h<;>exact absurd h 'g'
   |obj C f=>cases h
 |non=>cases h;rcases hT with h | h | h<;>exact absurd h (by decide)
 |bl _=>cases h;rcases hT with h | h | h<;>exact absurd h (by decide)
 |tup _=>cases h;rcases hT with h | h | h<;>exact absurd h (by decide)
 |ty _=>cases h
def Kn {T id:String}(pa:Oa T)(slot:jE T name id)(hty:QN (.builtin id)=pure (.type "method_descriptor"))(hm:EX X id r)(ho:B3 X o to)(ha:Gd X (e::es) t)
  (hT:autoParam (T = "list"\/T = "int"\/T = "str") Gy)
  (hbase:autoParam (CL o name X.env (eval o X.env)=eval o X.env) BV)
  (hfew:autoParam (((B5 cpos (Ap (e::es) X.env)).all (λx=>!x.1) && (FP cpos (DQ [] X.env)).all (λx=>x.1.isSome)
   && decide ((e::es).length+([]:List Fn).length+(if ([]:List Fn).isEmpty then 0 else 1)<30))=true) BV)
  (hline:autoParam ((apos.endLine == cpos.line)=true) BV) (hs:autoParam (Ap (e::es) X.env=(false,eval e X.env)::Ap es X.env) BV) (hplain:autoParam ((B5 cpos (Ap es X.env)).any (·.1)=false) BV) :
  B3 X (.Call (.Attribute o name apos) (e::es) [] cpos) (sH T r to t):=PE.mono (uE pa slot hty hm ho ha hbase hfew hline hs hplain) (by
 intro U H Q;ext1⟨Z,τ,M,Q2,st,hr,h,k⟩;refine lE.bind st hr h λZ1 x dx H1 M1 l1 h1 a1 q1=>⟨yX h1 a1 q1.1 hT,Z1,τ,M1,_,st.mono l1,h1,q1.2,λZ2 vs ds H2 M2 l2 h2 a2 q2=>?_⟩;exact ⟨Z2,dx,ds,M2,Q2,h2,a1.mono l2,a2,q2,k.le (l1.trans l2)⟩)
def Vw {T id:String}(pa:Oa T)(slot:jE T name id)(hty:QN (.builtin id)=pure (.type "method_descriptor"))(hm:EX X id r)(ho:B3 X o to)
  (hT:autoParam (T = "list"\/T = "int"\/T = "str") Gy)
  (hbase:autoParam (CL o name X.env (eval o X.env)=eval o X.env) BV) (hline:autoParam ((apos.endLine == cpos.line)=true) BV) :
  B3 X (.Call (.Attribute o name apos) [] [] cpos) (YM T r to):=PE.mono (sm pa slot hty hm ho hbase hline) (by
 intro U H Q;ext1⟨Z,τ,M,Q2,st,hr,h,k⟩;refine lE.bind st hr h λZ1 x dx H1 M1 l1 h1 a1 q1=>⟨yX h1 a1 q1.1 hT,Z1,dx,[],M1,Q2,h1,a1,.nil,q1.2,k.le l1⟩)
def Hr:D->List D->Mp->Ef->Prop:=λx xs M Q=>Ko x λp=>GH xs λy=>match M p with
 |some (.lst ys)=>ys.length<An/\Q .non (put M p (.lst (ys++[y])))
 |_=>False
def QF:EX X "list.append" Hr:=NQ.mono ZlW (by
 intro x xs H Q;ext1⟨Z,d,ds,M,Q2,hr,a,as,h,k⟩;obtain⟨p,rfl,h1⟩:=IG h;obtain⟨y,rfl,h2⟩:=GV h1;cases(show x=V.ref p from a);obtain⟨v,rfl,av⟩:=II as;split at h2
 .next ys e=>
  obtain⟨hl,q⟩:=h2;obtain⟨vs,r,a2⟩:=hr.rdM e;refine⟨p,vs,v,rfl,rfl,r,by rw[a2.length];exact hl,?_⟩;exact k Z .non .non _ _ (Le.refl _) (hr.chgL e (a2.append (.cons av .nil))) rfl q
 .exact h2.elim)
def ph:EX X "int.bit_length" (λx xs M Q=>Fb x λi=>xs=[]/\Q (.int (Er i)) M):=NQ.mono vh (by
 intro x xs H Q;ext1⟨Z,d,ds,M,Q2,hr,a,as,h,k⟩;obtain ⟨i,rfl,rfl,q⟩:=C3 h;cases as;exact ⟨i,a,rfl,k.i hr q⟩)
def Y3 (h:Av)(D:List (Str×Int)):LM:=λx y M Q=>Ko x λa=>a=h/\GG y λk=>Cw (D.lookup k) λv=>Q (.int v) M
def wJ {D:List (Str×Int)}(T:TabOk X.K X.w h D):F0 X (Y3 h D):=P7.mono ot (by
 intro x y H Q;ext1⟨Z,dx,dy,M,Q2,hr,ax,ay,q,k⟩;obtain ⟨a,rfl,rfl,q1⟩:=IG q;obtain ⟨k',rfl,q2⟩:=Ea q1;obtain ⟨v,l,q3⟩:=Cm q2;exact ⟨a,D,k',v,ax,ay,T,l,k.i hr q3⟩)
def Dn (Q:Ef):Ef:=λd M=>∃M0,Sub M0 M/\Q d M0
def Dn.of (h:Q d M):Dn Q d M:=⟨M,Sub.refl _,h⟩
noncomputable def Jd (N:List Str)(ds:List D):GK:=ds.map some++Az (N.length-ds.length) none
noncomputable def Et:List Str->List D->GK
 |[],_=>[]
 |_::N,[]=>none::Et N []
 |_::N,d::ds=>some d::Et N ds
theorem gX:∀{N:List Str}{ds:List D},ds.length<=N.length->Et N ds=Jd N ds
 |[],[],_=>rfl
 |[],d::ds,h=>by simp at h
 |n::N,[],_=>by
  unfold Et;rw[gX (Ej _)];simp[Jd,C8]
 |n::N,d::ds,h=>by
  unfold Et;rw[gX (by simpa using h)];simp[Jd]
def ca (a:DH Z vs ds):GJ Z (L2.start N vs) (Jd N ds):=by
 unfold L2.start Jd;rw[a.length]
 have tail:∀n,GJ Z (Az n none) (Az n none):=λn=>by
  induction n with
  |zero=>exact .nil
  |succ n ih=>exact .cons Cu ih
 generalize N.length-ds.length=n;induction a with
 |nil=>exact tail n
 |cons r _ ih=>exact .cons r ih
end
section
variable {K:Ac}
def CB.ok2 {st:C6}(F:CB K x qual st f fd)(S:EA N ps (Ig st))(len:∀ds M Q,sp ds M Q->ds.length=ps.length)
  (hbody:∀ cdv A outer s H E ds M Q,Db k (A.deeper (FN qual (Ig st) s.heap.objs.size f cdv))->sp ds M Q ->
   ∃ t,Dg (FZ CX0 P w K mg base N qual (Ig st) f cdv A outer s H E).nox (NL st) t/\t { nx:=λ_ M'=>Dn Q .non M',rt:=Dn Q } (Et N ds) M):FnOk P w K mg base CX0 (k+1) f fd ps (lSp K sp):=by
 refine F.ok S (λvs H Q E h=>?_) λcdv A outer s H vs Q E hr h=>?_
 .obtain⟨Z,ds,M,Q2,_,a,h,_⟩:_:=h;rw[a.length];exact len ds M Q2 h
 .obtain⟨Z,ds,M,Q2,hR,a,h,k'⟩:_:=h;obtain⟨t,ht,q⟩:=hbody cdv A outer s H E ds M Q2 hr h;have hpl:ps.length<=N.length:=by have:=congrArg DC S.pre;rw[A3]at this;ext
  rw[gX (by rw[len ds M Q2 h];exact hpl)]at q;refine⟨_,ht,Z,Jd N ds,M,_,ca a,hR,q,?_⟩;refine⟨λZ1 U τ H1 M1 l1 s1 h1 q1=>?_,k'.dn,λ_ _ _ _ _ _ _ _ q=>q.elim,λ_ _ _ _ _ _ _ _ q=>q.elim⟩;exact(k'.dn.le l1).n h1 q1
def spLaw2:DL:=λds M Q=>∃ns:List Int,ds=[.lst (ns.map D.int)]/\ns.length<=63/\∀M',Q (.bl true) M'
def zL (Z)(ns:List Int):DH Z (ns.map V.int) (ns.map D.int):=by
 induction ns with
 |nil=>exact .nil
 |cons n r ih=>exact .cons rfl ih
def o9 {ns:List Int}(hl:ns.length<=63)(hS:F4 K H a (ns.map V.int)):lSp K spLaw2 [.ref a] H (λv _=>v=.bl true) E:=by
 refine⟨λb d=>b=a/\d=.lst (ns.map D.int),[.lst (ns.map D.int)],λ_=>none,λd _=>d=.bl true,⟨λp d z=>?_,λp o e=>nomatch e⟩,.cons ⟨a,rfl,rfl,rfl⟩ .nil,⟨ns,rfl,hl,λ_=>rfl⟩,λZ' v d H' M' _ _ at' q=>?_⟩
 .obtain⟨rfl,rfl⟩:=z;rcases hS with r|r
  .exact .inl ⟨_,r,zL _ ns⟩
  .exact .inr ⟨_,r,zL _ ns⟩
 .subst q;exact at'
def walk2 {l:Qk}{K:HZ->Ac}(hn:l.most=some 63)(hdf:d.params.defaults=[])(hr:Db k Kf)
  (hY:∀w h,YP w h->(K w.params).In h)
  (F:∀ w mg fa h,(K w.params).In h->h.Ns BF mg->mg d.name=some (.ref fa) ->
   ∃ fd,(∀ s u,NE s fd ⟨[u],[]⟩ [("script",u)])/\∀ base,(K w.params).In base->base.Ns BF mg->FnOk l.prog w (K w.params) mg base CX0 k fa fd ["script"] (lSp (K w.params) spLaw2)) :
  R7 q loose XP YP l.row.toRowW d [] (λf vs=>Pq f vs):=
 L2.walk_of hn 'g' hdf hr hY F (λ_ _ a ns hl _ hS=>o9 hl hS) λ_ _ _ _ _ z=>z
end
end L3
namespace L3
open PySem PySem.Spec PyProof.Rows L2
unseal B3 Ij JQ Gd KN Gc Dg Cq Gb BW F0 Gz Ll HP EX
def zM (I:AX X Ad U H s)(h1:F4 X.K H p vs)(h2:F4 X.K H p' ws)(hz:vs.length+ws.length<=An)
  (q:∀l,H l=none->Q (.ref l) (CI H l (.lst (vs++ws)))):Au 'd' X.A (Bz .Add (.ref p) (.ref p')) (EP X Ad U Q) X.xe s:=by
 obtain⟨Bi,r1,l1,_⟩:=I.list h1;obtain⟨its2,r2,l2,_⟩:=I.list h2;have n1:=r1.length;have n2:=r2.length;obtain⟨⟨cls,dd,data,sl⟩,ho,hc,n,hd⟩:=l1.isList;obtain⟨⟨cls2,dd2,data2,sl2⟩,ho2,hc2,n2',hd2⟩:=l2.isList;simp only at hc hd hc2 hd2;subst hc hd hc2 hd2;refine concat_meets ⟨_,ho,rfl⟩ ⟨_,ho2,rfl⟩ noFill_list_add seq_list_add PySem.F.slot_list_add PySem.F.entry_list_add (PySem.F.args_list_add_2 _ _) (list_addW p p' Bi.toArray its2.toArray n n2' dd dd2 sl sl2 (by simp;ext)) ⟨ho,ho2,?_⟩;have e:Bi.toArray++its2.toArray=(Bi++its2).toArray:=by simp
 rw[e];exact⟨.ref _,_,I.lnew (r1.append r2) (by rw[Aq];ext),rfl,q _ I.fresh⟩
def Um:LM:=λx y M Q=>Cw (Bg M x) λxs=>Cw (Bg M y) λys=>xs.length+ys.length<=An/\Q (.lst (xs++ys)) M
def Ze:LM:=λx y M Q=>Cw (Bg M x) λxs=>Cw (Bg M y) λys=>xs.length+ys.length<=An/\∀p,M p=none->Q (.ref p) (put M p (.lst (xs++ys)))
def oM:Cq X (Bz .Add) Um:=by
 intro Ad s U H x y v u Q I rx ry;ext1⟨Z,dx,dy,M,Q2,hr,ax,ay,h,k⟩;obtain⟨xs,e1,h1⟩:=Cm h;obtain⟨ys,e2,hz,q⟩:=Cm h1;obtain⟨p,vs,rfl,hs,a⟩:=hr.rdL e1 ax;obtain⟨p',ws,rfl,hs',a'⟩:=hr.rdL e2 ay;cases(show v=AE p from rx);cases(show u=AE p' from ry);have l1:=a.length;have l2:=a'.length;exact zM I hs hs' (by ext) λl hl=>k.f hr hl (a.append a') q
def na:Cq X (Bz .Add) Ze:=by
 intro Ad s U H x y v u Q I rx ry;ext1⟨Z,dx,dy,M,Q2,hr,ax,ay,h,k⟩;obtain⟨xs,e1,h1⟩:=Cm h;obtain⟨ys,e2,hz,q⟩:=Cm h1;obtain⟨p,vs,rfl,hs,a⟩:=hr.rdL e1 ax;obtain⟨p',ws,rfl,hs',a'⟩:=hr.rdL e2 ay;cases(show v=AE p from rx);cases(show u=AE p' from ry);have l1:=a.length;have l2:=a'.length;exact zM I hs hs' (by ext) λl hl=>k.l hr hl (a.append a') q
noncomputable def Gx (f:D->D->Option Bool):List D->List D->Option Bool
 |[],[]=>some true
 |[],_::_=>some false
 |_::_,[]=>some false
 |x::xs,y::ys=>match f x y,Gx f xs ys with
  |some a,some b=>some (a && b)
  |_,_=>none
noncomputable def E7 (M:Mp):Nat->D->D->Option Bool
 |0,x,y=>if EF x && EF y then some (Lh x y)else none
 |n+1,x,y=>if EF x && EF y then some (Lh x y)else match x,y with
  |.tup xs,.tup ys=>Gx (E7 M n) xs ys
  |x,y=>match Bg M x,Bg M y with
   |some xs,some ys=>Gx (E7 M n) xs ys
   |_,_=>none
def uA {Z:Zt}{x y:V}{d e:D}(ax:At Z x d)(ay:At Z y e)(f1:EF d=true)(f2:EF e=true):HD x=true/\HD y=true/\RD x y=Lh d e:=by
 cases d<;>first
  |exact absurd f1 Ak
  | (cases e<;>first
    |exact absurd f2 Ak
    | (subst ax;subst ay;refine ⟨rfl,rfl,?_⟩;delta RD Lh;simp [Oi]))
theorem UJ :∀{xs ys:List D}{b:Bool},Gx f xs ys=some b->∃e:Nat->Bool,(∀(j:Nat) x y,xs[j]? = some x->ys[j]? = some y->f x y=some (e j)) /\
  ((Bx (min xs.length ys.length)).all e && xs.length == ys.length)=b
 |[],[],b,h=>⟨λ_=>true,λj x y h=>by simp at h,by cases h;rfl⟩
 |[],y::ys,b,h=>⟨λ_=>true,λj x y h=>by simp at h,by cases h;simp⟩
 |x::xs,[],b,h=>⟨λ_=>true,λj x y _ h=>by simp at h,by cases h;simp⟩
 |x::xs,y::ys,b,h=>by
  unfold Gx at h;split at h
  .next a c ha hc=>
   cases h;obtain⟨e,he,hb⟩:=UJ hc;refine⟨λj=>match j with | 0=>a | j+1=>e j,λj x' y' h1 h2=>?_,?_⟩
   .cases j with
    |zero=>
     have e1:x=x':=by simpa using h1
     have e2:y=y':=by simpa using h2
     rw[<- e1,<- e2];exact ha
    |succ j=>exact he j x' y' (by simpa using h1) (by simpa using h2)
   .rw[AO,AO,Nat.succ_min_succ,EI,EV,QX,<- hb];have:((λj=>match j with | 0=>a | j+1=>e j) ∘ Nat.succ:Nat->Bool)=e:=rfl;rw[this,Bool.and_assoc];congr 2
    simp
  .cases h
def VZ (r:BO vs us)(a:DH Z vs ds)(j:Nat)(h:j<us.toArray.size):∃v d,vs[j]? = some v/\ds[j]? = some d/\At Z v d/\RelV v us.toArray[j]:=by
 have l1:=r.length;have k1:j<vs.length:=by rw[l1];simpa using h
 have e:=Af k1;obtain⟨u,e1,q1⟩:=r.get e;obtain⟨d,e2,q2⟩:=a.got e
 have z1:us.toArray[j]=u:=by
  obtain⟨_,z⟩:=Ah.mp e1;simpa using z
 exact⟨_,d,e,e2,q2,by rw[z1];exact q1⟩
def yG (h:k=true):E4 A s (.ref p) (.ref p) k:=by rw[h];exact N9 _
def zO {Ad:List (Av×Obj)}{U:St}{H:Hp}{s:As}{M:Mp}{Z:Zt}(I:AX X Ad U H s)(hr:HR X.K H M Z):∀(n:Nat) {v:V}{x y:D}{b:Bool},At Z v x->At Z v y->E7 M n x y=some b->b=true:=by
 have flat:∀{v:V} {x y:D},At Z v x->At Z v y->EF x=true->EF y=true->Lh x y=true:=λ{v x y} ax ay f1 f2=>by
  cases x<;>first
   |exact absurd f1 Ak
   | (cases y<;>first
     |exact absurd f2 Ak
     | (rw [show v=_ from ax] at ay;cases ay<;>(delta Lh;simp)))
 intro n;induction n with
 |zero=>
  intro v x y b ax ay h;unfold E7 at h;split at h
  .next f=>
   rw[Br]at f;cases h;exact flat ax ay f.1 f.2
  .cases h
 |succ n ih=>
  intro v x y b ax ay h;unfold E7 at h;split at h
  .next f=>
   rw[Br]at f;cases h;exact flat ax ay f.1 f.2
  .have lists:∀{vs:List V} {xs ys:List D},DH Z vs xs->DH Z vs ys->Gx (E7 M n) xs ys=some b->b=true:=λ{vs xs ys} a1 a2 hc=>by
    obtain⟨e,he,hb⟩:=UJ hc;have l1:=a1.length;have l2:=a2.length;rw[<- hb,Br];refine⟨Ca.mpr λj hj=>?_,by simp;ext⟩;have hj':j<min xs.length ys.length:=CG.mp hj;have k1:j<xs.length:=by ext
    have k2:j<ys.length:=by ext
    obtain⟨v1,e1,q1⟩:=a1.get (Af k1);obtain⟨v2,e2,q2⟩:=a2.get (Af k2);rw[e1]at e2;cases e2;exact ih q1 q2 (he j _ _ (Af k1) (Af k2))
   split at h
   .obtain⟨p,vs,rfl,hs,a1⟩:=hr.rdT ax;obtain⟨p',ws,e,hs',a2⟩:=hr.rdT ay;cases e;rw[I.tuple_inj hs' hs]at a2;exact lists a1 a2 h
   .split at h
    .next e1 e2=>
     obtain⟨p,vs,rfl,hs,a1⟩:=hr.rdL e1 ax;obtain⟨p',ws,e,hs',a2⟩:=hr.rdL e2 ay;cases e;rw[I.list_inj hs' hs]at a2;exact lists a1 a2 h
    .cases h
def oE (I:AX X Ad U H s)(hr:HR X.K H M Z):∀n {A:CH}{v w:V}{x y:D}{u u':Ai}{b:Bool},At Z v x->At Z w y->RelV v u->RelV w u'->A.units+n<D8->E7 M n x y=some b->E4 A s u u' b:=by
 have flat:∀{A:CH} {v w:V} {x y:D} {u u':Ai},At Z v x->At Z w y->RelV v u->RelV w u'->EF x=true->EF y=true->E4 A s u u' (Lh x y):=λ{A v w x y u u'} ax ay rx ry f1 f2=>by
  obtain⟨k1,k2,k3⟩:=uA ax ay f1 f2;rw[<- k3];exact wF rx ry k1 k2
 intro n;induction n with
 |zero=>
  intro A v w x y u u' b ax ay rx ry hu h;unfold E7 at h;split at h
  .next f=>
   rw[Br]at f;cases h;exact flat ax ay rx ry f.1 f.2
  .cases h
 |succ n ih=>
  intro A v w x y u u' b ax ay rx ry hu h;have h0:=h;unfold E7 at h;split at h
  .next f=>
   rw[Br]at f;cases h;exact flat ax ay rx ry f.1 f.2
  .have hu1:A.in1.units+n<D8:=by show A.units+1+n<D8;ext
   have hu0:A.units<D8:=by ext
   have items:∀{vs ws:List V} {xs ys:List D} {Bi its2:List Ai} {e:Nat->Bool},BO vs Bi->BO ws its2->DH Z vs xs->DH Z ws ys->(∀(j:Nat) x y,xs[j]? = some x->ys[j]? = some y->E7 M n x y=some (e j)) ->
     ∀j (h1:j<Bi.toArray.size) (h2:j<its2.toArray.size),E4 A.in1 s Bi.toArray[j] its2.toArray[j] (e j):=λ{vs ws xs ys Bi its2 e} r1 r2 a1 a2 he j h1 h2=>by
    obtain⟨v1,d1,_,e1,q1,z1⟩:=VZ r1 a1 j h1;obtain⟨v2,d2,_,e2,q2,z2⟩:=VZ r2 a2 j h2;exact ih q1 q2 z1 z2 hu1 (he j d1 d2 e1 e2)
   split at h
   .obtain⟨p,vs,rfl,hs,a1⟩:=hr.rdT ax;obtain⟨p',ws,rfl,hs',a2⟩:=hr.rdT ay;cases(show u=AE p from rx);cases(show u'=AE p' from ry);obtain⟨Bi,r1,t1,_⟩:=I.tuple hs;obtain⟨its2,r2,t2,_⟩:=I.tuple hs';obtain⟨e,he,hb⟩:=UJ h;by_cases hp:p=p'
    .subst hp;exact yG (zO I hr _ ax ay h0)
    .have l1:=a1.length;have l2:=a2.length;have m1:=r1.length;have m2:=r2.length;have z:=Il hp (SeqAt.RcAt.tuples t1 t2 hu0 (items r1 r2 a1 a2 he));rw[show Bi.toArray.size=(_:List D).length by simp;rw[<- m1,l1],show its2.toArray.size=(_:List D).length by simp;rw[<- m2,l2],hb]at z;exact z
   .split at h
    .next xs ys e1 e2=>
     obtain⟨p,vs,rfl,hs,a1⟩:=hr.rdL e1 ax;obtain⟨p',ws,rfl,hs',a2⟩:=hr.rdL e2 ay;cases(show u=AE p from rx);cases(show u'=AE p' from ry);obtain⟨Bi,r1,t1,_⟩:=I.list hs;obtain⟨its2,r2,t2,_⟩:=I.list hs';obtain⟨e,he,hb⟩:=UJ h;by_cases hp:p=p'
     .subst hp;exact yG (zO I hr _ ax ay h0)
     .have l1:=a1.length;have l2:=a2.length;have m1:=r1.length;have m2:=r2.length;have s1:Bi.toArray.size=xs.length:=by simp;ext
      have s2:its2.toArray.size=ys.length:=by simp;ext
      by_cases hl:xs.length=ys.length
      .have z:=Il hp (SeqAt.RcAt.lists t1.isList t2.isList (by ext) hu0 (items r1 r2 a1 a2 he));rw[s1]at z;rw[<- hb,hl,Ls];rw[hl]at z;simpa using z
      .have z:=Il hp (SeqAt.RcAt.lists_lengths t1.isList t2.isList (by rw[s1,s2];simpa using hl) hu0);rw[<- hb,show(xs.length == ys.length)=false by simpa using hl,DV];exact z
    .cases h
def Ou (neg:Bool):LM:=λx y M Q=>match x,y with
 |.tup xs,.tup ys=>Cw (Gx (E7 M 40) xs ys) λb=>Q (.bl (if neg then !b else b)) M
 |x,y=>Cw (Bg M x) λxs=>Cw (Bg M y) λys=>Cw (Gx (E7 M 40) xs ys) λb=>Q (.bl (if neg then !b else b)) M
def gY {A:CH}(I:AX X Ad U H s)(hr:HR X.K H M Z)(hu:A.units+41<D8){e:Nat->Bool}(r1:BO vs Bi)(r2:BO ws its2)(a1:DH Z vs xs)(a2:DH Z ws ys)
  (he:∀(j:Nat) x y,xs[j]? = some x->ys[j]? = some y->E7 M 40 x y=some (e j)):∀j (h1:j<Bi.toArray.size) (h2:j<its2.toArray.size),E4 A.in1 s Bi.toArray[j] its2.toArray[j] (e j):=λj h1 h2=>by
 obtain⟨v1,d1,_,e1,q1,z1⟩:=VZ r1 a1 j h1;obtain⟨v2,d2,_,e2,q2,z2⟩:=VZ r2 a2 j h2;exact oE I hr 40 q1 q2 z1 z2 (by show A.units+1+40<D8;ext) (he j d1 d2 e1 e2)
def bb (h:Ou neg x y M Q):∃xs ys b,Gx (E7 M 40) xs ys=some b/\Q (.bl (if neg then !b else b)) M/\((x=.tup xs/\y=.tup ys)\/(Bg M x=some xs/\Bg M y=some ys)):=by
 unfold Ou at h;split at h
 .obtain⟨b,e,q⟩:=Cm h;exact⟨_,_,b,e,q,.inl ⟨rfl,rfl⟩⟩
 .obtain⟨xs,e1,h1⟩:=Cm h;obtain⟨ys,e2,h2⟩:=Cm h1;obtain⟨b,e,q⟩:=Cm h2;exact⟨_,_,b,e,q,.inr ⟨e1,e2⟩⟩
def eT (hu:X.A.units+41<D8):Cq X (Bc .Eq) (Ou false):=by
 intro Ad s U H x y v u Q I rx ry;ext1⟨Z,dx,dy,M,Q2,hr,ax,ay,h,k⟩;obtain⟨xs,ys,b,hc,q,h|h⟩:=bb h
 .obtain⟨rfl,rfl⟩:=h;obtain⟨p,vs,rfl,hs,a1⟩:=hr.rdT ax;obtain⟨p',ws,rfl,hs',a2⟩:=hr.rdT ay;cases(show v=AE p from rx);cases(show u=AE p' from ry);obtain⟨Bi,r1,t1,_⟩:=I.tuple hs;obtain⟨its2,r2,t2,_⟩:=I.tuple hs';obtain⟨e,he,hb⟩:=UJ hc;have l1:=a1.length;have l2:=a2.length;have m1:=r1.length;have m2:=r2.length;refine SeqAt.eq_tupleAt t1 t2 (by ext) (gY I hr hu r1 r2 a1 a2 he) ⟨.bl b,H,I,?_,k.b hr q⟩;rw[show Bi.toArray.size=xs.length by simp;ext,show its2.toArray.size=ys.length by simp;ext,hb];rfl
 .obtain⟨e1,e2⟩:=h;obtain⟨p,vs,rfl,hs,a1⟩:=hr.rdL e1 ax;obtain⟨p',ws,rfl,hs',a2⟩:=hr.rdL e2 ay;cases(show v=AE p from rx);cases(show u=AE p' from ry);obtain⟨Bi,r1,t1,_⟩:=I.list hs;obtain⟨its2,r2,t2,_⟩:=I.list hs';obtain⟨e,he,hb⟩:=UJ hc;have l1:=a1.length;have l2:=a2.length;have m1:=r1.length;have m2:=r2.length;have s1:Bi.toArray.size=xs.length:=by simp;ext
  have s2:its2.toArray.size=ys.length:=by simp;ext
  by_cases hl:xs.length=ys.length
  .refine SeqAt.eq_listAt t1.isList t2.isList (by ext) (by ext) (gY I hr hu r1 r2 a1 a2 he) ⟨.bl b,H,I,?_,k.b hr q⟩;rw[s1,<- hb,hl,Ls];simp[L2.RelV]
  .refine SeqAt.eq_list_lengthsAt t1.isList t2.isList (by rw[s1,s2];simpa using hl) (by ext) ⟨.bl b,H,I,?_,k.b hr q⟩;rw[<- hb,show(xs.length == ys.length)=false by simpa using hl,DV];rfl
def aC (hu:X.A.units+41<D8):Cq X (Bc .NotEq) (Ou true):=by
 intro Ad s U H x y v u Q I rx ry;ext1⟨Z,dx,dy,M,Q2,hr,ax,ay,h,k⟩;obtain⟨xs,ys,b,hc,q,h|h⟩:=bb h
 .obtain⟨rfl,rfl⟩:=h;obtain⟨p,vs,rfl,hs,a1⟩:=hr.rdT ax;obtain⟨p',ws,rfl,hs',a2⟩:=hr.rdT ay;cases(show v=AE p from rx);cases(show u=AE p' from ry);obtain⟨Bi,r1,t1,_⟩:=I.tuple hs;obtain⟨its2,r2,t2,_⟩:=I.tuple hs';obtain⟨e,he,hb⟩:=UJ hc;have l1:=a1.length;have l2:=a2.length;have m1:=r1.length;have m2:=r2.length;refine cF t1 t2 (by ext) (gY I hr hu r1 r2 a1 a2 he) _ _ _ _ ⟨.bl (!b),H,I,?_,k.b hr q⟩;rw[show Bi.toArray.size=xs.length by simp;ext,show its2.toArray.size=ys.length by simp;ext,hb];rfl
 .obtain⟨e1,e2⟩:=h;obtain⟨p,vs,rfl,hs,a1⟩:=hr.rdL e1 ax;obtain⟨p',ws,rfl,hs',a2⟩:=hr.rdL e2 ay;cases(show v=AE p from rx);cases(show u=AE p' from ry);obtain⟨Bi,r1,t1,_⟩:=I.list hs;obtain⟨its2,r2,t2,_⟩:=I.list hs';obtain⟨e,he,hb⟩:=UJ hc;have l1:=a1.length;have l2:=a2.length;have m1:=r1.length;have m2:=r2.length;have s1:Bi.toArray.size=xs.length:=by simp;ext
  have s2:its2.toArray.size=ys.length:=by simp;ext
  by_cases hl:xs.length=ys.length
  .refine cH t1.isList t2.isList (by ext) (by ext) (gY I hr hu r1 r2 a1 a2 he) _ _ _ _ ⟨.bl (!b),H,I,?_,k.b hr q⟩;rw[s1,<- hb,hl,Ls];simp[L2.RelV]
  .refine cG t1.isList t2.isList (by rw[s1,s2];simpa using hl) (by ext) _ _ _ _ ⟨.bl (!b),H,I,?_,k.b hr q⟩;rw[<- hb,show(xs.length == ys.length)=false by simpa using hl,DV];rfl
def jX (neg:Bool):LM:=λx y M Q=>Cw (HK M y) λys=>ys.all EF=true/\EF x=true/\Q (.bl (if neg then !(ys.any λz=>Lh z x)else ys.any λz=>Lh z x)) M
def xF (a:At Z v d)(f:EF d=true):HD v=true:=by
 cases d<;>first
  |exact absurd f Ak
  |(subst a;rfl)
theorem pX (ax:At Z x dx)(fx:EF dx=true):∀{vs:List V}{ds:List D},DH Z vs ds->ds.all EF=true->vs.all HD=true/\eC x vs=ds.any λz=>Lh z dx
 |_,_,.nil,_=>⟨rfl,rfl⟩
 |v::vs,d::ds,.cons a t,f=>by
  rw[EV,Br]at f;obtain⟨h1,h2⟩:=pX ax fx t f.2;obtain⟨k1,k2,k3⟩:=uA a ax f.1 fx;refine⟨by rw[EV,k1,h1];rfl,?_⟩;show(RD v x || eC x vs)=(Lh d dx || _);rw[k3,h2]
def OG:Cq X (Bc .In) (jX false):=Gf.mono ZlP (by
 intro x y H Q;ext1⟨Z,dx,dy,M,Q2,hr,ax,ay,h,k⟩;obtain ⟨ys,e,f,fx,q⟩:=Cm h;obtain ⟨p,vs,rfl,hs,a⟩:=hr.rdS e ay;obtain ⟨h1,h2⟩:=pX ax fx a f;exact ⟨p,vs,rfl,hs,xF ax fx,h1,by rw [h2];exact k.b hr q⟩)
def pQ:Cq X (Bc .NotIn) (jX true):=Gf.mono Zho (by
 intro x y H Q;ext1⟨Z,dx,dy,M,Q2,hr,ax,ay,h,k⟩;obtain ⟨ys,e,f,fx,q⟩:=Cm h;obtain ⟨p,vs,rfl,hs,a⟩:=hr.rdS e ay;obtain ⟨h1,h2⟩:=pX ax fx a f;exact ⟨p,vs,rfl,hs,xF ax fx,h1,by rw [h2];exact k.b hr q⟩)
def Sh (x:D)(k:Ck->Prop):Prop:=match x with
 |.int i=>k (.inl i)
 |.str z=>k (.inr z)
 |_=>False
noncomputable def kD:Ck->D
 |.inl i=>.int i
 |.inr z=>.str z
def Rv (h:Sh x k):∃i,x=kD i/\k i:=by
 cases x with
 |int i=>exact⟨.inl i,rfl,h⟩
 |str i=>exact⟨.inr i,rfl,h⟩
 |_=>exact h.elim
def W4 (a:At Z v (kD k)):v=kV k:=by cases k<;>exact a
noncomputable def E6 (M:Mp):D->Option (List (Ck×D))
 |.dic AG=>some AG
 |.ref p=>match M p with
  |some (.dic AG)=>some AG
  |_=>none
 |_=>none
noncomputable def DA (AG:List (Ck×D))(k:Ck):Option D:=(AG.find? λkv=>decide (kv.1=k)).map (·.2)
noncomputable def HM (AG:List (Ck×D))(k:Ck)(v:D):List (Ck×D):=if AG.any (λkv=>decide (kv.1=k))then AG.map λkv=>if kv.1=k then(kv.1,v)else kv else AG++[(k,v)]
section
variable {K:Ac}
def HR.rdD (h:HR K H M Z)(e:E6 M d=some ds)(a:At Z v d):∃p vs,v=.ref p/\Rd H p (.dK vs)/\C7 Z vs ds:=by
 cases d with
 |dic xs=>
  cases e;obtain⟨p,rfl,z⟩:=a;rcases h.z p _ z with⟨vs,r,a⟩|k
  .exact⟨p,vs,rfl,r,a⟩
  .exact k.elim
 |ref p=>
  cases(show v=.ref p from a);unfold E6 at e;simp only at e;split at e
  .next q=>
   cases e;obtain⟨vs,r,a⟩:=h.rdMD q;exact⟨p,vs,rfl,.inl r,a⟩
  .cases e
 |_=>cases e
theorem C7.length (h:C7 Z vs ds):vs.length=ds.length:=D9 h
def C7.val {k:Ck}:∀{vs:List (Ck×V)}{ds:List (Ck×D)},C7 Z vs ds->(DA ds k=none/\F8 vs k=none)\/∃d v,DA ds k=some d/\F8 vs k=some v/\At Z v d:=λh=>by
 induction h with
 |nil=>exact .inl ⟨rfl,rfl⟩
 | @cons p q vs ds r t ih=>
  obtain⟨k1,v⟩:=p;obtain⟨k2,d⟩:=q;obtain⟨e,a⟩:=r;have e':k1=k2:=e;subst e';by_cases hk:k1=k
  .exact .inr ⟨d,v,by simp[DA,Cy,hk],by simp[F8,Cy,hk],a⟩
  .have h1:DA ((k1,d)::ds) k=DA ds k:=by simp[DA,Cy,hk]
   have h2:F8 ((k1,v)::vs) k=F8 vs k:=by simp[F8,Cy,hk]
   rw[h1,h2];exact ih
theorem C7.isSome (h:C7 Z vs ds):(F8 vs k).isSome=(DA ds k).isSome:=by
 rcases h.val with⟨e1,e2⟩|⟨d,v,e1,e2,_⟩<;>rw[e1,e2]<;>rfl
theorem C7.any {k:Ck}:∀{vs:List (Ck×V)}{ds:List (Ck×D)},C7 Z vs ds->(vs.any λkv=>decide (kv.1=k))=ds.any λkv=>decide (kv.1=k):=λh=>by
 induction h with
 |nil=>rfl
 |cons r t ih=>rw[Fk,Fk,ih,r.1]
def C7.append:∀{xs ys:List (Ck×V)}{us ws:List (Ck×D)},C7 Z xs us->C7 Z ys ws->C7 Z (xs++ys) (us++ws):=λh s=>by
 induction h with
 |nil=>exact s
 |cons r t ih=>exact .cons r ih
theorem C7.repl (a:At Z v d):∀{vs:List (Ck×V)}{ds:List (Ck×D)},C7 Z vs ds->C7 Z (vs.map λkv=>if kv.1=k then(kv.1,v)else kv) (ds.map λkv=>if kv.1=k then(kv.1,d)else kv)
 |_,_,.nil=>.nil
 |(k1,v1)::vs,(k2,d1)::ds,.cons r t=>by
  have e':=r.1;subst e';rw[AU,AU];refine .cons ?_ (C7.repl a t);by_cases h:k1=k
  .rw[if_pos h,if_pos h];exact⟨rfl,a⟩
  .rw[if_neg h,if_neg h];exact r
def C7.put (a:At Z v d)(h:C7 Z vs ds):C7 Z (putK vs k v) (HM ds k d):=by
 unfold putK HM;rw[h.any];split
 .exact h.repl a
 .exact h.append (.cons ⟨rfl,a⟩ .nil)
end
def Ue:DZ:=λ_ M Q=>∀p,M p=none->Q (.ref p) (put M p (.dic []))
def JG:B3 X (.Dict [] [] pos) Ue:=PE.mono zn λU H Q ⟨Z,τ,M,Q2,st,hr,h,k⟩ p hp=>k.d hr hp .nil h
def K1 (o:Option MO)(k:List (Ck×D)->Prop):Prop:=match o with
 |some (.dic AG)=>k AG
 |_=>False
def nP (h:K1 o k):∃AG,o=some (.dic AG)/\k AG:=by
 unfold K1 at h;split at h
 .exact⟨_,rfl,h⟩
 .exact h.elim
def Ud (td ty tv:DZ):Hw:=λE τ M=>tv τ M λv M1=>td τ M1 λx M2=>ty τ M2 λy M3=>Ko x λp=>Sh y λk=>K1 (M3 p) λAG=>AG.length<An/\E.nx τ (put M3 p (.dic (HM AG k v)))
def Xw (hu:X.A.units+1<D8)(ho:B3 X o td)(hi:B3 X i ty)(hv:B3 X value tv)(hs:C0 value (some (.Subscript o i pos')) pos.line X.env=pure false) :
  Gc X (.Assign [.Subscript o i pos'] value pos) (Ud td ty tv):=PS.mono (yh hu ho hi hv hs) (by
 intro D U H;ext1⟨Z,τ,M,D2,st,hr,h,er⟩;refine lE.bind st hr h λZ1 v dv H1 M1 l1 h1 a1 q1=>lE.bind (st.mono l1) h1 q1 λZ2 x dx H2 M2 l2 h2 a2 q2=>lE.bind (st.mono (l1.trans l2)) h2 q2 λZ3 y dy H3 M3 l3 h3 a3 q3=>?_;obtain ⟨p,rfl,q4⟩:=IG q3;obtain ⟨k,rfl,q5⟩:=Rv q4;cases (show x=V.ref p from a2);cases W4 a3;obtain ⟨AG,e,hl,q⟩:=nP q5;obtain ⟨ks,r,a4⟩:=h3.rdMD e;refine ⟨p,_,rfl,RW.k r (by rw [a4.length];exact hl),?_⟩;exact lS.nx (er.le (l1.trans (l2.trans l3))) (st.mono (l1.trans (l2.trans l3))) (h3.chgD e (a4.put (a1.mono (l2.trans l3)))) q)
def Uf (td ty:DZ):DZ:=λτ M Q=>td τ M λx M1=>ty τ M1 λy M2=>Cw (E6 M2 x) λAG=>Sh y λk=>Cw (DA AG k) λv=>Q v M2
def FV (hu:X.A.units+1<D8)(ho:B3 X o td)(hi:B3 X i ty)(hs:Wl i):B3 X (.Subscript o i pos) (Uf td ty):=PE.mono (xw hu ho hi hs) (by
 intro U H Q;ext1⟨Z,τ,M,Q2,st,hr,h,k⟩;refine lE.bind st hr h λZ1 x dx H1 M1 l1 h1 a1 q1=>lE.bind (st.mono l1) h1 q1 λZ2 y dy H2 M2 l2 h2 a2 q2=>?_;obtain⟨AG,e,q3⟩:=Cm q2;obtain⟨k',rfl,q4⟩:=Rv q3;obtain⟨d,e2,q⟩:=Cm q4;obtain⟨p,ks,rfl,r,a3⟩:=h2.rdD e (a1.mono l2);cases W4 a2;rcases a3.val with⟨z,_⟩|⟨d',v,z,zv,av⟩
 .rw[e2]at z;cases z
 .rw [e2] at z;cases z;exact ⟨p,v,rfl,.inl ⟨ks,k',r,rfl,zv.symm⟩,(k.le (l1.trans l2)).v h2 av q⟩)
def Vl (neg:Bool):LM:=λx y M Q=>Cw (E6 M y) λAG=>Sh x λk=>Q (.bl (if neg then !(DA AG k).isSome else(DA AG k).isSome)) M
def nc (hu:X.A.units+1<D8):Cq X (Bc .In) (Vl false):=by
 intro Ad s U H x y v u Q I rx ry;ext1⟨Z,dx,dy,M,Q2,hr,ax,ay,h,k⟩;obtain⟨AG,e,h1⟩:=Cm h;obtain⟨k',rfl,q⟩:=Rv h1;obtain⟨p,ks,rfl,r,a3⟩:=hr.rdD e ay;cases W4 ax;cases(show u=AE p from ry);refine mK hu I (.inl ⟨ks,k',r,rfl,rfl⟩) rx λs' I'=>⟨.bl _,H,I',rfl,?_⟩;rw[a3.isSome];exact k.b hr q
def ψ (hu:X.A.units+1<D8):Cq X (Bc .NotIn) (Vl true):=by
 intro Ad s U H x y v u Q I rx ry;ext1⟨Z,dx,dy,M,Q2,hr,ax,ay,h,k⟩;obtain⟨AG,e,h1⟩:=Cm h;obtain⟨k',rfl,q⟩:=Rv h1;obtain⟨p,ks,rfl,r,a3⟩:=hr.rdD e ay;cases W4 ax;cases(show u=AE p from ry);refine uq hu I (.inl ⟨ks,k',r,rfl,rfl⟩) rx λs' I'=>⟨.bl _,H,I',rfl,?_⟩;rw[a3.isSome];exact k.b hr q
def ZkM:BW X (.builtin "len") (λxs M Q=>GH xs λx=>Cw (E6 M x) λAG=>Q (.int AG.length) M):=by
 intro Ad s U H xs us Q I r;ext1⟨Z,ds,M,Q2,hr,a,h,k⟩;obtain⟨x,rfl,h1⟩:=GV h;obtain⟨AG,e,q⟩:=Cm h1;obtain⟨v,rfl,a1⟩:=II a;obtain⟨p,ks,rfl,rd,a2⟩:=hr.rdD e a1;obtain⟨u,rfl,ru⟩:=Ha r;cases(show u=AE p from ru);refine mx I rd λt s' I'=>⟨.int AG.length,H,I',⟨t,by rw[a2.length]⟩,k.i hr q⟩
def qr (h:(BX P w).is k v=true):L2.RelV (kV k) v:=by
 rw[Zkq]at h;rcases Sr h with⟨i,t,rfl,rfl⟩|⟨x,t,rfl,rfl⟩
 .exact⟨t,rfl⟩
 .exact⟨t,rfl⟩
def b7:Cq X (Bz .Add) (λx y M Q=>GG x λi=>GG y λj=>i.length+j.length<=An/\Q (.str (i++j)) M):=Gf.mono Zkj (by
 intro x y H Q;ext1⟨Z,dx,dy,M,Q2,hr,ax,ay,h,k⟩;obtain ⟨i,rfl,h1⟩:=Ea h;obtain ⟨j,rfl,hz,q⟩:=Ea h1;exact ⟨i,j,ax,ay,hz,k.s hr q⟩)
def mP (a:DH Z vs [d,e,f]):∃v w u,vs=[v,w,u]/\At Z v d/\At Z w e/\At Z u f:=by
 cases a with
 |cons a1 a2=>obtain⟨w,u,rfl,a3,a4⟩:=P2 a2;exact⟨_,w,u,rfl,a1,a3,a4⟩
section
variable (P:Bs)(w:BK)
end
section
open MeetsSeq MeetsSeq2 MeetsSeq3 SeqRoads2
end
theorem bI :∀{AG:List (Ck×D)},(AG.map (·.1)).Nodup->(k,d)∈AG->DA AG k=some d
 |(k1,d1)::r,hn,hm=>by
  obtain⟨n1,n2⟩:=F2.mp hn;rcases AR.mp hm with h|h
  .cases h;simp[DA,Cy]
  .have ne:¬k1=k:=λe=>n1 (by rw[e];exact Ao.mpr ⟨(k,d),h,rfl⟩);have h3:DA ((k1,d1)::r) k=DA r k:=by simp[DA,Cy,ne]
   rw[h3];exact bI n2 h
section
variable {X:Cx}
end
end L3
namespace L2
open PySem PySem.Spec PyProof.Rows L3
theorem e7 {Q:St->Hp->Prop}{H:Hp}{C2:St}:∀us (done:List (Option V)) (vs:List (Option V)),vs.length=us.length->Q (done++us.map some++C2) H->GX (O4 done.length us.length) us (done++vs++C2) H Q
 |[],done,vs,hl,q=>by
  have e:=AH hl;subst e;exact⟨rfl,q⟩
 |u::us,done,[],hl,q=>by cases hl
 |u::us,done,v::vs,hl,q=>by
  rw[AO,List.range'_succ];refine⟨u,us,rfl,?_⟩
  have e1:(done++v::vs++C2).set done.length (some u)=(done++[some u])++vs++C2:=by
   rw[Bv,List.set_append_right _ _ (AL _),JR];simp
  show GX (O4 (done.length+1) us.length) us ((done++v::vs++C2).set done.length (some u)) H Q;rw[e1];have z:=e7 us (done++[some u]) vs (He hl) (by simpa using q);rw[Aq,Dr]at z;exact z
def Zja {n:Nat}{Q:St->Hp->Prop}(hv:vs.length=n)(hu:us.length=n)(q:Q (FC U caps (us.map some)) H) :
  GX (Bx n) us (FC U caps vs) H Q:=by
 have z:=e7 us [] vs (hv.trans hu.symm) (by simpa[FC]using q);rw[List.range_eq_range',<- hu];exact z
def Ot (wi:TI)(k:Nat)(caps:List (Str×Nat))(tt:TT)(te:TE)(K:Ac):TE:=λU H Q=>wi U H λJ H1=>∃(n:Nat) (W:Nat->List V->Hp->Prop),W 0 [] H1/\∀i ys H,W i ys H ->
 (J.stop i H/\ys.length<=An/\∀p,H p=none->Q (.ref p) (CI H p (.lst ys))) \/
 (J.go i H/\i<n/\ys.length<An/\∀v H',J.yld i H v H'->∃a us,v=.ref a/\LY K H' a us/\us.length=k/\tt (FC U caps (us.map some)) H' λb H2=>if b=true then te (FC U caps (us.map some)) H2 λy H3=>W (i+1) (ys++[y]) H3 else W (i+1) ys H2)
def ZkK {Q:VK}{RR:Ai->Av->UZ->As->Prop}(B:La X scope x ns caps)(hc:X.calm=true)
  (he:∀cl C fp pn s H,PE 'h' elt te) (hif:∀cl C fp pn s H,Hy 'h' ifs tt)
  (hg:∀cl C fp pn s H,UP 'h' tes (GX (Bx (ns.length+1)))) (hgn:∀cl C fp pn s H,(C1 tes 'h'.env).length=ns.length+1) (hgf:∀cl C fp pn s H,MT (λy=>y.1) (C1 tes 'h'.env)=none)
  (hRR:∀D C s' H' ys m,AX X Ad U (CI H' D (.lst ys)) s'->JN X Ad (CI H' D (.lst ys)) C->s'.heap.Ns C m->Q (.ref D) (CI H' D (.lst ys))->RR (.ref D) C (.ok .next) s')
  (h:bQ X Ad U (.Tuple tes tk px) (λJ H1=>∃ (n:Nat) (W:Nat->List V->Hp->Prop),W 0 [] H1/\∀ i ys H,W i ys H ->
   (J.stop i H/\ys.length<=An/\∀p,H p=none->Q (.ref p) (CI H p (.lst ys))) \/
   (J.go i H/\i<n/\ys.length<An/\∀ v H',J.yld i H v H'->∃ a us,v=.ref a/\LY X.K H' a us/\us.length=ns.length+1/\tt (FC U caps (us.map some)) H' λb H2=>if b=true then te (FC U caps (us.map some)) H2 λy H3=>W (i+1) (ys++[y]) H3 else W (i+1) ys H2)) it s₂) :
  Au 'd' X.A (QS []) (λacc s₃=>Au 'd' X.A (NY scope X.env.globals (EH X.env scope.names []) [] X.env.qual none .none (some X.env)) (λcenv s₄ =>
   D4 'd' X.A (.compStart (.ListComp elt [⟨.Tuple tes tk px,iter,ifs,0⟩] scope pos) 0 it acc { cenv with scope:=relabel scope X.env }) (RR acc cenv.locals) s₄) E s₃) E s₂:=by
 refine cq (g:=RC X.K (ns.length+1) (GX (Bx (ns.length+1)))) B hc he hif (λcl C fp pn s H=>vF (show(GI X scope cl C (x::(ns++caps.map (·.1))) fp pn s H).calm=true from hc) (hg cl C fp pn s H) (hgn cl C fp pn s H) (hgf cl C fp pn s H)) hRR ?_;obtain⟨itA,fp,tn,J,H2,e,I2,T,st2,f2,n,W,w0,turn⟩:_:=h;refine⟨itA,fp,tn,J,H2,e,I2,T,st2,f2,n,W,w0,λi ys H w=>(turn i ys H w).imp id λ⟨z1,z2,z3,st⟩=>⟨z1,z2,z3,λv H' y=>?_⟩⟩;obtain⟨a,us,ev,hs,hus,q⟩:=st v H' y;exact⟨us,hus,λo R ho r=>⟨a,us,ev,hs,hus,Zja ho hus r⟩,q⟩
def Θ (B:La X scope x ns caps)(hc:X.calm=true)(hi:PI X (.Tuple tes tk px) iter wi)
  (he:∀cl C fp pn s H,PE 'h' elt te) (hif:∀cl C fp pn s H,Hy 'h' ifs tt)
  (hg:∀cl C fp pn s H,UP 'h' tes (GX (Bx (ns.length+1)))) (hgn:∀cl C fp pn s H,(C1 tes 'h'.env).length=ns.length+1) (hgf:∀cl C fp pn s H,MT (λy=>y.1) (C1 tes 'h'.env)=none)
  (hs:autoParam (∀x,Bn iter X.env x=pure x) NM):PE X (.ListComp elt [⟨.Tuple tes tk px,iter,ifs,0⟩] scope pos) (Ot wi (ns.length+1) caps tt te X.K):=by
 intro Ad s U H Q I h;rw[eval_ListComp];have hcl:∀y∈scope.names,y.2=.free->∃c,X.env.cells.lookup y.1=some c:=λy hy hf=>I.ok.has y.1 (B.b.hfree y hy hf);refine HW rfl hs (rD hcl) B.b.kind B.b.hloc (Dp (hi Ad s U H _ I h) λv s1 h1=>Dp h1 λitv s2 h2=>?_);refine ZkK B hc he hif hg hgn hgf (λD C s' H' ys m I' f' hn q=>?_) h2;refine⟨m,hn,λh' sb=>⟨.ref D,CI H' D (.lst ys),?_,rfl,q⟩⟩;obtain⟨g0,g1,g2,g3,g4,g5⟩:=f';exact I'.turned (λb o hb e=>(sb.2 b hb).trans e) g0 g1 g3 g4 g5
def AX.turnedN {X:Cx}{Ad:List (Av×Obj)}{U:St}{H:Hp}{s:As}{h':CN}{t':Nat}{fp:List Av}(I:AX X Ad U H s)(hf:∀b∈fp,JN X Ad H b)(k:∀b o,b∉fp->s.heap.get? b=some o->h'.get? b=some o):AX X Ad U H {s with heap:=h',toks:=t' }:=by
 have nit:∀b u,H b=some u->b∉fp:=λb u e z=>by rw[(hf b z).1]at e;cases e
 refine I.step (λb hb=>?_) (λb o _ _ hc e _=>k b o hc e) (λb o _ _ hc e _=>⟨o.slots,k b o hc e⟩) (λ_ _ _ _ n=>n)
  (λb o hc e=>⟨o,k b o hc e⟩) (λ_ _ e=>e) (λ_ _ _ e=>e) (λb ps e=>⟨#[],by rw[e];simp⟩) (λm hm=>?_) (λb u e=>?_) I.bare
 .obtain⟨f0,f1,f2,f3,f4,f5⟩:=hf b hb;exact⟨f3,f1,f4,f5⟩
 .obtain⟨o,es,ep,ho,r⟩:=hm;exact⟨o,es,ep,k _ o (λz=>(hf _ z).2.1 rfl) ho,r⟩
 .refine(I.hok b u e).stay (λc v hc q=>k c v ?_ q) (λ_ q=>q) λ_ _ q=>q;rcases hc with z|z
  .rw[z];exact nit b u e
  .exact nit c _ z
noncomputable def ji (K:Ac)(a b:Av):It:=
  ⟨λi H=>∃ xs ys x y,F4 K H a xs/\F4 K H b ys/\xs[i]? = some x/\ys[i]? = some y,
   λi H v H'=>∃p x y,v=.ref p/\H p=none/\H'=CI H p (.tup [x,y])/\(∀xs,F4 K H a xs->xs[i]? = some x)/\∀ys,F4 K H b ys->ys[i]? = some y,
   λi H=>∃ xs ys,F4 K H a xs/\F4 K H b ys/\(xs.length<=i\/ys.length<=i)⟩
structure RI (z TI TO i1 i2 a b:Av)(i:Nat)(h:CN):Prop where
 n1:TI≠z
 n2:TO≠z
 n3:i1≠z
 n4:i2≠z
 n5:TI≠TO
 n6:TI≠i1
 n7:TI≠i2
 n8:TO≠i1
 n9:TO≠i2
 n10:i1≠i2
 hz:IsZip h z TI TO .none
 ht:IsPair h TI (.ref i1) (.ref i2)
 ho:∃u v,IsPair h TO u v
 h1:h.IsListIter i1 a i
 h2:h.IsListIter i2 b i
def RI.apart {z TI TO i1 i2 a b:Av}(t:RI z TI TO i1 i2 a b i h)(ha:h.IsList a us)(hb:h.IsList b vs):ZipApart z TI TO i1 i2 a b:=by
 obtain⟨u,v,ho⟩:=t.ho;obtain⟨o1,e1,c1,_⟩:=t.h1;obtain⟨o2,e2,c2,_⟩:=t.h2
 have key:∀{l:Av} {ws:Array Ai},h.IsList l ws->l≠z/\l≠TO/\l≠i1/\l≠i2:=λ{l ws} ⟨o,e,c,_⟩=>by
  refine⟨λq=>?_,λq=>?_,λq=>?_,λq=>?_⟩
  .rw[q,t.hz]at e;cases e;exact absurd c 'f'
  .rw[q,ho]at e;cases e;exact absurd c 'f'
  .rw[q,e1]at e;cases e;rw[c1]at c;exact absurd c 'f'
  .rw[q,e2]at e;cases e;rw[c2]at c;exact absurd c 'f'
 obtain⟨a1,a2,a3,a4⟩:=key ha;obtain⟨b1,b2,b3,b4⟩:=key hb;exact⟨t.n1,t.n2,t.n3,t.n4,t.n5,t.n6,t.n7,t.n8,t.n9,t.n10,a1,a2,a3,a4,b1,b2,b3,b4⟩
def Ξ {K:Ac}(z TI TO i1 i2 a b:Av):MF P w K F (.Tuple es k pos) (ji K a b) [z,TI,TO,i1,i2] z (RI z TI TO i1 i2 a b) where
 mem:=by simp
 obj:=λi h st c hc=>by
  obtain⟨u,v,ho⟩:=st.ho;obtain⟨o1,e1,_,d1⟩:=st.h1;obtain⟨o2,e2,_,d2⟩:=st.h2;simp only[BD,AT,or_false]at hc;rcases hc with rfl|rfl|rfl|rfl|rfl
  .exact⟨_,st.hz,λv q=>by cases q⟩
  .exact⟨_,st.ht,λv q=>by cases q⟩
  .exact⟨_,ho,λv q=>by cases q⟩
  .exact⟨_,e1,λv q=>by rw[d1]at q;cases q⟩
  .exact⟨_,e2,λv q=>by rw[d2]at q;cases q⟩
 keep:=λi h h' st k=>by
  obtain⟨u,v,ho⟩:=st.ho;exact{st with hz:=k z 'f' _ st.hz,ht:=k TI 'f' _ st.ht,ho:=⟨u,v,k TO 'f' _ ho⟩,h1:=st.h1.at λo e=>k i1 'f' o e,h2:=st.h2.at λo e=>k i2 'f' o e}
 item:=by
  intro X hP hw hK hF hc i Ad s U H E I hf st hg;subst hP hw hK;obtain⟨xs,ys,x,y,hx,hy,ex,ey⟩:_:=hg;obtain⟨Bi,rv,p,hzz⟩:=I.list hx;obtain⟨jts,rw',p',_⟩:=I.list hy;obtain⟨u,hu,ru⟩:=rv.get ex;obtain⟨v,hv,rv'⟩:=rw'.get ey;obtain⟨c,d,ho⟩:=st.ho;have ap:=st.apart p.isList p'.isList;refine wpAny_pyNext_zip_item ap st.hz st.ht ho st.h1 st.h2 p.isList p'.isList (by simpa using hu) (by simpa using hv) λh' z1 t1 l1 l2 tp hs old=>?_;refine⟨_,rfl,wpAny_letOwnedTupleGo_zip z1 λh2 z2 sb=>?_⟩
  have ne:∀q∈[z,TI,TO,i1,i2],q≠s.heap.objs.size:=λq hq e=>by
   have hob:∃o,s.heap.get? q=some o:=by
    obtain⟨o1,e1,_,d1⟩:=st.h1;obtain⟨o2,e2,_,d2⟩:=st.h2;simp only[BD,AT,or_false]at hq;rcases hq with rfl|rfl|rfl|rfl|rfl
    .exact⟨_,st.hz⟩
    .exact⟨_,st.ht⟩
    .exact⟨_,ho⟩
    .exact⟨_,e1⟩
    .exact⟨_,e2⟩
   obtain⟨o,e'⟩:=hob;rw[e]at e';exact absurd (Ar e') (EC _)
  have I1:AX X Ad U H {s with heap:=h2}:=I.turnedN hf λq o hq e=>by
   simp only[BD,AT,or_false,not_or]at hq;exact(sb.2 q hq.1).trans (old q o hq.1 hq.2.2.1 hq.2.2.2.1 hq.2.2.2.2 e)
  have freshT:=I.fresh;have tp2:=(sb.2 _ (λe=>ne z 'f' e.symm)).trans tp;have I2:AX X Ad U (CI H s.heap.objs.size (.tup [x,y])) {s with heap:=h2}:=I1.track (I.fpOk (AL _) freshT) ⟨FK (BU 'f'),[u,v],.cons ru (.cons rv' .nil),_,tp2,rfl,_,rfl,rfl⟩;have kp:∀q o,q≠z->h'.get? q=some o->h2.get? q=some o:=λq o hq e=>(sb.2 q hq).trans e;refine⟨.ref s.heap.objs.size,_,I2,rfl,⟨_,x,y,rfl,freshT,rfl,λzs hz=>by rw[I.list_inj hz hx];exact ex,λzs hz=>by rw[I.list_inj hz hy];exact ey⟩,?_,λq hq=>?_⟩
  .have hTI:=old TI _ st.n1 st.n5 st.n6 st.n7 st.ht;exact{st with hz:=z2,ht:=kp TI _ st.n1 hTI,ho:=⟨u,v,kp TO _ st.n2 t1⟩,h1:=l1.at λo e=>kp i1 o st.n3 e,h2:=l2.at λo e=>kp i2 o st.n4 e}
  .rw[Iq (ne q hq)];exact(hf q hq).1
 done:=by
  intro X hP hw hK hF hc i Ad s U H E I hf st hg;subst hP hw hK;obtain⟨xs,ys,hx,hy,hl⟩:=hg;obtain⟨Bi,rv,p,_⟩:=I.list hx;obtain⟨jts,rw',p',_⟩:=I.list hy;obtain⟨c,d,ho⟩:=st.ho;have e1:=rv.length;have e2:=rw'.length;refine wpAny_pyNext_zip_end (I.ok.hd hc) (st.apart p.isList p'.isList) st.hz st.ht ho st.h1 st.h2 p.isList p'.isList ?_ λh' old=>⟨rfl,I.turnedN hf λq o hq e=>?_⟩
  .rcases hl with hl|hl
   .exact .inl (by simp;ext)
   .exact .inr (by simp;ext)
  .simp only[BD,AT,or_false,not_or]at hq;exact old q o hq.1 hq.2.2.1 hq.2.2.2.1 hq.2.2.2.2 e
 self:=λ_ _ _ _ _ st h=>XT st.hz h
def mI (K:Ac)(ta:TA):TI:=λU H R=>ta U H λvs H1=>∃a b xs ys,vs=[.ref a,.ref b]/\F4 K H1 a xs/\F4 K H1 b ys/\R (ji K a b) H1
def tu {X:Cx}{es:List BY}{k:Nat}{tp:Pos}{a b:BY}{ta:TA}{p pos:Pos}(hg:Gl X "zip")(hm:X.mg "zip" = none)(ha:PA X [a,b] ta)(hs:autoParam (Ap [a,b] X.env=[(false,eval a X.env),(false,eval b X.env)]) BV)(hs2:autoParam (Ap [b] X.env=[(false,eval b X.env)]) BV) :
  PI X (.Tuple es k tp) (.Call (.Name "zip" p) [a,b] [] pos) (mI X.K ta):=by
 intro Ad s U H R I h;refine Call_ (P4 I hg hm boot_zip (BG (Dp (ha pos Ad s U H _ I h) λus s1 e=>e.el λvs H1 I1 r1 q1=>?_) (by rw[hs,hs2]) (by rw[hs2];rfl)));refine Am λkk'=>?_;obtain⟨a,b,xs,ys,e,hx,hy,q⟩:=q1;refine kk' ?_;clear kk';subst e;cases r1 with
 |cons r rr=>
  cases rr with
  |cons r' rr=>
   cases rr;cases(show _=AE a from r);cases(show _=AE b from r');obtain⟨Bi,rv,pl,_⟩:=I1.list hx;obtain⟨jts,rv',pl',_⟩:=I1.list hy;refine call_zip_2 pl.isList pl'.isList λh' z t o l1 l2 hz old=>?_;have I2:AX X Ad U H1 {s1 with heap:=h' }:=I1.kept λb o e=>old b o e;have hN:∀i j,i≠j->(s1.heap.objs.size+i:Nat)≠s1.heap.objs.size+j:=λi j h=>by ext
   refine XT z ?_;refine⟨_,[s1.heap.objs.size+4,s1.heap.objs.size+2,s1.heap.objs.size+3,s1.heap.objs.size,s1.heap.objs.size+1],_,_,H1,rfl,I2,Ξ _ _ _ _ _ a b,⟨hN 2 4 'g',hN 3 4 'g',hN 0 4 'g',hN 1 4 'g',hN 2 3 'g',hN 2 0 'g',hN 2 1 'g',hN 3 0 'g',hN 3 1 'g',hN 0 1 'g',z,t,⟨_,_,o⟩,l1,l2⟩,λc hc=>?_,q⟩
   have hge:s1.heap.objs.size<=c:=by
    simp only[BD,AT,or_false]at hc;rcases hc with rfl|rfl|rfl|rfl|rfl
    .exact G5 _ _
    .exact G5 _ _
    .exact G5 _ _
    .exact AL _
    .exact G5 _ _
   exact I1.fpOk hge (I1.hok.fresh hge)
noncomputable abbrev Cx.fr (X:Cx)(f:Av×Obj×HO):Cx:={X with fz:=f::X.fz}
def AX.unfr (I:AX (X.fr f) Ad U H s):AX X Ad U H s:=
 ⟨{I.ok with},I.os,I.bare,I.base,I.loc,I.cell,I.free,I.freeC,I.pin,I.hok,I.len,λg hg=>I.fzd g (Ay _ hg)⟩
def AX.freeze (I:AX X Ad U H s)(rd:Rd H a (.dK ks)) :
  ∃ob,AX (X.fr (a,ob,.dK ks)) Ad U (CI H a (.frz ob (.dK ks))) s:=by
 have fin:∀{H':Hp} {ob:Obj},AX X Ad U H' s->H' a=some (.frz ob (.dK ks))->AX (X.fr (a,ob,.dK ks)) Ad U H' s:=λ{H' ob} J e=>
  ⟨{ J.ok with },J.os,J.bare,J.base,J.loc,J.cell,J.free,J.freeC,J.pin,J.hok,J.len,λg hg=>by
   rcases AR.mp hg with rfl|hg
   .exact e
   .exact J.fzd g hg⟩
 rcases rd with e|⟨ob,e⟩
 .obtain⟨z,hd,vs,rel,dd⟩:=Tp I.hok (.inl e);obtain⟨ep,ob,es,eo,_⟩:=dd.dictAt;refine⟨ob,fin ?_ MX⟩;have ne:∀b u,H b=some u->u≠.dK ks->b≠a:=λb u q n z=>by rw[z,e]at q;exact n (AZ q).symm
  have hu:∀b u,H b=some u->u≠.dK ks->CI H a (.frz ob (.dK ks)) b=some u:=λb u q n=>by rw[Iq (ne b u q n)];exact q
  refine I.step (ch:=[]) (λ_ z=>nomatch z) (λb o _ _ _ q _=>q) (λb o _ _ _ q _=>⟨o.slots,q⟩)
   (λb o _ q n=>by rw[Iq (λz=>by rw[z,e]at n;cases n)];exact n) (λb o _ q=>⟨o,q⟩) (λb xs q=>hu b _ q 'f') (λb o u q=>hu b _ q 'f') (λb ps q=>⟨#[],by rw[hu b _ q 'f'];simp⟩) (λm hm=>hm) (λb u q=>?_) I.bare
  by_cases hb:b=a
  .subst hb;rw[MX]at q;cases q;exact⟨eo,(I.hok b _ e).stay (λ_ _ _ q=>q) (λc q=>hu c _ q 'f') λc xs q=>hu c _ q 'f'⟩
  .rw[Iq hb]at q;exact(I.hok b u q).stay (λ_ _ _ q=>q) (λc q=>hu c _ q 'f') λc xs q=>hu c _ q 'f'
 .refine⟨ob,fin ?_ MX⟩
  have z:CI H a (.frz ob (.dK ks))=H:=funext λb=>by
   by_cases hb:b=a
   .subst hb;rw[MX,e]
   .rw[Iq hb]
  rw[z];exact I
noncomputable def Wq (ks:List (Ck×V)):It:=⟨λi _=>i<ks.length,λi H x H'=>H'=H/\∃p,ks[i]? = some p/\x=kV p.1,λi _=>ks.length<=i⟩
def o8 {ks:List (Ck×V)}{vs:List (Ck×Ai)}(rel:KV ks vs){i:Nat}(h:i<ks.length):∃k v v',ks[i]? = some (k,v)/\vs[i]? = some (k,v'):=by
 have hk:=rel.keys;have hl:=rel.length;have h1:(ks.map (·.1))[i]? = (vs.map (·.1))[i]?:=by rw[hk]
 rw[AI,AI,Af h,Af (by omega:i<vs.length)]at h1;have h2:ks[i].1=vs[i].1:=by simpa using h1
 exact⟨ks[i].1,ks[i].2,vs[i].2,Af h,by rw[h2];exact Af (by ext)⟩
def Zl1 {K:Ac}(a it)(hF:(a,ob,HO.dK ks)∈F)(rel:KV ks vs)(da:Heap.DictAt (BX P w) h0 a vs ep)(h0a:h0.get? a=some ob) :
  MF P w K F tg (Wq ks) [it] it (λi h=>h.IsKeyIter it a i vs.length ep) where
 mem:=by simp
 obj:=λi h st b hb=>by
  have e:b=it:=by simpa using hb
  subst e;obtain⟨o,e,c,d⟩:=st;exact⟨o,e,λv z=>by rw[d]at z;cases z⟩
 keep:=λi h h' st k=>st.at λo e=>k it 'f' o e
 item:=by
  intro X hP hw hK hF' hc i Ad s U H E I hf st hg;subst hP hw hK hF';obtain⟨k,v,v',e1,e2⟩:=o8 rel (show i<ks.length from hg);have ea:=I.fzd _ hF;have go:=(show CK X.prog X.w H s.heap a (.frz ob (.dK ks))from I.hok a _ ea).1;have da':=da.at' λo e=>by rw[h0a]at e;cases e;exact go
  obtain⟨f0,f1,f2,f3,f4,f5⟩:=hf it 'f';refine wpAny_pyNext_dict_item st da' e2 λkey h' isk st' sb=>?_;have I1:AX X Ad U H {s with heap:=h' }:=I.turned (λb o hb e=>(sb.2 b hb).trans e) f0 f1 f3 f4 f5;obtain⟨o,e,c,d⟩:=id st';exact⟨key,rfl,Xd e c d 'g' ⟨kV k,H,I1,qr isk,⟨rfl,_,e1,rfl⟩,st',λb hb=>(hf b hb).1⟩⟩
 done:=by
  intro X hP hw hK hF' hc i Ad s U H E I hf st hg;subst hP hw hK hF';have ea:=I.fzd _ hF;have go:=(show CK X.prog X.w H s.heap a (.frz ob (.dK ks))from I.hok a _ ea).1;have da':=da.at' λo e=>by rw[h0a]at e;cases e;exact go
  obtain⟨f0,f1,f2,f3,f4,f5⟩:=hf it 'f';have hl:=rel.length;have hg':ks.length<=i:=hg;exact wpAny_pyNext_dict_end (I.ok.hd hc) st da' (EM.mpr (by ext)) λh' eb=>⟨rfl,I.turned (λb o hb e=>eb b o hb e) f0 f1 f3 f4 f5⟩
 self:=λ_ _ _ _ _ st h=>wpAny_pyIter_keyiter st h
def vG {X:Cx}(hl:PE X l tl)(hF:(a,ob,HO.dK ks)∈X.fz):PI X tg l (λU H R=>tl U H λv H1=>v=.ref a/\R (Wq ks) H1):=by
 intro Ad s U H R I h;refine Dp (hl Ad s U H _ I h) λu s1 e=>e.el λv H1 I1 r ⟨e,q⟩=>?_;subst e;cases(show u=AE a from r);have ea:=I1.fzd _ hF;obtain⟨z,hd,vs,rel,dd⟩:=Tp I1.hok (.inr ⟨ob,ea⟩);obtain⟨ep,da⟩:=dd.dictAt;have go:=(show CK X.prog X.w H1 s1.heap a (.frz ob (.dK ks))from I1.hok a _ ea).1;refine wpAny_pyIter_dict hd da ?_;have I2:AX X Ad U H1 {s1 with heap:=s1.heap.push {cls:=.type "dict_keyiterator",data:=.fields #[.ref a,.int 0 0,.int (vs.length:Int) 0,.int (ep:Int) 0]} }:=I1.kept λb o e=>Ag _ e;refine⟨s1.heap.objs.size,[s1.heap.objs.size],_,_,H1,rfl,I2,Zl1 a _ hF rel da go,⟨_,AC _ rfl,rfl,rfl⟩,λb hb=>?_,q⟩;have e:b=s1.heap.objs.size:=by simpa using hb
 subst e;exact I1.fpOk (AL _) (I1.hok.fresh (AL _))
end L2
namespace L3
open PySem PySem.Spec PyProof.Rows L2
unseal B3 Ij JQ Gd KN Gc Dg Cq Gb BW F0 Gz Ll HP EX
noncomputable def LF (xs ys:List D):List D:=(xs.zip ys).map λp=>.tup [p.1,p.2]
def ZmY {xs ys:List D}{i:Nat}{d:D}(h:(LF xs ys)[i]? = some d):∃x y,xs[i]? = some x/\ys[i]? = some y/\d=.tup [x,y]:=by
 unfold LF at h;rw[AI]at h;cases e:(xs.zip ys)[i]? with
 |none=>rw[e]at h;cases h
 |some p=>rw[e]at h;rw[List.getElem?_zip_eq_some]at e;exact⟨p.1,p.2,e.1,e.2,(AZ h).symm⟩
def ZmX (xs ys:List D):(LF xs ys).length=min xs.length ys.length:=by unfold LF;rw[Ab,SM]
def Yt (t:Ka):NP:=λτ M R=>t τ M λds M1=>FW ds λx y=>Cw (Bg M1 x) λxs=>Cw (Bg M1 y) λys=>R (LF xs ys) (λM=>Bg M x=some xs/\Bg M y=some ys) M1
def um {es:List BY}{n:Nat}{tp:Pos}{a b:BY}{ta:Ka}{p pos:Pos}(hm:X.mg "zip" = none)(ha:Gd X [a,b] ta)(hg:autoParam (Gl X "zip") BV)(hs:autoParam (Ap [a,b] X.env=[(false,eval a X.env),(false,eval b X.env)]) BV)(hs2:autoParam (Ap [b] X.env=[(false,eval b X.env)]) BV) :
  HP X (.Tuple es n tp) (.Call (.Name "zip" p) [a,b] [] pos) (Yt ta):=PI.mono (tu hg hm ha hs hs2) (by
 intro U H R;ext1⟨Z,τ,M,R2,st,hr,h,k⟩;refine ⟨Z,τ,M,_,st,hr,h,λZ1 vs ds H1 M1 l1 h1 a1 q1=>?_⟩;obtain ⟨x,y,rfl,q0⟩:=LI q1;obtain ⟨xs,e,q0⟩:=Cm q0;obtain ⟨ys,e',q⟩:=Cm q0;obtain ⟨v,w,rfl,a2,a3⟩:=P2 a1;obtain ⟨p,ws,rfl,hs,b2⟩:=h1.rdL e a2;obtain ⟨p',ws',rfl,hs',b3⟩:=h1.rdL e' a3;refine ⟨p,p',ws,ws',rfl,hs,hs',k Z1 _ (LF xs ys) _ H1 M1 l1 h1 (λi H M Z' l hr s=>?_) q⟩;obtain ⟨q,us,e2,hu,c2⟩:=hr.rdL s.1 (a2.mono l);cases e2;obtain ⟨q',us',e3,hu',c3⟩:=hr.rdL s.2 (a3.mono l);cases e3;have lu:=c2.length;have lu':=c3.length;refine ⟨λd hd=>?_,λhi=>⟨us,us',hu,hu',by rw [ZmX] at hi;ext⟩⟩;obtain ⟨d1,d2,g1,g2,rfl⟩:=ZmY hd;obtain ⟨v1,hv1,av1⟩:=c2.get g1;obtain ⟨v2,hv2,av2⟩:=c3.get g2;refine ⟨⟨us,us',v1,v2,hu,hu',hv1,hv2⟩,λz H' yl=>?_⟩;refine Am λkk'=>?_;obtain ⟨r,x',y',e1',hn,e2',f1,f2⟩:=yl;refine kk' ?_;clear kk';subst e1' e2';have z1:=f1 us hu;rw [hv1] at z1;cases z1;have z2:=f2 us' hu';rw [hv2] at z2;cases z2;exact ⟨_,Le.ext,hr.newT hn (.cons av1 (.cons av2 .nil)),⟨r,rfl,.inr ⟨rfl,rfl⟩⟩⟩)
noncomputable def capT (τ:GK)(caps:List (Str×Nat))(ds:List D):GK:=ds.map some++caps.map λc=>(τ[c.2]?).join
theorem GJ.capT {Z:Zt}{U:St}{τ:GK}(h:GJ Z U τ)(caps:List (Str×Nat)):∀{us:List V}{ds:List D},DH Z us ds->GJ Z (FC U caps (us.map some)) (capT τ caps ds):=λhA=>by
 induction hA with
 |nil=>
  unfold FC L3.capT;rw[DB,DB,Hl,Hl];induction caps with
  |nil=>exact .nil
  |cons c r ih=>exact .cons (h.join c.2) ih
 |cons a r ih=>exact .cons a ih
def LZ (n:Nat)(xs:List D)(S:Mp->Prop)(caps:List (Str×Nat))(tt:Lj)(te:DZ)(τ:GK)(M:Mp)(Q:List D->Mp->Prop):Prop:=xs.length<=An/\∃W:Nat->List D->Mp->Prop,W 0 [] M/\(∀i ys M,W i ys M->S M/\ys.length<=i) /\
 (∀i x ys M,xs[i]? = some x->W i ys M->∃us,x=.tup us/\us.length=n/\tt (capT τ caps us) M λb M2=>if b=true then te (capT τ caps us) M2 λy M3=>W (i+1) (ys++[y]) M3 else W (i+1) ys M2)/\∀ys M,W xs.length ys M->Q ys M
def ZkJ {K:Ac}(st:GJ Z U τ)(hr:HR K H M Z)(h:wi τ M λxs S M1=>LZ n xs S caps tt te τ M1 QL)
  (ht:∀U H Q,lT K tt U H Q->tt1 U H Q)
  (k:∀Z1 H1 M1 vs ds,Le Z Z1->HR K H1 M1 Z1->DH Z1 vs ds->QL ds M1->∀p,H1 p=none->Q (.ref p) (CI H1 p (.lst vs))):Ot (lI K wi) n caps tt1 (lE K te) K U H Q:=by
 refine⟨Z,τ,M,_,st,hr,h,λZ1 J xs S H1 M1 l1 h1 jk ⟨hz,W,w0,stay,turn,done⟩=>?_⟩;refine⟨xs.length,λi vs H=>i<=xs.length/\∃Z2 M2 ds,Le Z1 Z2/\HR K H M2 Z2/\DH Z2 vs ds/\W i ds M2,⟨Ej _,Z1,M1,[],Le.refl _,h1,.nil,w0⟩,?_⟩;intro i vs H2;ext1⟨hi,Z2,M2,ds,l2,h2,a2,w2⟩;obtain⟨s2,hl⟩:=stay i ds M2 w2;obtain⟨go,stop⟩:=jk i H2 M2 Z2 l2 h2 s2;have la:=a2.length;by_cases hlt:i<xs.length
 .obtain⟨g1,g2⟩:=go _ (Af hlt);refine .inr ⟨g1,hlt,by ext,λx H' y=>?_⟩;obtain⟨Z5,l5,h5,a⟩:=g2 x H' y;obtain⟨ds5,ex,hl5,tk⟩:=turn i _ ds M2 (Af hlt) w2;rw[ex]at a;obtain⟨p5,us,rfl,hs5,a5⟩:=h5.rdT a;have l2:=l2.trans l5;have a2:=a2.mono l5;refine⟨p5,us,rfl,hs5,a5.length.trans hl5,?_⟩;refine ht _ _ _ (lT.bind ((st.mono (l1.trans l2)).capT caps a5) h5 tk λZ3 b H3 M3 l3 h3 q3=>?_);cases b with
  |false=>rw[if_neg Ak]at q3 ⊢;exact⟨hlt,Z3,M3,ds,l2.trans l3,h3,a2.mono l3,q3⟩
  |true=>rw[if_pos rfl]at q3 ⊢;refine lE.bind (((st.mono (l1.trans l2)).capT caps a5).mono l3) h3 q3 λZ4 z dz H4 M4 l4 h4 a4 q4=>?_;exact⟨hlt,Z4,M4,ds++[dz],l2.trans (l3.trans l4),h4,(a2.mono (l3.trans l4)).append (.cons a4 .nil),q4⟩
 .have e:i=xs.length:=by ext
  subst e;exact .inl ⟨stop (AL _),by ext,k Z2 H2 M2 vs ds (l1.trans l2) h2 a2 (done ds M2 w2)⟩
noncomputable def ZQ:D->Option (List (Ck×D))
 |.dic AG=>some AG
 |_=>none
def HR.frzH {K:Ac}(h:HR K H M Z)(z:Z p (.dic AG))(rd:Rd H p (.dK ks)):HR K (CI H p (.frz ob (.dK ks))) M Z:=by
 have hM:M p=none:=by
  cases e:M p with
  |none=>rfl
  |some o=>exact((h.m p o e).1 _ z).elim
 have key:∀{d:D},HB H Z p d->HB (CI H p (.frz ob (.dK ks))) Z p d:=λ{d} hb=>by
  cases d with
  |dic ds=>
   obtain⟨vs,r,a⟩:=hb
   have e:HO.dK vs=HO.dK ks:=by
    rcases r with r|⟨o,r⟩<;>rcases rd with r' | ⟨o',r'⟩<;>rw[r]at r'<;>cases r'<;>rfl
   cases e;exact⟨_,.inr ⟨ob,MX⟩,a⟩
  |tup ds=>obtain⟨vs,r,a⟩:=hb;rcases rd with r' | ⟨o',r'⟩<;>rw[r]at r'<;>cases r'
  |dct ds=>obtain⟨vs,r,a⟩:=hb;rcases r with r|⟨o,r⟩<;>rcases rd with r' | ⟨o',r'⟩<;>rw[r]at r'<;>cases r'
  |lst ds=>obtain⟨vs,r,a⟩:=hb;rcases r with r|⟨o,r⟩<;>rcases rd with r' | ⟨o',r'⟩<;>rw[r]at r'<;>cases r'
  |_=>exact hb.elim
 refine⟨λb d q=>?_,λb w q=>?_⟩
 .by_cases hb:b=p
  .subst hb;rcases h.z b d q with k|k
   .exact .inl (key k)
   .exact .inr k
  .rcases h.z b d q with k|k
   .exact .inl (k.at (Iq hb))
   .exact .inr k
 .have hb:b≠p:=λe=>by rw[e,hM]at q;cases q
  obtain⟨k1,k2⟩:=h.m b w q;exact⟨k1,k2.at (Iq hb)⟩
def Q8 (t:DZ):NP:=λτ M R=>t τ M λx M1=>Cw (ZQ x) λAG=>R (AG.map λp=>kD p.1) (λ_=>True) M1
def u7 {Z:Zt}{ks:List (Ck×V)}{AG:List (Ck×D)}(a:C7 Z ks AG){i:Nat}{p:Ck×V}(h:ks[i]? = some p):∃d,AG[i]? = some (p.1,d):=by
 induction a generalizing i with
 |nil=>simp at h
 | @cons u d _ _ h1 _ ih=>
  cases i with
  |zero=>
   have e:u=p:=by simpa using h
   subst e;obtain⟨e1,_⟩:=h1;exact⟨d.2,by rw[e1];rfl⟩
  |succ i=>exact ih (by simpa using h)
def m6 (k):At Z (kV k) (kD k):=by cases k<;>rfl
def ο {K:Ac}{Z:Zt}{ks:List (Ck×V)}{AG:List (Ck×D)}(a:C7 Z ks AG):bT K (Wq ks) (AG.map λp=>kD p.1) (λ_=>True) Z:=λi H M Z' l hr s=>by
 have hl:=a.length;refine⟨λd hd=>?_,λhi=>by rw[Ab]at hi;show ks.length<=i;ext⟩;rw[AI]at hd
 have hi:i<AG.length:=by
  cases e:AG[i]? with
  |none=>rw[e]at hd;cases hd
  |some p=>exact(Ah.mp e).1
 refine⟨show i<ks.length by ext,λx H' y=>?_⟩;obtain⟨rfl,p,e1,rfl⟩:=y;obtain⟨d',e2⟩:=u7 a e1;rw[e2]at hd;cases hd;exact⟨Z',Le.refl _,hr,m6 _⟩
noncomputable def OK (k:Str):List Str->Option Nat
 |[]=>none
 |a::r=>if a=k then some 0 else(OK k r).map (·+1)
theorem zT :∀{xs:List Str}{j:Nat},OK k xs=some j->xs[j]? = some k/\∀m a,m<j->xs[m]? = some a->a≠k
 |[],j,h=>by cases h
 |a::r,j,h=>by
  unfold OK at h;by_cases e:a=k
  .rw[if_pos e]at h;cases h;exact⟨by rw[e];rfl,λm a hm=>by ext⟩
  .rw[if_neg e]at h;cases q:OK k r with
   |none=>rw[q]at h;cases h
   |some i=>
    rw[q]at h;cases h;obtain⟨h1,h2⟩:=zT q;refine⟨by simpa using h1,λm b hm hb=>?_⟩;cases m with
    |zero=>
     have:a=b:=by simpa using hb
     rw[<- this];exact e
    |succ m=>exact h2 m b (by have hm':m+1<i+1:=hm;ext) (by simpa using hb)
noncomputable def EG:List D->Option (List Str)
 |[]=>some []
 |.str a::r=>(EG r).map (a::·)
 |_::_=>none
theorem XC:∀{ds:List D}{ss:List Str},EG ds=some ss->ds=ss.map D.str
 |[],ss,h=>by cases h;rfl
 |.str a::r,ss,h=>by
  change(EG r).map (a::·)=_ at h;cases e:EG r with
  |none=>rw[e]at h;cases h
  |some t=>rw[e]at h;cases h;rw[AU,<- XC e]
 |.non::r,_,h | .int _::r,_,h | .bl _::r,_,h | .tup _::r,_,h | .lst _::r,_,h | .dic _::r,_,h | .dct _::r,_,h | .ref _::r,_,h | .ty _::r,_,h=>by cases h
def fS (hu:X.A.units+45<D8):EX X "list.index" (λx xs M Q=>GH xs λy=>GG y λk=>Cw (Bg M x) λds=>Cw (EG ds) λss=>Cw (OK k ss) λi=>Q (.int (i:Int)) M):=by
 intro Ad s U H x xs v us Q I rx r;ext1⟨Z,d,ds,M,Q2,hr,a,as,h,kk⟩;obtain⟨y,rfl,h1⟩:=GV h;obtain⟨k,rfl,h2⟩:=Ea h1;obtain⟨zs,e,h3⟩:=Cm h2;obtain⟨ss,e2,h4⟩:=Cm h3;obtain⟨i,e3,q⟩:=Cm h4;obtain⟨p,ws,rfl,hs,a2⟩:=hr.rdL e a;cases(show v=AE p from rx);obtain⟨w,rfl,aw⟩:=II as;cases(show w=V.str k from aw);obtain⟨u,rfl,ru⟩:=Ha r;obtain⟨t,rfl⟩:=ru;obtain⟨Bi,rv,⟨o,n,ho0,hc1,hc2,hc3⟩,hz⟩:=I.list hs
 have ho:s.heap.get? p=some {cls:=.type "list",dict:=o.dict,data:=.seq Bi.toArray n,slots:=o.slots}:=by
  rw[ho0];cases o
  simp_all
 have hzs:=XC e2;obtain⟨g1,g2⟩:=zT e3;have l1:=rv.length;have l2:=a2.length;have hi:=(Ah.mp g1).1;have hzl:zs.length=ss.length:=by rw[hzs,Ab]
 have at_:∀m (hm:m<Bi.toArray.size),∃a t,Bi.toArray[m]=Ds a t/\ss[m]? = some a:=λm hm=>by
  obtain⟨v',d',_,e1,q1,z1⟩:=VZ rv a2 m hm;rw[hzs,AI]at e1;cases e4:ss[m]? with
  |none=>rw[e4]at e1;cases e1
  |some b=>rw[e4]at e1;cases e1;cases(show v'=V.str b from q1);obtain⟨t',ht⟩:=z1;exact⟨b,t',ht,rfl⟩
 let ef:Ai->Bool:=λv=>match v with | .str a _=>decide (a=k) | _=>false
 have hsz:Bi.toArray.size=ss.length:=by simp;ext
 refine IZ F.slot_list_index ⟨_,ho,rfl⟩ F.entry_list_index (F.args_list_index_2 _ _) (SeqAt.list_indexAt p Bi.toArray n _ _ (.str k t) ef i (by ext) ?_ ?_ ?_) ⟨ho,?_,?_⟩
 .have:An<2^62:=by decide
  ext
 .obtain⟨b,t',h5,h6⟩:=at_ i (by ext);rw[h5];rw[g1]at h6;cases h6;simp[ef]
 .intro m hm hlt;obtain⟨b,t',h5,h6⟩:=at_ m hm;rw[h5];simp[ef,g2 m b hlt h6]
 .intro y hy;obtain⟨m,hm,rfl⟩:=Array.mem_iff_getElem.mp hy;obtain⟨b,t',h5,h6⟩:=at_ m hm;rw[h5];exact oE I hr 1 (x:=.str b) (y:=.str k) rfl rfl ⟨t',rfl⟩ ⟨t,rfl⟩ (by show X.A.units+1+1<D8;ext) rfl
 .exact⟨.int i,H,I.tok _,⟨_,rfl⟩,kk.i hr q⟩
def ZkT (as bs:List Int):LF (as.map D.int) (bs.map D.int)=(as.zip bs).map λp=>.tup [.int p.1,.int p.2]:=by
 unfold LF;rw[List.zip_map,BB];rfl
theorem zK (f):∀as bs:List Int,((as.zip bs).map λp=>D.int (f p.1 p.2))=(as.zipWith f bs).map D.int
 |[],_=>rfl
 |_::_,[]=>rfl
 |a::as,b::bs=>by
  show D.int (f a b)::(as.zip bs).map _=D.int (f a b)::(as.zipWith f bs).map D.int;rw[zK f as bs]
def LZ.ints {as bs:List Int}(f:Int->Int->Int)(hz:as.length<=An)(hS:S M)(h:∀a b,(a,b)∈as.zip bs->∀R:Ef,R (.int (f a b)) M->te (capT τ caps [.int a,.int b]) M R)(q:Q ((as.zipWith f bs).map D.int) M):LZ 2 (LF (as.map D.int) (bs.map D.int)) S caps HA te τ M Q:=by
 rw[ZkT];refine⟨by rw[Ab,SM];ext,λi ys M'=>M'=M/\ys=((as.zip bs).take i).map λp=>D.int (f p.1 p.2),⟨rfl,rfl⟩,?_,?_,?_⟩
 .rintro i ys M' ⟨rfl,rfl⟩;exact⟨hS,by rw[Ab,A3];ext⟩
 .rintro i x ys M' hx ⟨rfl,rfl⟩;rw[AI]at hx;cases e:(as.zip bs)[i]? with
  |none=>rw[e]at hx;cases hx
  |some p=>rw[e]at hx;refine⟨_,(AZ hx).symm,rfl,?_⟩;unfold HA;dsimp only;rw[if_pos rfl];exact h p.1 p.2 (AB e) _ ⟨rfl,by rw[Bb,e,AJ];rfl⟩
 .rintro ys M' ⟨rfl,rfl⟩;rw[Ab,Bm];rw[zK f as bs];exact q
end L3
namespace L2
open PySem PySem.Spec PyProof.Rows L3
noncomputable def jm (x:Str):It:=⟨λi _=>i<x.cps.size,λi H v H'=>H'=H/\∃c,x.cps[i]? = some c/\v=.str ⟨#[c]⟩,λi _=>x.cps.size<=i⟩
def Ν {K:Ac}(it)(x)(t:Tok):MF P w K F tg (jm x) [it] it (λi h=>h.IsStrIter it "str_ascii_iterator" x t i) where
 mem:=by simp
 obj:=λi h st b hb=>by
  have e:b=it:=by simpa using hb
  subst e;obtain⟨o,e,c,d⟩:=st;exact⟨o,e,λv z=>by rw[d]at z;cases z⟩
 keep:=λi h h' st k=>by
  obtain⟨o,e,c,d⟩:=st;exact⟨o,k it 'f' o e,c,d⟩
 item:=by
  intro X hP hw hK hF hc i Ad s U H E I hf st hg;subst hP hw hK;have hi:=hg;obtain⟨f0,f1,f2,f3,f4,f5⟩:=hf it 'f';refine wpAny_pyNext_ascii_item st (AY hi) λh' st' sb=>?_;have I1:AX X Ad U H {s with heap:=h',toks:=s.toks+1}:=I.turned (λb o hb e=>(sb.2 b hb).trans e) f0 f1 f3 f4 f5;obtain⟨o,e,c,d⟩:=id st';exact⟨_,rfl,Xd e c d 'g' ⟨.str ⟨#[x.cps[i]]⟩,H,I1,⟨_,rfl⟩,⟨rfl,_,AY hi,rfl⟩,st',λb hb=>(hf b hb).1⟩⟩
 done:=by
  intro X hP hw hK hF hc i Ad s U H E I hf st hg;subst hP hw hK;have hg':=hg;obtain⟨f0,f1,f2,f3,f4,f5⟩:=hf it 'f';exact wpAny_pyNext_ascii_end (I.ok.hd hc) st (D1 hg') λh' eb=>⟨rfl,I.turned (λb o hb e=>eb b o hb e) f0 f1 f3 f4 f5⟩
 self:=λ_ _ _ _ _ st h=>wpAny_pyIter_striter_ascii st h
def tj {X:Cx}{tg l:BY}{tl:TE}(hl:PE X l tl):PI X tg l (λU H R=>tl U H λv H1=>∃x,v=.str x/\(x.cps.all λc=>decide (c<128))=true/\R (jm x) H1):=by
 intro Ad s U H R I h;refine Dp (hl Ad s U H _ I h) λu s1 e=>e.el λv H1 I1 r ⟨x,e,ha,q⟩=>?_;subst e;obtain⟨t,rfl⟩:=r;refine wpAny_pyIter_ascii ha ?_;have I2:AX X Ad U H1 {s1 with heap:=s1.heap.push {cls:=.type "str_ascii_iterator",data:=.fields #[.str x t,.int 0 0]} }:=I1.kept λb o e=>Ag _ e;refine⟨s1.heap.objs.size,[s1.heap.objs.size],_,_,H1,rfl,I2,Ν _ x t,⟨_,AC _ rfl,rfl,rfl⟩,λb hb=>?_,q⟩;have e:b=s1.heap.objs.size:=by simpa using hb
 subst e;exact I1.fpOk (AL _) (I1.hok.fresh (AL _))
def ZlO :Gf X (Bc .LtE) (λx y H Q=>∃i j,x=.str i/\y=.str j/\Q (.bl (!decide (j.cps.toList<i.cps.toList))) H):=by
 intro Ad s U H x y v u Q I rx ry h;obtain⟨i,j,rfl,rfl,q⟩:=h;obtain⟨t,rfl⟩:=rx;obtain⟨t',rfl⟩:=ry;exact richCompare_gives (op:=.LtE) (NU _ _ _) (NU _ _ _) PySem.F.slot_str_le PySem.F.entry_str_le (PySem.F.args_str_le_2 _ _) (PySem.gives_str_le i j t t') (by simp[Made.takes]) (IQ I q rfl)
end L2
namespace L3
open PySem PySem.Spec PyProof.Rows L2
unseal B3 Ij JQ Gd KN Gc Dg Cq Gb BW F0 Gz Ll HP EX
noncomputable def KW (z:Str):List D:=z.cps.toList.map λc=>.str ⟨#[c]⟩
def Yv (t:DZ):NP:=λτ M R=>t τ M λx M1=>GG x λz=>(z.cps.all λc=>decide (c<128))=true/\R (KW z) (λ_=>True) M1
def ul (hl:B3 X l tl):HP X tg l (Yv tl):=PI.mono (tj hl) (by
 intro U H R;ext1⟨Z,τ,M,R2,st,hr,h,k⟩;refine lE.bind st hr h λZ1 v d H1 M1 l1 h1 a1 q1=>?_;obtain⟨z,rfl,ha,q⟩:=Ea q1;refine⟨z,a1,ha,k Z1 _ (KW z) _ H1 M1 l1 h1 (λi H M Z' l hr s=>?_) q⟩;unfold KW;refine⟨λd hd=>?_,λhi=>by rw[Ab,BI]at hi;exact hi⟩;rw[AI,Dd]at hd;cases e:z.cps[i]? with
 |none=>rw[e]at hd;cases hd
 | some c=>rw [e] at hd;cases hd;refine ⟨(Gv.mp e).1,λx H' y=>?_⟩;obtain ⟨rfl,c',e',rfl⟩:=y;rw [e] at e';cases e';exact ⟨Z',Le.refl _,hr,rfl⟩)
def af:Cq X (Bc .LtE) (λx y M Q=>GG x λi=>GG y λj=>Q (.bl (!decide (j.cps.toList<i.cps.toList))) M):=Gf.mono ZlO (by
 intro x y H Q;ext1⟨Z,dx,dy,M,Q2,hr,ax,ay,h,k⟩;obtain ⟨i,rfl,h1⟩:=Ea h;obtain ⟨j,rfl,q⟩:=Ea h1;exact ⟨i,j,ax,ay,k.b hr q⟩)
noncomputable def Jk:List D->Option (List Bool)
 |[]=>some []
 |.bl b::r=>(Jk r).map (b::·)
 |_::_=>none
theorem am:∀{ds:List D}{bs:List Bool},Jk ds=some bs->ds=bs.map D.bl
 |[],bs,h=>by cases h;rfl
 |.bl a::r,bs,h=>by
  change(Jk r).map (a::·)=_ at h;cases e:Jk r with
  |none=>rw[e]at h;cases h
  |some t=>rw[e]at h;cases h;rw[AU,<- am e]
 |.non::r,_,h | .int _::r,_,h | .str _::r,_,h | .tup _::r,_,h | .lst _::r,_,h | .dic _::r,_,h | .dct _::r,_,h | .ref _::r,_,h | .ty _::r,_,h=>by cases h
theorem qX:∀bs,Jk (bs.map D.bl)=some bs
 |[]=>rfl
 |b::r=>by
  show(Jk (r.map D.bl)).map (b::·)=_;rw[qX r];rfl
def Zll (bs:List Bool):(Bx bs.length).all (λi=>bs.getD i true)=bs.all id:=by
 induction bs with
 |nil=>rfl
 |cons b r ih=>rw[AO,EI,EV,QX,EV];congr 1
def tU (hc:X.calm=true):BW X (.builtin "all") (λxs M Q=>GH xs λx=>Cw (Bg M x) λds=>Cw (Jk ds) λbs=>Q (.bl (bs.all id)) M):=by
 intro Ad s U H xs us Q I r;ext1⟨Z,ds,M,Q2,hr,a,h,k⟩;obtain⟨x,rfl,h1⟩:=GV h;obtain⟨zs,e,h2⟩:=Cm h1;obtain⟨bs,e2,q⟩:=Cm h2;obtain⟨v,rfl,av⟩:=II a;obtain⟨p,ws,rfl,hs,a2⟩:=hr.rdL e av;obtain⟨u,rfl,ru⟩:=Ha r;cases(show u=AE p from ru);obtain⟨Bi,rv,pl,hz⟩:=I.list hs;have hzs:=am e2;have l1:=rv.length;have l2:=a2.length;have hzl:zs.length=bs.length:=by rw[hzs,Ab]
 have hsz:Bi.toArray.size=bs.length:=by simp;ext
 refine call_all_walkS (HS pl.isList ?_)
 have hlt:p<s.heap.objs.size:=by
  obtain⟨o,eo,_⟩:=pl.isList;exact Ar eo
 have hne:=A6 hlt;refine⟨s.heap.objs.size,[s.heap.objs.size,p],[s.heap.objs.size],_,Bi.toArray.size,_,_,λi=>bs.getD i true,rfl,(X1 (show X.A.in1.handled=none from I.ok.hd hc) s.heap.objs.size p hne Bi.toArray).toS,⟨⟨_,AC _ rfl,rfl,rfl⟩,?_⟩,?_,?_⟩
 .obtain⟨o,eo,c1,n,c2⟩:=pl.isList;exact⟨o,Ag _ eo,c1,n,c2⟩
 .intro i v s' Q' E' hv hq;have hi:=(Gv.mp hv).1;obtain⟨v',d',_,e1,q1,z1⟩:=VZ rv a2 i hi;rw[hzs,AI]at e1;cases e4:bs[i]? with
  |none=>rw[e4]at e1;cases e1
  |some b=>
   rw[e4]at e1;cases e1;cases(show v'=V.bl b from q1)
   have hb:v=Jt b:=by
    have h3:=z1;rw[AY hi,h3]at hv;exact(AZ hv).symm
   subst hb
   have hq':Q' b s':=by
    have:bs.getD i true=b:=by rw[Ct,e4];rfl
    have hq2:Q' (bs.getD i true) s':=hq;rw[this]at hq2;exact hq2
   exact DN hq'
 .intro s' mv;rw[hsz,Zll];obtain⟨m1,m2,m3,m4,m5⟩:=mv;obtain⟨h',g',d',t',o'⟩:=s';have e1:=m2;have e2:=m3;have e3:=m4;subst e1 e2 e3;refine⟨.bl _,H,I.kept λb o eb=>m1 b o (λhb=>?_) (Ag _ eb),rfl,k.b hr q⟩;have:b=s.heap.objs.size:=by simpa using hb
  rw[this]at eb;exact absurd (Ar eb) (EC _)
def Ev.of {α:Type}{ks:List α}{g f:α->D}{S:Mp->Prop}{caps:List (Str×Nat)}{te:DZ}{τ:GK}{M:Mp}{Q:List D->Mp->Prop}(hz:ks.length<=An)(hS:S M)(h:∀k∈ks,∀R:Ef,R (f k) M->te (MC τ caps (some (g k))) M R)(q:Q (ks.map f) M):Ev (ks.map g) S caps HA te τ M Q:=by
 refine⟨by rw[Ab];exact hz,λi ys M'=>M'=M/\ys=(ks.take i).map f,⟨rfl,rfl⟩,?_,?_,?_⟩
 .rintro i ys M' ⟨rfl,rfl⟩;exact⟨hS,by rw[Ab,A3];ext⟩
 .rintro i x ys M' hx ⟨rfl,rfl⟩;rw[AI]at hx;cases e:ks[i]? with
  |none=>rw[e]at hx;cases hx
  |some k=>rw[e]at hx;cases hx;unfold HA;dsimp only;rw[if_pos rfl];exact h k (AB e) _ ⟨rfl,by rw[Bb,e,AJ];rfl⟩
 .rintro ys M' ⟨rfl,rfl⟩;rw[Ab,Bm];exact q
end L3
namespace L2
open PySem PySem.Spec PyProof.Rows L3
end L2
namespace L3
open PySem PySem.Spec PyProof.Rows L2
unseal B3 Ij JQ Gd KN Gc Dg Cq Gb BW F0 Gz Ll HP EX
end L3
namespace L2
open PySem PySem.Spec PyProof.Rows L3
def Zgc (t:Dx)(n:Nat):(t.orStandIn n).led=t.led:=by
 unfold SetTable.orStandIn;split<;>rfl
def Zkw (t:Dx)(es:Array (Int×Ai))(h:Int)(x:Ai):(layNew t es h x).2.1.led=t.led:=by
 unfold layNew;split
 .next slot wd e=>
  show((t.put slot).1.orStandIn _).led=_;rw[Zgc];rfl
 .rfl
def Zhe (t)(es)(n):(Iu t es n).2.1.led=t.led:=by
 unfold Iu;split
 .next t' order e=>
  have e2:t'.led=t.led:=by
   unfold Pp Lb at e;cases q:N8 (EQ n-1) (es.map (·.1))with
   |none=>rw[q]at e;cases e
   |some o=>rw[q]at e;cases e;rfl
  dsimp only;split
  .exact e2
  .rfl
 .rfl
def ZeL (t)(es)(n)(h:t.plain=false):(Iu t es n).2.1.plain=false:=by
 unfold Iu;split
 .next t' order e=>
  have e2:t'.plain=t.plain:=by
   unfold Pp Lb at e;cases q:N8 (EQ n-1) (es.map (·.1))with
   |none=>rw[q]at e;cases e
   |some o=>rw[q]at e;cases e;rfl
  dsimp only;split
  .rw[<- h];exact e2
  .rfl
 .rfl
def Jm (w:BK)(es:List (Int×Ai)):Prop:=∀e∈es,∃x t,e=(FL w x,Ds x t)
noncomputable def Hb (es:List (Int×Ai)):List Str:=es.map λe=>strOf e.2
def CZ (w:BK)(h:CN)(a:Av)(ks:List Str)(led:Bool):Prop:=
 ∃o es ep t,h.get? a=some o/\o.ExactSet/\o.data=IM es ep t/\Jm w es.toList/\(Hb es.toList).Perm ks/\es.size<Bh/\t.fits es.size=true/\t.led=led/\(es.size≠0->t.plain=false)
def Jm.elems (h:Jm w es):ElemsOf (BC prog w) es:=λe he=>by
 obtain⟨x,t,rfl⟩:=h e he;exact⟨⟨x,by simp[BC,Ec],rfl⟩,rfl⟩
def qJ (h:Jm w es)(hx:x∉Hb es):es.findIdx? (λe=>(BC prog w).is x e.2)=none:=by
 rw[GZ];intro e he;obtain⟨y,t,rfl⟩:=h e he;cases q:(BC prog w).is x (Ds y t)with
 |false=>rfl
 |true=>
  have:y=x:=by simpa[BC,Ec]using q
  subst this;exact absurd (Ao.mpr ⟨_,he,rfl⟩) hx
def qK (h:Jm w es)(hx:x∈Hb es):∃j,es.findIdx? (λe=>(BC prog w).is x e.2)=some j:=by
 cases q:es.findIdx? (λe=>(BC prog w).is x e.2)with
 |some j=>exact⟨j,rfl⟩
 |none=>rw[GZ]at q;obtain⟨e,he,rfl⟩:=Ao.mp hx;obtain⟨y,t,rfl⟩:=h e he;have:=q _ he;simp[BC,Ec,strOf]at this
def stored {s:CN}(ho:s.get? a=some o)(hex:o.ExactSet)(hd:o.data=IM es ep t) :
  ∃o',(s.update a (Obj.putSet es1 t2)).get? a=some o'/\o'.ExactSet/\o'.data=IM es1 (ep+1) t2:=by
 have e:=putSet_of es1 t2 hd;refine⟨_,Ei _ ho ?_,?_,?_⟩
 .rw[e];obtain⟨h1,h2,h3⟩:=hex;simp[Obj.isFreed,h1]
 .rw[e];exact hex
 .rw[e]
def Ui {g:Bool->Sem Unit}(hg:∀b s₁ Q',Q' () s₁->Au 'm' A (g b) Q' E s₁)
  (ho:s.heap.get? a=some o) (hex:o.ExactSet) (hd:o.data=IM es ep t)
  (h1:Jm w es1.toList) (hp:(Hb es1.toList).Perm ks) (hsz:es1.size<Bh) (hfit:t2.fits es1.size=true) (hled:t2.led=led) (hpl:t2.plain=false)
  (hR:∀h',BM a s.heap h'->CZ w h' a ks led->R (some true) {s with heap:=h' }) :
  Au 'm' A (do
   storeSet a es1 t2
   if (!wd && t2.tooFull)=true then do
    g (Iu t2 es1 (DE es1.size)).2.2
    storeSet a (Iu t2 es1 (DE es1.size)).1 (Iu t2 es1 (DE es1.size)).2.1
    pure (some true)
   else pure (some true)) R E s:=by
 have hline:Bh<=An:=by decide
 obtain⟨o1,ho1,hex1,hd1⟩:=stored ho hex hd;refine Aa (DO ho hd ?_ (by ext));split
 .refine Aa (hg _ _ _ ?_);have hperm:=relayAll_perm t2 es1 (DE es1.size);have hfit3:=relayAll_fits t2 es1 (DE es1.size);have hled3:=Zhe t2 es1 (DE es1.size);have hpl3:=ZeL t2 es1 (DE es1.size) hpl
  have hlen:(Iu t2 es1 (DE es1.size)).1.size=es1.size:=by
   have:=hperm.length_eq;simpa using this
  obtain⟨o2,ho2,hex2,hd2⟩:=stored ho1 hex1 hd1;refine Aa (DO ho1 hd1 (Ae (hR _ ((Be _ _ _).trans (Be _ _ _)) ⟨o2,_,_,_,ho2,hex2,hd2,λe he=>h1 e (hperm.mem_iff.mp he),?_,by ext,by rw[hlen]at hfit3 ⊢;exact hfit3,by rw[hled3];exact hled,λ_=>hpl3⟩)) (by ext));exact(hperm.map _).trans hp
 .exact Ae (hR _ (Be _ _ _) ⟨o1,_,_,_,ho1,hex1,hd1,h1,hp,hsz,hfit,hled,λ_=>hpl⟩)
def qZ (hS:CZ w s.heap a ks led)(hn:ks.length+1<Bh)
  (hQ:∀b h',BM a s.heap h'->CZ w h' a (if x∈ks then ks else ks++[x]) led->Q b {s with heap:=h' }):Au 'm' A (IU a (.str x t) (FL w x)) Q E s:=by
 obtain⟨o,es,ep,tb,ho,hex,hd,hes,hp,hsz,hfit,hled,hpl⟩:_:=hS;unfold IU;refine B4 ?_;generalize hN:(99999:Nat)=N;rw[show(100000:Nat)=99999+1 from rfl,hN];rw[setAddHashedIn];refine Aa (A5 ho hd hfit ?_);dsimp only;rw[if_pos (byScan_of (knd:=BC prog w) (x:=.str x t) rfl hsz hes.elems)];refine Aa ?_;unfold setAddByScan;refine Aa (Hi (Aa (XR (knd:=BC prog w) (k:=x) (by simp[BC,Ec]) ho hd hfit hes.elems ?_)));by_cases hx:x∈ks
 .obtain⟨j,hj⟩:=qK (prog:=prog) hes (hp.mem_iff.mpr hx);rw[hj];refine Ae (Ae ?_);have z:=hQ false s.heap (CO _ _) (by rw[if_pos hx];exact⟨o,es,ep,tb,ho,hex,hd,hes,hp,hsz,hfit,hled,hpl⟩);exact z
 .rw[qJ (prog:=prog) hes (λh=>hx (hp.mem_iff.mp h))];dsimp only;have lp:=layNew_perm tb es (FL w x) (.str x t);have lf:=layNew_fits tb es (FL w x) (.str x t);have ll:=Zkw tb es (FL w x) (.str x t);generalize layNew tb es (FL w x) (.str x t)=L at lp lf ll ⊢;obtain⟨es1,t1,wd,gv⟩:=L;dsimp only at lp lf ll ⊢
  have hok1:Jm w es1.toList:=λe he=>by
   rcases Array.mem_push.mp (IF.mp (lp.mem_iff.mp he))with h|h
   .exact hes e (IF.mpr h)
   .exact⟨x,t,h⟩
  have hlen:es1.size=es.size+1:=by
   have:=lp.length_eq;simpa using this
  have hkl:(Hb es.toList).length=es.size:=by unfold Hb;rw[Ab,BI]
  have hkl2:=hp.length_eq
  have hp1:(Hb es1.toList).Perm (ks++[x]):=by
   have h2:(Hb es1.toList).Perm (Hb (es.push (FL w x,Ds x t)).toList):=lp.map _;refine h2.trans ?_;unfold Hb;rw[Qu,AJ];exact hp.append (Eg _)
  have gw:∀gv s₁ Q',Q' () s₁->Au 'm' A (match gv with | true=>Sy "set.scan.the-table-gave-way" |false=>pure ()) Q' E s₁:=λgv s₁ Q' h=>by
   cases gv with
   |true=>exact Hi h
   |false=>exact Ae h
  refine Aa (gw gv s _ ?_);split
  .rw[hashByValue_scannable 8 (x:=.str x t) rfl];refine Aa (Ae ?_);refine Ui (led:=led) gw ho hex hd hok1 hp1 (by ext) ?_ ?_ ?_ λh' sb hS=>?_
   .split
    .exact lf
    .exact SetTable.fits_plain_off lf
   .split
    .rw[ll];exact hled
    .show t1.led=led;rw[ll];exact hled
   .rfl
   .exact Ae (hQ true h' sb (by rw[if_neg hx];exact hS))
  .refine Aa (Ae ?_);refine Ui (led:=led) gw ho hex hd hok1 hp1 (by ext) ?_ ?_ ?_ λh' sb hS=>?_
   .rw[if_pos rfl];exact lf
   .rw[if_pos rfl,ll];exact hled
   .rw[if_pos rfl];exact G8.mpr (by assumption)
   .exact Ae (hQ true h' sb (by rw[if_neg hx];exact hS))
def ZiA (a)
  (h:Q₁ (.ref s.heap.objs.size) {s with heap:=s.heap.push {cls:=.type "set",dict:=none,data:=.set #[] 0 (.fresh 0 0 'c')} }) :
  D4 'm' A (.call (.builtin "set.__new__") ⟨[.type "set",a],[]⟩) (wants Q₁ E) s:=by
 refine cC ?_;show Au _ A.in1 (do checkBuiltinCall "set.__new__" ⟨[.type "set",a],[]⟩;N6 (.builtin "set.__new__" ⟨[.type "set",a],[]⟩)) _ _ s;refine Aa (Cn (PySem.F.newCall_set_1 a) (Ae ⟨Gh F.plain_set_new _,DK F.entry_set_new ?_⟩));rw[CY F.plain_set_new _];unfold Es.«set.__new__» SS;have hsub:=Lp;obtain⟨hp,g,d,tk,os⟩:=s;dsimp only;wp_walk;refine Dq (Ae ?_);dsimp only;simp only[newObj];refine Aa (wpAny_alloc (Ae ?_));exact Ae h
noncomputable def fm (xs:List Str):List Str:=xs.foldl (λks x=>if x∈ks then ks else ks++[x]) []
def xG (xs)(x:Str):fm (xs++[x])=if x∈fm xs then fm xs else fm xs++[x]:=by
 unfold fm;rw[Kk];rfl
def Zjb (xs:List Str):∀ks,(xs.foldl (λks x=>if x∈ks then ks else ks++[x]) ks).length<=ks.length+xs.length:=by
 induction xs with
 |nil=>intro ks;exact AL _
 |cons x xs ih=>
  intro ks;rw[DY,AO];refine A4 (ih _) ?_;split
  .ext
  .rw[Aq];simp only[Dr];ext
def VY (xs:List Str):(fm xs).length<=xs.length:=by
 have:=Zjb xs [];simpa[fm]using this
def CZ.moved (hS:CZ w s.heap S ks led)(hm:Moved wr G s s')(hn:S∉wr):CZ w s'.heap S ks led:=by
 obtain⟨o,es,ep,t,ho,C2⟩:=hS;exact⟨o,es,ep,t,hm.heap S _ hn ho,C2⟩
section
variable {St:Nat->As->Prop}
def Zld (W:WalksS prog w A.in1 I fp wr G n P St)(S:Av)(hSf:S∉fp)(xs:List Str)(hx:xs.length=n)
  (hval:∀i v (h:i<xs.length),P i v->∃t,v=.str xs[i] t) (hb:n+1<Bh) (led:Bool) :
  ∀k i s,n-i=k->i<=n->St i s ->
   CZ w s.heap S (fm (xs.take i)) led ->
   (∀s',Moved (S::wr) G s s'->CZ w s'.heap S (fm xs) led->R (.ok (.ret .none)) s') ->
   D4 'm' A (.builtin "set.update.loop" ⟨[.ref S,.ref I],[]⟩) R s:=by
 have hSw:S∉wr:=λh=>hSf (W.sub _ h);have hsub:∀b∈wr,b∈S::wr:=λb hb=>Ay _ hb;intro k;induction k with
 |zero=>
  intro i s hk hi hst hS hR;have hin:i=n:=by ext
  subst hin;refine DK F.entry_set_update_loop ?_;rw[CY F.plain_set_update_loop _];show Au _ A.in1 (IV (.ref I) >>= _) _ _ s;refine Aa (W.done s _ _ hst λs' hm=>?_);show Au _ A.in1 (ret Gp) _ _ s';rw[BR (by ext)]at hS;exact Ae (hR s' (hm.mono hsub) (hS.moved hm hSw))
 |succ k ih=>
  intro i s hk hi hst hS hR;have hlt:i<n:=by ext
  refine DK F.entry_set_update_loop ?_;rw[CY F.plain_set_update_loop _];show Au _ A.in1 (IV (.ref I) >>= _) _ _ s;refine Aa (W.item i s _ _ hlt hst λv s' hP hst' hm=>?_);obtain⟨t,rfl⟩:=hval i v (by ext) hP;have hS':=hS.moved hm hSw;show Au _ A.in1 (G6 [Ds xs[i] t] (setAdd S (.str xs[i] t)) >>= _) _ _ s';refine Aa (B4 ?_);unfold setAdd;refine B4 ?_;refine Aa ((BC prog w).pyHash (strKind_is _ _ _ _) ?_)
  have hroom:(fm (xs.take i)).length+1<Bh:=by
   have:=VY (xs.take i);rw[A3]at this;ext
  refine qZ hS' hroom λb h' hsb hS2=>?_;have e:xs.take (i+1)=xs.take i++[xs[i]]:=by rw[Ki (by ext)]
  rw[<- xG,<- e]at hS2;refine Ae ⟨Gh F.plain_set_update_loop _,ih (i+1) _ (by ext) hlt (W.frame _ s' _ _ hst' (Kc _) λb hb o e=>?_) hS2 λs'' hm'' hS''=>?_⟩
  .rw[hsb.2 b (λh:b=S=>hSf (by rw[<- h];exact hb))];exact e
  .refine hR s'' (Moved.trans W.gtrans ((hm.mono hsub).then_heap (Kc _) λb o hb e=>?_) hm'') hS'';rw[hsb.2 b (λh:b=S=>hb (by rw[h];exact Aw))];exact e
end
def qY (hg:h.get? a=some {cls:=.type "set",dict:=none,data:=.set #[] 0 (.fresh 0 0 led)})(e:led=led'):CZ w h a (fm ([]:List Str)) led':=by
 subst e;exact⟨_,#[],0,_,hg,⟨rfl,rfl,rfl⟩,rfl,λe he=>absurd he 'f',Eg _,by decide,rfl,rfl,λh=>absurd rfl h⟩
def PZ (ft:TypeCalled T newId initId)(hct:checkTypeCall T ⟨args,[]⟩=pure ())
  (hnew:D4 'm' A.in1 (.call (.builtin newId) ⟨.type T::args,[]⟩) (wants Q₁ E) s)
  (hini:∀obj s₁,Q₁ obj s₁->s₁.TypeIs obj T/\D4 'm' A.in1 (.call (.builtin initId) ⟨obj::args,[]⟩) (wants (λr s₂=>r=.none/\Q obj s₂) E) s₁) :
  Au 'm' A (Ix (.type T) args) Q E s:=by
 have f1:=ft.notType;have f2:=ft.canCreate;have f3:=ft.made;have f4:=ft.sub;have f5:=ft.init.lookup;obtain⟨c,tl,f6⟩:=ft.mro;refine NS (cC ?_);show Au _ _ (callAny (.type T) _) _ _ _;refine Ae ⟨Code.quiet_builtin _ 'k',DK F.entry_type_call ?_⟩;rw[Around.under_plain (weight_type_call_type T args []) rfl]
 repeat (any_goals (first | assumption | wp_step))
 refine FO hnew λr s₁ hr=>?_
 match r,hr with
 |.error e,hr=>exact hr
 |.ok (.ret obj),hr=>
  obtain⟨hT,hi⟩:=hini _ _ hr;have f7:=ft.init.bind obj
  repeat (any_goals (first | assumption | wp_step))
  refine FO hi λr₂ s₂ hr₂=>?_
  match r₂,hr₂ with
  |.error e,hr₂=>exact hr₂
  |.ok (.ret _),⟨rfl,hq⟩=>repeat (any_goals (first | assumption | wp_step))
set_option maxHeartbeats 3200000 in
def Zle {Q:As->Prop}(hh:A.handled=none)
  (hS:s.heap.get? S=some {cls:=.type "set",dict:=none,data:=.set #[] 0 (.fresh 0 0 led)}) (hl:s.heap.IsList l items) (hx:xs.length=items.size)
  (hi:∀i v (h:i<xs.length),items[i]? = some v->∃t,v=.str xs[i] t) (hb:items.size+1<Bh)
  (h:∀h' tk,CZ w h' S (fm xs) led->(∀b o,b≠S->s.heap.get? b=some o->h'.get? b=some o)->Q {s with heap:=h',toks:=tk}) :
  D4 'm' A (.call (.builtin "set.__init__") ⟨[.ref S,.ref l],[]⟩) (wants (λr s₂=>r=.none/\Q s₂) E) s:=by
 have hT:s.TypeIs (.ref S) "set":=⟨_,hS,rfl⟩;have hSlt:=Ar hS
 have ne:l≠S:=λe=>by
  subst e;obtain⟨o,ho,hc,-⟩:=hl;rw[hS]at ho;cases ho;exact absurd (show D0 "set" = D0 "list" from hc) 'g'
 refine codeAny_call_builtin F.called_set.init.plain F.entry_set_init (check_set_init_1 hT ?_);have hl0:=hl;obtain⟨⟨lc,ld,ldata,lsl⟩,hol,hcl,nl,hdl⟩:_:=hl;dsimp only at hcl hdl;subst hcl;subst hdl;have f1:=PySem.F.sub_list_set;have f2:=PySem.F.sub_list_frozenset;have f3:(D0 "list" == D0 "dict")=false:=by decide
 unfold Es.«set.__init__» noKeywords Ia;generalize hPI:UU=PI;wp_walk;subst hPI;refine HS hl0 (Aa (iT ?_));have hllt:=Ar hol
 refine Zld ((X1 (by simp[hh]) _ l (A6 hllt) items).toS) S (by simp[A6 hSlt,Bk ne]) xs hx (λi v hlt hv=>hi i v hlt hv) hb led (items.size-0) 0 _ (by ext) (Ej _)
  ⟨⟨_,AC _ rfl,rfl,rfl⟩,hl0.push _⟩ (qY (Ag _ hS) rfl) ?_
 intro s' hm hS';obtain⟨h',g',d',tk',os'⟩:=s';have eg:=hm.gens;have ed:=hm.drawn;have eo:=hm.os;subst eg;subst ed;subst eo;refine Ae (Ae ⟨rfl,h h' tk' hS' λb o hbS e=>hm.heap b o ?_ (Ag _ e)⟩);have:=Ar e;simp only[BD,AT,or_false,not_or];exact⟨hbS,A6 this⟩
def qH {prog:Bs}{w:BK}{A:CH}{E:Ai->As->Prop}{s:As}{l:Av}{items:Array Ai}{xs:List Str}{Q:Ai->As->Prop}
  (hh:A.handled=none) (hl:s.heap.IsList l items) (hx:xs.length=items.size) (hi:∀i v (h:i<xs.length),items[i]? = some v->∃t,v=.str xs[i] t) (hb:items.size+1<Bh)
  (h:∀h' tk,CZ w h' s.heap.objs.size (fm xs) 'c'->(∀b o,s.heap.get? b=some o->h'.get? b=some o)->Q (.ref s.heap.objs.size) {s with heap:=h',toks:=tk}) :
  Au 'm' A (Ix (.type "set") [.ref l]) Q E s:=by
 refine PZ F.called_set (PySem.F.typeCall_set_1 _) (ZiA (.ref l) (Q₁:=λobj s₁=>obj=.ref s.heap.objs.size/\s₁={s with heap:=s.heap.push {cls:=.type "set",dict:=none,data:=.set #[] 0 (.fresh 0 0 'c')} }) ⟨rfl,rfl⟩) ?_;rintro _ _ ⟨rfl,rfl⟩;refine⟨⟨_,AC _ rfl,rfl⟩,Zle (by simp[hh]) (AC _ rfl) (hl.push _) hx hi hb λh' tk hS' hk=>h h' tk hS' λb o e=>hk b o (A6 (Ar e)) (Ag _ e)⟩
def Wa:jE "set_iterator" "__next__" "set_iterator.__next__":=
 .of (owner:="set_iterator") (n:="__next__") (by rw[Jn,F1];kernel_rfl) 'k' 'k' 'k'
  (by first | exact .inl 'k' | exact .inr 'k') (by rw[jA];kernel_rfl)
def iu:Lw Wz "set_iterator.__next__" = some Es.«set_iterator.__next__»:=XZ (by kernel_rfl)
def ik (a):jD "set_iterator.__next__" ⟨[a],[]⟩:=by
 unfold jD;rw[signature?_of (id:="set_iterator.__next__") (n:=['_','_','t','x','e','n','_','_']) (o:=['r','o','t','a','r','e','t','i','_','t','e','s']) (by kernel_rfl) (show Pu.lookup (SE ['r','o','t','a','r','e','t','i','_','t','e','s'].reverse)=some KR by kernel_rfl)]
 kernel_rfl
def Zi4:Lw Wz "set.__iter__" = some Es.«frozenset.__iter__»:=JV (id':="frozenset.__iter__") (by kernel_rfl) rfl 'k' (by kernel_rfl)
theorem K0 :∀(l:List α) (i:Nat) (h:i<l.length),(l[i]::l.eraseIdx i).Perm l
 |x::xs,0,_=>Eg _
 |x::xs,i+1,h=>by
  have h':i<xs.length:=by simpa using h
  exact(PC x xs[i] _).trans ((K0 xs i h').cons x)
def ZgK (hn:n≠0)(h:∀i,i<n->∀d,Q i {s with drawn:=d}):Au M A (choose src n) Q E s:=
 λΓ p _=>⟨hn,h _ (QU _ (Nat.pos_of_ne_zero hn)) _⟩
def Zdw :∀n xs (s:As) (Q:List α->As->Prop),xs.length<=n->(∀ys d,ys.Perm xs->Q ys {s with drawn:=d})->Au M A (drawOrder n xs) Q E s:=by
 intro n;induction n with
 |zero=>
  intro xs s Q hl h;cases xs with
  |nil=>exact Ae (h [] s.drawn (Eg _))
  |cons x xs=>exact absurd hl (Nat.not_succ_le_zero _)
 |succ n ih=>
  intro xs s Q hl h;cases xs with
  |nil=>exact Ae (h [] s.drawn (Eg _))
  |cons x xs=>
   refine Aa (ZgK 'f' λi hi d=>?_);rw[Af hi];dsimp only;refine Aa (ih _ _ _ ?_ λys d' hp=>Ae (h _ d' ?_))
   .rw[GB hi];simp only[AO]at hl ⊢;ext
   .exact(hp.cons _).trans (K0 _ _ hi)
theorem xH (f):∀(fuel k:Nat) (left:List α) (out:Array α),left.length<=fuel->(Lr f fuel k left out).toList.Perm (out.toList++left)
 |0,k,[],out,_=>by unfold Lr;simp
 |fuel+1,k,left,out,h=>by
  unfold Lr;cases left with
  |nil=>simp
  |cons x xs=>
   have hi:f k%(x::xs).length<(x::xs).length:=QU _ 'f';rw[Af hi];dsimp only;refine(xH f fuel _ _ _ ?_).trans ?_
   .rw[GB hi];simp only[AO]at h ⊢;ext
   .rw[Qu,Bv];exact(Eg _).append (K0 _ _ hi)
def i3 (f)(xs:Array α):(Iv f xs).toList.Perm xs.toList:=by
 have:=xH f xs.size 0 xs.toList #[] 'f';simpa[Iv]using this
def Sv (w:BK)(h:CN)(I S p i:Nat)(ord:List Ai):Prop:=
  ∃(o so:Obj) (first:Ai) (es:Array (Int×Ai)) (ep:Nat) (t:Dx),h.get? I=some o/\o.cls=D0 "set_iterator"/\o.data=O7 #[first,.int i 0,.ref S,.int es.size 0,.int ep 0]/\h.get? S=some so/\so.data=IM es ep t/\t.fits es.size=true/\ord.length=es.size /\
    ((∃ (po:Obj) (js:List Nat) (c:Nat),first=AE p/\h.get? p=some po/\po.data=Data.seq (js.map λj:Nat=>DS j 0).toArray c/\ord.map some=js.map λj=>es[j]?.map (·.2))
   \/(∃sl tk,first=DS sl tk/\w.params.followText "set-order" = true/\ord=(Iv (w.params.setOrder S ep) es).toList.map (·.2))
   \/(∃ sl:Nat,first=DS sl 0/\w.params.followText "set-order" = false/\t.led=true/\es.size<=1/\ord=es.toList.map (·.2)/\(i=0->sl=0)/\(i≠0->∀ j,t.place[0]? = some j->sl=j+1)))
def Sv.typeIs {s:As}(h:Sv w s.heap I S p i ord):s.TypeIs (.ref I) "set_iterator":=by
 obtain⟨o,so,first,es,ep,t,ho,hc,-⟩:_:=h;exact⟨o,ho,hc⟩
def Sv.kept (x:Sv w h I S p i ord)(e:∀b∈[I,S,p],∀o,h.get? b=some o->h'.get? b=some o):Sv w h' I S p i ord:=by
 obtain⟨o,so,first,es,ep,t,ho,hc,hd,hso,hsd,hf,hl,m⟩:_:=x;refine⟨o,so,first,es,ep,t,e I 'f' _ ho,hc,hd,e S 'f' _ hso,hsd,hf,hl,?_⟩;rcases m with⟨po,js,c,m1,m2,m3⟩|m|m
 .exact .inl ⟨po,js,c,m1,e p 'f' _ m2,m3⟩
 .exact .inr (.inl m)
 .exact .inr (.inr m)
def rP (ho:s.heap.get? a=some o)(hd:o.data=.set es ep t)(hf:t.fits es.size=true)(h:Q es.size s) :
  Au 'm' A (I9 a) Q E s:=by
 unfold I9 UT;exact Aa (Aa (A5 ho hd hf (Ae (Ae h))))
def ie (ho:s.heap.get? a=some o)(hd:o.data=.set es ep t)(hf:t.fits es.size=true)(h:Q es s) :
  Au 'm' A (UT a) Q E s:=by
 unfold UT;exact Aa (A5 ho hd hf (Ae h))
def XI (ho:s.heap.get? a=some o)(hd:o.data=.set es ep t)(hf:t.fits es.size=true)(h:Q ep s) :
  Au 'm' A (iX a) Q E s:=by
 unfold iX;exact Aa (A5 ho hd hf (Ae h))
def Zdv (ho:s.heap.get? a=some o)(hd:o.data=.set es ep t)(hf:t.fits es.size=true)(h:Q (!(w.params.followText "set-order") && (!t.plain && decide (es.size > 1))) s) :
  Au 'm' A (setDrawn a) Q E s:=by
 unfold setDrawn IT;exact Aa (A5 ho hd hf (Aa (Aa (Dq (Ae (Ae h))))))
theorem iE :∀{es:List (Int×Ai)},Jm w es->Lx (es.map (·.2)) (Hb es)
 |[],_=>.nil
 |e::es,h=>by
  obtain⟨x,t,rfl⟩:=h e 'f';exact .cons x t (iE λe he=>h e (by simp[he]))
theorem wL {es:List (Int×Ai)}:∀(js:List Nat),(∀j∈js,j<es.length)->∃fs:List (Int×Ai),js.map (λj=>es[j]?)=fs.map some/\fs=js.filterMap λj=>es[j]?
 |[],_=>⟨[],rfl,rfl⟩
 |j::js,h=>by
  obtain⟨fs,h1,h2⟩:=wL js λk hk=>h k (by simp[hk]);have hj:=h j 'f';refine⟨es[j]::fs,?_,?_⟩
  .rw[AU,AU,h1,Af hj]
  .rw[Bq,Af hj,h2]
def bf (es:List (Int×Ai)):(Bx es.length).filterMap (λj=>es[j]?)=es:=by
 induction es with
 |nil=>rfl
 |cons e es ih=>rw[AO,EI,Bq];simp only[Fd,JO];rw[show(λj=>(e::es)[j]?) ∘ Nat.succ=λj=>es[j]? from by funext j;simp,ih]
set_option maxHeartbeats 1000000 in
def ZiI (hS:CZ w s.heap S ks 'c')
  (hQ:∀(h':CN) d (I p:Nat) (ord:List Ai),Sv w h' I S p 0 ord->I∉[S,p]->(∀b o,s.heap.get? b=some o->h'.get? b=some o)->(∀b∈[I,p],s.heap.get? b=none\/b=S)->(∃ys,ys.Perm ks/\Lx ord ys)->Q (.ref I) {s with heap:=h',drawn:=d}) :
  Au 'm' A (UU (.ref S)) Q E s:=by
 obtain⟨o,es,ep,t,ho,hex,hd,hes,hp,hsz,hfit,hled,hpl⟩:_:=hS;have hT:s.TypeIs (.ref S) "set":=⟨o,ho,hex.1⟩;refine Wv hT F.slot_set_iter (Cg F.slot_set_iter hT Zi4 ?_ (F.args_set_iter_1 _));unfold Es.«frozenset.__iter__»;refine Aa (Cn rfl ?_);refine Aa (rP ho hd hfit ?_);refine Aa (Zdv ho hd hfit ?_);have hle:es.size<4096:=hsz
 have none_at:∀b,s.heap.objs.size<=b->s.heap.get? b=none:=λb hb=>by
  cases hq:s.heap.get? b with
  |none=>rfl
  |some o'=>exact absurd (Ar hq) (jF.mpr hb)
 have hSlt:S<s.heap.objs.size:=Ar ho;by_cases c:(!(w.params.followText "set-order") && (!t.plain && decide (es.size > 1)))=true
 .rw[if_pos c];refine Aa (Zdw es.size (Bx es.size) _ _ 'f' λjs d hjs=>?_);have hjl:js.length=es.size:=by simpa using hjs.length_eq
  refine Aa (B7 ?_ (by simp only[sizeOk,AW,Ab];have:(4096:Nat)<=An:='g';ext));have hS1:(s.heap.push {cls:=D0 "tuple",dict:=none,data:=Data.seq (js.map λi:Nat=>L8 i).toArray}).get? S=some o:=Ag _ ho;refine Aa (XI hS1 hd hfit ?_);refine Aa (B7 (Ae ⟨_,rfl, "set_iterator",_,⟨_,AC _ rfl,rfl⟩,Wa.lookup,?_⟩));obtain⟨fs,f1,f2⟩:=wL (es:=es.toList) js λj hj=>by simpa using hjs.mem_iff.mp hj
  have fp:fs.Perm es.toList:=by
   rw[f2];have:=hjs.filterMap (λj=>es.toList[j]?);rw[show es.size=es.toList.length by simp,bf]at this;exact this
  have hfl:fs.length=es.size:=by simpa using fp.length_eq
  have fok:Jm w fs:=λe he=>hes e (fp.mem_iff.mp he);refine hQ _ d _ s.heap.objs.size (fs.map (·.2)) ⟨_,o,_,es,ep,t,AC _ rfl,rfl,rfl,Ag _ hS1,hd,hfit,by simpa using hfl,.inl ⟨_,js,_,rfl,Ag _ (AC _ rfl),rfl,?_⟩⟩ ?_ ?_ ?_ ⟨Hb fs,?_,iE fok⟩
  .have:=congrArg (Fm (Hz λe:Int×Ai=>e.2)) f1;rw[BB,BB]at this;rw[BB];refine Eq.trans ?_ (this.symm.trans ?_)
   .rfl
   .apply D6;intro j hj;simp
  .rw[GC];simp only[BD,AT,or_false,not_or];exact⟨Fi (EB hSlt),SI _⟩
  .intro b o' e;exact Ag _ (Ag _ e)
  .intro b hb;left
   rw[GC]at hb;simp only[BD,AT,or_false]at hb;exact none_at b (by ext)
  .exact(fp.map _).trans hp
 .rw[if_neg c];refine Aa (Ae ?_);refine Aa (XI ho hd hfit ?_);refine Aa (B7 (Ae ⟨_,rfl, "set_iterator",_,⟨_,AC _ rfl,rfl⟩,Wa.lookup,?_⟩))
  have side:s.heap.objs.size∉[S,S]/\(∀b∈[s.heap.objs.size,S],s.heap.get? b=none\/b=S):=by
   refine⟨by simp only[BD,AT,or_false,not_or];exact⟨Fi hSlt,Fi hSlt⟩,λb hb=>?_⟩;simp only[BD,AT,or_false]at hb;rcases hb with rfl|rfl
   .exact .inl (none_at _ (AL _))
   .exact .inr rfl
  cases ft:w.params.followText "set-order" with
  |true=>
   have pp:=i3 (w.params.setOrder S ep) es;have pl:(Iv (w.params.setOrder S ep) es).toList.length=es.size:=by simpa using pp.length_eq
   exact hQ _ s.drawn _ S ((Iv (w.params.setOrder S ep) es).toList.map (·.2)) ⟨_,o,_,es,ep,t,AC _ rfl,rfl,rfl,Ag _ ho,hd,hfit,by rw[Ab];exact pl,.inr (.inl ⟨_,_,rfl,ft,rfl⟩)⟩ side.1 (λb o' e=>Ag _ e) side.2 ⟨_,(pp.map _).trans hp,iE λe he=>hes e (pp.mem_iff.mp he)⟩
  |false=>
   have h1:es.size<=1:=by
    rcases Hn 1 es.size with h|h
    .have hq:=hpl (by ext);rw[ft,hq]at c;simp at c;ext
    .exact h
   rw[ft]at hled;exact hQ _ s.drawn _ S (es.toList.map (·.2)) ⟨_,o,_,es,ep,t,AC _ rfl,rfl,rfl,Ag _ ho,hd,hfit,by simp,.inr (.inr ⟨0,rfl,ft,hled,h1,rfl,λ_=>rfl,λh=>absurd rfl h⟩)⟩ side.1 (λb o' e=>Ag _ e) side.2 ⟨_,hp,iE hes⟩
def i8 {prog:Bs}{w:BK}{A:CH}{E:Ai->As->Prop}{s:As}{a:Av}{o:Obj}{es:Array (Int×Ai)}{ep sl i:Nat}{t:Dx}{Q:Option (Ai×Nat)->As->Prop}(ho:s.heap.get? a=some o)(hd:o.data=.set es ep t)(hf:t.fits es.size=true)
  (ft:w.params.followText "set-order" = true) (h:Q (((Iv (w.params.setOrder a ep) es)[i]?).map λe=>(e.2,sl)) s):Au 'm' A (WC a sl i ep) Q E s:=by
 unfold WC IT;refine Aa (A5 ho hd hf ?_);refine Aa (Aa (Dq (Ae ?_)));have e1:(Ax prog w).w.params.followText "set-order" = true:=ft;dsimp only;rw[if_pos e1];rw[if_neg 'f'];unfold setWalk IT;refine Aa (Aa (A5 ho hd hf ?_));refine Aa (Aa (Dq (Ae ?_)));dsimp only;rw[if_pos e1];exact Aa (Dq (Ae (Ae h)))
def i7 {prog:Bs}{w:BK}{A:CH}{E:Ai->As->Prop}{s:As}{a:Av}{o:Obj}{es:Array (Int×Ai)}{ep sl i:Nat}{t:Dx}{Q:Option (Ai×Nat)->As->Prop}(ho:s.heap.get? a=some o)(hd:o.data=.set es ep t)(hf:t.fits es.size=true)
  (ft:w.params.followText "set-order" = false) (hl:t.led=true) (h1:es.size<=1) (h:Q (match es[Dc t.place sl]?,t.place[Dc t.place sl]? with | some (_,x),some j=>some (x,j+1) | _,_=>none) s):Au 'm' A (WC a sl i ep) Q E s:=by
 unfold WC IT;refine Aa (A5 ho hd hf ?_);refine Aa (Aa (Dq (Ae ?_)));have e1:(Ax prog w).w.params.followText "set-order" = false:=ft;dsimp only;rw[if_neg (by rw[e1];simp)];split
 .next hc=>
  have h':(!t.plain && decide (es.size > 1))=true:=hc;simp at h';ext
 .refine Aa ?_;show Au _ A (if (!t.led && !es.isEmpty)=true then unsupported "set:maker-not-led" else pure ()) _ E s;rw[if_neg (by rw[hl];simp)];exact Ae (Ae h)
def ZkQ (xs)(j)(h:xs.size=0):Dc xs j=0:=by
 have:=Kx h;subst this;rfl
def ZkP (k):Dc #[k] 0=0:=by
 simp[Dc,Ly]
def ZmR (k):Dc #[k] (k+1)=1:=by
 simp[Dc,Ly]
def Xi {s:CN}{I:Av}{o:Obj}{vs:Array Ai}(ho:s.get? I=some o)(hc:o.cls=D0 "set_iterator")(hd:o.data=O7 vs)(k)(x) :
  ∃o',(s.update I (Obj.mapFields (·.setIfInBounds k x))).get? I=some o'/\o'.cls=D0 "set_iterator"/\o'.data=O7 (vs.setIfInBounds k x):=
 ⟨_,Ei _ ho (Obj.isFreed_of_fields (QZ hd _)),(Obj.cls_mapFields ..).trans hc,QZ hd _⟩
set_option maxHeartbeats 2000000 in
def z8 {prog:Bs}{w:BK}{A:CH}{E:Ai->As->Prop}{s:As}{I S p i:Nat}{ord:List Ai}{Q:Option Ai->As->Prop}(hit:Sv w s.heap I S p i ord)(hI:I∉[S,p])(hi:i<ord.length)
  (hQ:∀h',Sv w h' I S p (i+1) ord->BM I s.heap h'->Q (some ord[i]) {s with heap:=h' }):Au 'm' A (IV (.ref I)) Q E s:=by
 obtain⟨o,so,first,es,ep,t,ho,hc,hd,hso,hsd,hf,hl,m⟩:_:=id hit;have hIS:S≠I:=λe=>hI (by simp[e]);have hIp:p≠I:=λe=>hI (by simp[e]);unfold IV;refine Aa (wpAny_attempt (Is (name:=Al "__next__") hit.typeIs Wa (Cg Wa hit.typeIs iu ?_ (ik _))));unfold Es.«set_iterator.__next__»;refine Aa (Cn (a:=(AE I,[])) rfl ?_);refine Aa (iU ho hd ?_);dsimp only;refine Aa (ie hso hsd hf ?_);rw[if_neg 'f'];rcases m with⟨po,js,c,rfl,hpo,hpd,hmap⟩|⟨sl,tk,rfl,ft,rfl⟩|⟨sl,rfl,ft,hled,h1,rfl,z0,z1⟩
 .have hjl:js.length=ord.length:=by
   have:=congrArg DC hmap;simpa using this.symm
  have hat:∃e,es[js[i]'(by ext)]? = some e/\e.2=ord[i]:=by
   have h2:=congrArg (λl:List (Option Ai)=>l[i]?) hmap;try dsimp only at h2
   rw[AI,AI,Af hi,Af (show i<js.length by ext)]at h2;simp only[FH,IA]at h2;cases q:es[js[i]'(by ext)]? with
   |none=>rw[q]at h2;cases h2
   |some e=>rw[q]at h2;exact⟨e,rfl,(AZ h2).symm⟩
  obtain⟨e,he,hev⟩:=hat
  dsimp only;refine Aa (NR hpo hpd ?_);dsimp only
  have g1:((js.map λj:Nat=>DS j 0).toArray)[(i:Int).toNat]? = some (.int (js[i]'(by ext):Nat) 0):=by
   rw[BH,D7,AI,Af (show i<js.length by ext)];rfl
  rw[g1];dsimp only;refine Aa ?_;unfold setNextDrawn;refine Aa (A5 hso hsd hf ?_);dsimp only;rw[if_neg 'f',BH,he];refine Ae ?_;refine Aa (Dt ho hd 'f' (Ae ⟨_,rfl,Ae ?_⟩));rw[hev];obtain⟨o',ho',hc',hd'⟩:=Xi ho hc hd 1 (L8 ((i:Int)+1));exact hQ _ ⟨o',so,_,es,ep,t,ho',hc',hd',(A9 _ _ (Bk hIS)).trans hso,hsd,hf,hl,.inl ⟨po,js,c,rfl,(A9 _ _ (Bk hIp)).trans hpo,hpd,hmap⟩⟩ (Be ..)
 .dsimp only;refine Aa (i8 hso hsd hf ft ?_);have hi':i<(Iv (w.params.setOrder S ep) es).size:=by simpa using hi
  rw[BH i,BH ep,AY hi'];dsimp only[Hz];refine Aa (Dt ho hd 'f' ?_);obtain⟨o',ho',hc',hd'⟩:=Xi ho hc hd 0 (L8 (sl.toNat:Int));refine Aa (Dt (s:={s with heap:=_}) ho' hd' 'f' (Ae ⟨_,rfl,Ae ?_⟩));obtain⟨o2,ho2,hc2,hd2⟩:=Xi ho' hc' hd' 1 (L8 ((i:Int)+1));have z:=hQ _ ⟨o2,so,_,es,ep,t,ho2,hc2,hd2,(A9 _ _ (Bk hIS)).trans ((A9 _ _ (Bk hIS)).trans hso),hsd,hf,hl,.inr (.inl ⟨_,_,rfl,ft,rfl⟩)⟩ ((Be ..).trans (Be ..));rw[JT,Ol]at z;exact z
 .dsimp only;refine Aa (i7 hso hsd hf ft hled h1 ?_);have hi':i<es.size:=by simpa using hi
  have i0:i=0:=by ext
  subst i0;have e0:=z0 rfl;subst e0
  have hps:t.place.size=es.size:=by
   unfold EK at hf;simp at hf;exact hf.1
  have hs1:es.size=1:=by ext
  obtain⟨k,hk⟩:∃k,t.place=#[k]:=by
   have:t.place.toList.length=1:=by simp[hps,hs1]
   obtain⟨k,hk⟩:=Nz.mp this;exact⟨k,by rw[<- IE (xs:=t.place),hk]⟩
  rw[hk,show((0:Nat):Int).toNat=0 from rfl,ZkP,AY hi'];try dsimp only
  try rw[show(#[k]:Array Nat)[0]? = some k from rfl]
  try dsimp only
  refine Aa (Dt ho hd 'f' ?_);obtain⟨o',ho',hc',hd'⟩:=Xi ho hc hd 0 (L8 ((k+1:Nat):Int));refine Aa (Dt (s:={s with heap:=_}) ho' hd' 'f' (Ae ⟨_,rfl,Ae ?_⟩));obtain⟨o2,ho2,hc2,hd2⟩:=Xi ho' hc' hd' 1 (L8 (((0:Nat):Int)+1));have z:=hQ _ ⟨o2,so,_,es,ep,t,ho2,hc2,hd2,(A9 _ _ (Bk hIS)).trans ((A9 _ _ (Bk hIS)).trans hso),hsd,hf,hl,.inr (.inr ⟨k+1,rfl,ft,hled,h1,rfl,λh=>absurd h (by ext),λ_ j hj=>by rw[hk]at hj;cases hj;rfl⟩)⟩ ((Be ..).trans (Be ..));rw[JT,Ol]at z;exact z
def qP {prog:Bs}{w:BK}{A:CH}{E:Ai->As->Prop}{s:As}{Q:Option Ai->As->Prop}{R:Fin->As->Prop}(hh:A.handled=none)
  (hQ:∀h',(∀b o,s.heap.get? b=some o->h'.get? b=some o)->Q none {s with heap:=h' }) :
  Au 'm' A.in1 (do raiseNew (<- newExc (.type "StopIteration") [])) R
   (λe s'=>Au 'm' A (do if <- isInstance e (.type "StopIteration")then pure none else throw e) Q E s') s:=by
 refine Aa ?_;simp only[newExc,newTuple];refine Aa (B7 ?_ (by size_fits));refine Aa (Cn (by first | rfl | (simp only[firstArgMember];rfl)) ?_);refine B7 ?_ (by size_fits);simp only[raiseNew];refine Aa (wpAny_handled ?_);rw[show A.in1.handled=none from hh];refine Aa (Ae (wpAny_throw ?_));refine Aa (Ir ⟨_,AC _ rfl,rfl⟩ isSubtype_stop ?_);exact Ae (hQ _ λb o e=>Ag _ (Ag _ e))
set_option maxHeartbeats 2000000 in
def z7 {prog:Bs}{w:BK}{A:CH}{E:Ai->As->Prop}{s:As}{I S p:Nat}{ord:List Ai}{Q:Option Ai->As->Prop}(hh:A.handled=none)(hit:Sv w s.heap I S p ord.length ord)
  (hQ:∀h',(∀b o,b≠I->s.heap.get? b=some o->h'.get? b=some o)->Q none {s with heap:=h' }):Au 'm' A (IV (.ref I)) Q E s:=by
 obtain⟨o,so,first,es,ep,t,ho,hc,hd,hso,hsd,hf,hl,m⟩:_:=id hit;unfold IV;refine Aa (wpAny_attempt (Is (name:=Al "__next__") hit.typeIs Wa (Cg Wa hit.typeIs iu ?_ (ik _))));unfold Es.«set_iterator.__next__»;refine Aa (Cn (a:=(AE I,[])) rfl ?_);refine Aa (iU ho hd ?_);dsimp only;refine Aa (ie hso hsd hf ?_);rw[if_neg 'f'];rcases m with⟨po,js,c,rfl,hpo,hpd,hmap⟩|⟨sl,tk,rfl,ft,rfl⟩|⟨sl,rfl,ft,hled,h1,rfl,z0,z1⟩
 .have hjl:js.length=ord.length:=by
   have:=congrArg DC hmap;simpa using this.symm
  dsimp only;refine Aa (NR hpo hpd ?_);dsimp only
  have g1:((js.map λj:Nat=>DS j 0).toArray)[(ord.length:Int).toNat]? = none:=by
   rw[BH,D7,AI,BA (by ext)];rfl
  rw[g1];dsimp only;refine Aa (Dt ho hd 'f' ?_);obtain⟨o',ho',hc',hd'⟩:=Xi ho hc hd 0 (L8 0);refine Aa (Dt (s:={s with heap:=_}) ho' hd' 'f' ?_);exact qP hh λh' k=>hQ h' λb o hb e=>k b o ((A9 _ _ (Bk hb)).trans ((A9 _ _ (Bk hb)).trans e))
 .dsimp only;refine Aa (i8 hso hsd hf ft ?_);rw[BH (DC _),BH ep,D1 'f'];dsimp only[Hz];refine Aa (Dt ho hd 'f' ?_);exact qP hh λh' k=>hQ h' λb o hb e=>k b o ((A9 _ _ (Bk hb)).trans e)
 .dsimp only;refine Aa (i7 hso hsd hf ft hled h1 ?_)
  have hps:t.place.size=es.size:=by
   unfold EK at hf;simp at hf;exact hf.1
  have none_there:es[Dc t.place ((sl:Int)).toNat]? = none:=by
   rcases Hn 0 es.size with h|h
   .have hs1:es.size=1:=by ext
    obtain⟨k,hk⟩:∃k,t.place=#[k]:=by
     have:t.place.toList.length=1:=by simp[hps,hs1]
     obtain⟨k,hk⟩:=Nz.mp this;exact⟨k,by rw[<- IE (xs:=t.place),hk]⟩
    have:=z1 (by rw[Ab,BI];ext) k (by rw[hk];rfl);subst this;rw[hk,BH,ZmR];exact D1 (by ext)
   .rw[ZkQ _ _ (by ext)];exact D1 (by ext)
  rw[none_there];dsimp only;refine Aa (Dt ho hd 'f' ?_);exact qP hh λh' k=>hQ h' λb o hb e=>k b o ((A9 _ _ (Bk hb)).trans e)
def ib:jE "set_iterator" "__iter__" "set_iterator.__iter__":=
 .of (owner:="set_iterator") (n:="__iter__") (by rw[Jn,F1];kernel_rfl) 'k' 'k' 'k'
  (by first | exact .inl 'k' | exact .inr 'k') (by rw[jA];kernel_rfl)
def ZeY:Lw Wz "set_iterator.__iter__" = some Es.«dict_keyiterator.__iter__»:=JV (id':="dict_keyiterator.__iter__") (by kernel_rfl) rfl 'k' (by kernel_rfl)
def ZgH (a):jD "set_iterator.__iter__" ⟨[a],[]⟩:=by
 unfold jD;rw[signature?_of (id:="set_iterator.__iter__") (n:=['_','_','r','e','t','i','_','_']) (o:=['r','o','t','a','r','e','t','i','_','t','e','s']) (by kernel_rfl) (show Pu.lookup (SE ['r','o','t','a','r','e','t','i','_','t','e','s'].reverse)=some KR by kernel_rfl)]
 kernel_rfl
def Ys (hh:A.handled=none)(hI:I∉[S,p]) :
  WalksS prog w A I [I,S,p] [I] (λa b=>b=a) ord.length (λi v=>ord[i]? = some v) (λi s=>Sv w s.heap I S p i ord) where
 sub:=λb hb=>by simp at hb;simp[hb]
 grefl:=λ_=>rfl
 gtrans:=λa b c h1 h2=>h2.trans h1
 frame:=λi s h' tk hst _ hk=>hst.kept hk
 item:=λi s Q E hi hst hQ=>z8 hst hI hi λh' hst' sb=>hQ _ _ (Af hi) hst' ⟨λb o hb e=>by rw[sb.2 b (by simpa using hb)];exact e,rfl,rfl,rfl,AL _⟩
 done:=λs Q E hst hQ=>z7 hh hst λh' hk=>hQ _ ⟨λb o hb e=>hk b o (by simpa using hb) e,rfl,rfl,rfl,AL _⟩
 self:=λi s Q E hst hQ=>Wv hst.typeIs ib (Cg ib hst.typeIs ZeY (by
  show Au _ _ (ret (.ref I)) _ _ s;exact Ae ⟨_,rfl, "set_iterator",_,hst.typeIs,Wa.lookup,hQ⟩) (ZgH _))
def zG:∀{vs:List Ai}{ys:List Str},Lx vs ys->vs.length=ys.length:=λh=>by
 induction h with
 |nil=>rfl
 |cons y t h ih=>simp[ih]
def ZfG:splitId "set.__len__" = some ("set", "__len__"):=by kernel_rfl
def va:NT (.type "set") "__len__" = pure (some (.builtin "set.__len__")):=by rw[Jn,F1];kernel_rfl
def ZkV (hc:c=true)(h:Au M A a Q E s):Au M A (if c=true then a else b) Q E s:=by
 rw[if_pos hc];exact h
set_option maxHeartbeats 2000000 in
def Zi5 (hh:A.handled=none)(hS:CZ w s.heap S ks 'c')
  (hQ:∀(h':CN) d tk vs ys,ys.Perm ks->Lx vs ys->(∀b o,s.heap.get? b=some o->h'.get? b=some o)->Q vs {s with heap:=h',drawn:=d,toks:=tk}) :
  Au 'm' A (collect (.ref S)) Q E s:=by
 have hSlt:S<s.heap.objs.size:=by obtain⟨o,es,ep,t,ho,-⟩:=hS;exact Ar ho
 unfold collect;refine Aa (iT (DK F.entry_proto_collect ?_));rw[CY F.plain_proto_collect _];show Au _ A.in1 (QS [] >>= λl=>N6 (.builtin "list.__iadd__" ⟨[l,.ref S],[]⟩)) _ _ s;refine Aa (B7 ?_);refine Ae ⟨Gh F.plain_list_iadd _,DK F.entry_list_iadd ?_⟩;rw[CY F.plain_list_iadd _];show Au _ A.in1 (Fu (.ref s.heap.objs.size) (.ref S) (.ref s.heap.objs.size)) _ _ _
 have hS1:CZ w (s.heap.push {cls:=.type "list",data:=.seq ([]:List Ai).toArray}) S ks 'c':=by
  obtain⟨o,es,ep,t,ho,C2⟩:=hS;exact⟨o,es,ep,t,Ag _ ho,C2⟩
 have hL:(s.heap.push {cls:=.type "list",data:=.seq ([]:List Ai).toArray}).get? s.heap.objs.size=some {cls:=.type "list",data:=.seq ([]:List Ai).toArray}:=AC _ rfl
 have hT:SF {s with heap:=s.heap.push {cls:=.type "list",data:=.seq ([]:List Ai).toArray} } (.ref S) "set":=by
  obtain⟨o,es,ep,t,ho,hex,-⟩:_:=hS1;exact⟨o,ho,hex.1⟩
 unfold Fu;refine Aa (FE hT ?_)
 rw [if_neg (by
  have:Km (.ref s.heap.objs.size) (.ref S)=false:=by simp[Km,Fi hSlt]
  rw [this];decide)]
 refine Aa (ZiI hS1 λh' d I p ord hit hIn hk hfr hord=>?_)
 have hT':SF {s with heap:=h',drawn:=d} (.ref S) "set":=by
  obtain⟨o,ho,hc⟩:=hT;exact⟨o,hk _ _ ho,hc⟩
 refine Aa (B4 ?_);unfold dH;refine Aa (cA hT' va ?_);dsimp only;rw[ZfG];dsimp only;refine Aa (Ir hT' Lp ?_);rw[if_neg 'g'];refine ZkV (by kernel_rfl) ?_
 .refine Aa (FE hT' (Ae ?_))
  show Au _ A.in1 (Sy "list.extend.makes-room" >>= λ_=>dG (.ref s.heap.objs.size) >>= λ_ =>
   N6 (.builtin "list.extend.loop" ⟨[.ref s.heap.objs.size,.ref I,.ref s.heap.objs.size],[]⟩)) _ _ _
  refine Aa (Hi ?_);have hL1:=hk _ _ hL;refine Aa ?_;show Au _ A.in1 (updateSeq s.heap.objs.size (·.push .none) >>= λ_=>updateSeq s.heap.objs.size (·.pop)) _ _ _;refine Aa (bZ hL1 rfl ?_);have hL2:=Ei (H9 (·.push Gp)) hL1 rfl;refine bZ hL2 rfl ?_;have hL3:=Ei (H9 (·.pop)) hL2 rfl
  have hnot:∀b∈[I,p],s.heap.objs.size≠b:=λb hb e=>by
   rcases hfr b hb with h|h
   .rw[<- e]at h;rw[hL]at h;cases h
   .rw[h]at e;exact Fi hSlt e
  have hLn:s.heap.objs.size∉[I,S,p]:=by
   simp only[BD,AT,or_false,not_or];exact⟨hnot I 'f',Fi hSlt,hnot p 'f'⟩
  have oth:∀b o,b≠s.heap.objs.size->h'.get? b=some o->((h'.update s.heap.objs.size (H9 (·.push Gp))).update s.heap.objs.size (H9 (·.pop))).get? b=some o:=
   λb o hb e=>(A9 _ _ (Bk hb)).trans ((A9 _ _ (Bk hb)).trans e)
  obtain⟨ys,hy1,hy2⟩:=hord
  have hol:ord.length<=An:=by
   obtain⟨o,es,ep,t,ho,hex,hd,hes,hp,hsz,-⟩:_:=hS;have l1:=hy1.length_eq;have l2:=hp.length_eq;have l3:(Hb es.toList).length=es.size:=by unfold Hb;rw[Ab,BI]
   have l4:=(zG hy2).symm;have:Bh<=An:=by decide
   ext
  refine Ae ⟨Gh F.plain_extend_loop _,codeAny_extend_loopS (Ys (by simp[hh]) hIn) ?_ _ hLn _ ord.length 0 _ _ _ rfl (Ej _) (hit.kept λb hb o e=>?_) hL3 (ItemsOf.nil _) λs' acc' c' hm hS' hacc=>?_⟩
  .exact hol
  .exact oth b o (λh=>hLn (h ▸ hb)) e
  .show Au _ A (load s.heap.objs.size >>= _) _ _ s';refine Aa (wpAny_load hS' ?_)
   have e:acc'.toList=ord:=by
    apply FM;intro j;rcases Hn j acc'.size with h|h
    .rw[Dd,AY h];exact(hacc.2 j _ (AY h)).symm
    .rw[BA (by simpa using h),BA (by rw[<- hacc.1];exact h)]
   obtain⟨h2,g2,d2,tk2,os2⟩:=s';have eg:=hm.gens;have ed:d2=d:=hm.drawn;have eo:os2=s.os:=hm.os;subst eg;subst ed;subst eo;refine Ae ?_;rw[e];refine hQ h2 d2 tk2 ord ys hy1 hy2 λb o e=>?_;have hb:=A6 (Ar e);refine hm.heap b o ?_ (oth b o hb (hk b o (Ag _ e)));simp only[BD,AT,or_false,not_or];refine⟨hb,λe2=>?_⟩;rcases hfr I 'f'with h|h
   .rw[<- e2,Ag _ e]at h;cases h
   .exact hIn (by simp[h])
def gp (hh:A.handled=none)(hS:CZ w s.heap S ks 'c')(h64:ks.length<64)
  (hQ:∀(h':CN) d tk (L:Av) (out:List Ai) (c:Nat) (ys:List Str),s.heap.get? L=none->S<L->h'.get? L=some (seqObj "list" out.toArray c)->Lx out ys->ys.Perm ks->Lq ys=true->(∀b o,s.heap.get? b=some o->h'.get? b=some o)->Q (.ref L) {s with heap:=h',drawn:=d,toks:=tk}) :
  Au 'm' A (Ix (.builtin "sorted") [.ref S]) Q E s:=by
 refine Calls.call_function_entry kind_sorted plain_sorted entry_sorted (args_sorted1 _) ?_;unfold Es.«sorted»;refine Aa (Ae ?_);refine Aa (Zi5 (by simp[hh]) hS λh1 d tk vs ys hy1 hy2 hk=>?_)
 have hvl:vs.length<64:=by
  have l1:=zG hy2;have l2:=hy1.length_eq;ext
 have hSL:S<h1.objs.size:=by
  obtain⟨o,es,ep,t,ho,-⟩:=hS;exact Ar (hk _ _ ho)
 refine Aa (wpAny_newList ?_);have hoL:(h1.push (seqObj "list" vs.toArray 0)).get? h1.objs.size=some (seqObj "list" vs.toArray 0):=AC _ rfl
 have hfresh:s.heap.get? h1.objs.size=none:=by
  cases hq:s.heap.get? h1.objs.size with
  |none=>rfl
  |some o=>exact absurd (Ar (hk _ _ hq)) (EC _)
 refine Aa (B4 (Cg slot_list_sort ⟨_,hoL,rfl⟩ entry_list_sort (list_sort_treeK strKind_oneLt hoL hy2.keysOf (λv₁ v₂ C2 e=>keyKind_strs (by rw[<- e];exact hy2)) hvl λst' a1 a2=>⟨_,rfl,?_⟩) (args_list_sort _)));obtain⟨ss',b1,b2,b3⟩:=sorted_out_str hy2 a1 a2;obtain⟨c,hc⟩:=sortedHeap_at hoL;refine Ae ⟨_,rfl,hQ _ d tk _ _ c ss' hfresh hSL (by rw[IE];exact hc) b1 (b2.trans hy1) b3 λb o e=>?_⟩;have hlt:=Ar (hk _ _ e);rw[sortedHeap_old (A6 hlt) (by rw[size_push'];exact EB hlt),Heap.get?_push_ne _ _ _ (A6 hlt)];exact hk _ _ e
def AX.draw (I:AX X Ad U H s)(d:Drawn):AX X Ad U H {s with drawn:=d}:=
 ⟨I.ok,I.os,I.bare,I.base,I.loc,I.cell,I.free,I.freeC,I.pin,I.hok,I.len,I.fzd⟩
def rB:∀{vs:List Ai}{ys:List Str},Lx vs ys->BO (ys.map V.str) vs:=λh=>by
 induction h with
 |nil=>exact .nil
 |cons y t h ih=>exact .cons ⟨t,rfl⟩ ih
def S9 (vs:List V)(k:V->Prop):Prop:=match vs with | [x]=>k x | _=>False
def pS {vs:List V}{k:V->Prop}(h:S9 vs k):∃x,vs=[x]/\k x:=by
 cases vs with
 |nil=>cases h
 |cons x t=>cases t with
  |nil=>exact⟨x,rfl,h⟩
  |cons y u=>cases h
def sX (K:Ac)(Q:VK)(x:V)(H1:Hp):Prop:=
 ∃p xs,x=.ref p/\F4 K H1 p (xs.map V.str)/\xs.length+1<Bh/\(fm xs).length<64/\∀l ys,H1 l=none->ys.Perm (fm xs)->Lq ys=true->Q (.ref l) (CI H1 l (.lst (ys.map V.str)))
def ju (K:Ac)(ta:TE):TE:=λU H Q=>ta U H (sX K Q)
def Zhl {e:BY}{ta:TE}{p1 p2 pos pos2:Pos}(hc:X.calm=true)(ha:PE X e ta)(hm1:X.mg "sorted" = none)(hm2:X.mg "set" = none)(hg1:autoParam (Gl X "sorted") BV)(hg2:autoParam (Gl X "set") BV)
  (he:autoParam (Ap [e] X.env=(false,eval e X.env)::Ap [] X.env) BV) :
  PE X (.Call (.Name "sorted" p1) [.Call (.Name "set" p2) [e] [] pos2] [] pos) (ju X.K ta):=by
 intro Ad s U H Q I h;refine Cb (P4 I hg1 hm1 (u:=.builtin "sorted") rfl ?_);refine E9 ?_ rfl rfl;show Au _ _ (WA ((false,eval (.Call (.Name "set" p2) [e] [] pos2) X.env)::B5 pos (Ap [] X.env))) _ _ s;refine Gs ?_;refine Cb (P4 I hg2 hm2 (u:=.type "set") rfl ?_);refine BG (Dp (fU ha fM he pos2 Ad s U H (λvs H1=>S9 vs λx=>sX X.K Q x H1) I h) λus s1 e=>e.el λvs H1 I1 r1 q1=>?_) he rfl
 .obtain⟨x,e1',p,xs,e2',hs,hz,h64,q⟩:_:=pS q1;obtain⟨u,rfl,ru⟩:=Ha r1;cases(show u=AE p from ru);obtain⟨Bi,rv,pl,hzz⟩:=I1.list hs
  have hl:xs.length=Bi.toArray.size:=by
   have:=rv.length;simpa using this
  refine qH (I1.ok.hd hc) pl.isList hl (λi v hi hv=>?_) (by ext) λh2 tk2 hS hk2=>?_
  .obtain⟨u,hu,ru⟩:=rv.get (i:=i) (x:=V.str xs[i]) (by rw[AI,Af hi];rfl);rw[D7]at hv;rw[hu]at hv;cases hv;exact ru
  .refine G0 ?_;refine gp (I1.ok.hd hc) hS h64 λh3 d tk3 L out c ys hf hSL hL hst hp hsrt hk3=>?_;refine⟨.ref L,_,((I1.draw d).laid (h':=h3) (t':=tk3) (a:=L) (o:=.lst (ys.map V.str)) (λb u eb=>hk3 b u (hk2 b u eb)) (FK hSL) ⟨?_,out,c,rB hst,hL⟩),rfl,q L ys ?_ hp hsrt⟩
   .rw[Ab,hp.length_eq];have:(64:Nat)<=An:=by decide
    ext
   .exact I1.hok.fresh (FK hSL)
noncomputable def PX (a b:Str):Bool:=!ltCps b.cps.toList a.cps.toList
noncomputable def Je (xs:List Str):List Str:=(fm xs).mergeSort PX
def V2 :PX a b=true↔a.cps.toList<=b.cps.toList:=by
 unfold PX;rw[ltCps_eq];simp
def V8 (a b c:Str)(h1:PX a b=true)(h2:PX b c=true):PX a c=true:=V2.mpr (List.le_trans (V2.mp h1) (V2.mp h2))
def XB (a b:Str):(PX a b || PX b a)=true:=by
 rcases List.le_total a.cps.toList b.cps.toList with h|h
 .rw[V2.mpr h];rfl
 .rw[V2.mpr h,WS]
def gO (h1:PX a b=true)(h2:PX b a=true):a=b:=by
 have e:=List.le_antisymm (V2.mp h1) (V2.mp h2);cases a;cases b;simpa using e
theorem bi:∀r x,risingS x r=true->(x::r).Pairwise (λa b=>PX a b=true)
 |[],x,_=>by simp
 |y::r,x,h=>by
  unfold risingS at h;rw[Br]at h;have ih:=bi r y h.2;rw[Qn]at ih ⊢;refine⟨λb hb=>?_,Qn.mpr ih⟩;rcases AR.mp hb with rfl|hb
  .exact h.1
  .exact V8 x y b h.1 (ih.1 b hb)
theorem b9:∀l,Lq l=true->l.Pairwise (λa b=>PX a b=true)
 |[],_=>.nil
 |x::r,h=>bi r x h
def zF (h1:ys.Perm (fm xs))(h2:Lq ys=true):ys=Je xs:=
 Hq (λa b _ _ p q=>gO p q) (b9 _ h2) (Du V8 XB _) (h1.trans (D5 _ _).symm)
def pI (xs):(Je xs).length=(fm xs).length:=(D5 _ _).length_eq
section
def ats_strs {Z:Zt}{vs:List V}{ss:List Str}(h:DH Z vs (ss.map D.str)):vs=ss.map V.str:=by
 induction ss generalizing vs with
 |nil=>cases h;rfl
 |cons s ss ih=>
  cases h with
  | @cons v _ _ _ h t=>cases(show v=V.str s from h);rw[ih t];rfl
theorem bA :∀(ss:List Str),DH Z (ss.map V.str) (ss.map D.str)
 |[]=>.nil
 |s::ss=>.cons rfl (bA ss)
unseal B3
def sD (ta:DZ):DZ:=λτ M Q=>ta τ M λx M1=>Cw (Bg M1 x) λds=>Cw (EG ds) λxs=>xs.length+1<Bh/\(fm xs).length<64/\∀p,M1 p=none->Q (.ref p) (put M1 p (.lst ((Je xs).map D.str)))
def sR (hc:X.calm=true)(hm1:X.mg "sorted" = none)(hm2:X.mg "set" = none)(ha:B3 X e ta)(hg1:autoParam (Gl X "sorted") BV)(hg2:autoParam (Gl X "set") BV)
  (he:autoParam (Ap [e] X.env=(false,eval e X.env)::Ap [] X.env) BV):B3 X (.Call (.Name "sorted" p1) [.Call (.Name "set" p2) [e] [] pos2] [] pos) (sD ta):=PE.mono (Zhl hc ha hm1 hm2 hg1 hg2 he) (by
 intro U H Q;ext1⟨Z,τ,M,Q2,st,hr,h,k⟩;refine ⟨Z,τ,M,_,st,hr,h,λZ1 v d H1 M1 l1 h1 a1 q1=>?_⟩;obtain ⟨ds,e1,q2⟩:=Cm q1;obtain ⟨xs,e2,hz,h64,q3⟩:=Cm q2;obtain ⟨p,vs,rfl,hs,a2⟩:=h1.rdL e1 a1;have e3:=XC e2;subst e3;have e4:=ats_strs a2;subst e4;refine ⟨p,xs,rfl,hs,hz,h64,λl ys hl hp hq=>?_⟩;rw [zF hp hq];exact (k.le l1).l h1 hl (bA _) q3)
unseal EX
def Rq (K:Ac):V->List V->Hp->VK->Prop:=λx vs H Q=>∃l b xs zs,x=.ref l/\vs=[.ref b]/\H l=some (.lst xs)/\F4 K H b zs/\xs.length+zs.length<=An/\Q .non (CI H l (.lst (xs++zs)))
def Zkp:bS X "list.extend" (Rq X.K):=by
 intro Ad s U H x vs v us Q I rx rv;ext1⟨l,b,xs,zs,e1',e2',hH,hB,hz,q⟩;cases rx;obtain⟨u,rfl,ru⟩:=rv.one;cases ru;obtain⟨z,Bi,n,r,hl,e⟩:=I.lstM hH;obtain⟨its2,r2,⟨o2,n2,e2,c2,d2,s2⟩,z2⟩:=I.list hB;have hl2:=r2.length;refine Cg F.slot_list_extend ⟨_,e,rfl⟩ F.entry_list_extend ?_ (F.args_list_extend_2 _ _);unfold Es.«list.extend»;refine Aa (Cn rfl ?_);dsimp only;unfold Fu;refine Aa (FE ⟨o2,e2,c2⟩ ?_);rw[if_pos 'f'];refine Aa (listItems_at e2 s2 ?_);refine Aa (listItems_at e rfl ?_);have hsz:Bi.toArray.size+its2.toArray.size<=An:=by rw[AW,AW];ext
 rw[if_neg (by rw[Ry hsz,DV];exact Ak)];refine Aa (listUpdate_at e rfl ?_ (by rw[AW];ext) (by simp only[MK];ext));refine Ae ⟨_,rfl,.non,_,I.lset hH e 'f' (r.append r2) ?_,rfl,q⟩;rw[Aq];ext
def GD:D->List D->Mp->Ef->Prop:=λx xs M Q=>Ko x λp=>GH xs λy=>match M p with
 |some (.lst ys)=>Cw (Bg M y) λzs=>ys.length+zs.length<=An/\Q .non (put M p (.lst (ys++zs)))
 |_=>False
def Tu:EX X "list.extend" GD:=NQ.mono Zkp (by
 intro x xs H Q;ext1⟨Z,d,ds,M,Q2,hr,a,as,h,k⟩;obtain⟨p,rfl,h1⟩:=IG h;obtain⟨y,rfl,h2⟩:=GV h1;cases(show x=V.ref p from a);obtain⟨v,rfl,av⟩:=II as;split at h2
 .next ys e=>
  obtain⟨zs,e2,hl,q⟩:=Cm h2;obtain⟨vs,r,a2⟩:=hr.rdM e;obtain⟨b,ws,rfl,hs,a3⟩:=hr.rdL e2 av;refine⟨p,b,vs,ws,rfl,rfl,r,hs,by rw[a2.length,a3.length];exact hl,?_⟩;exact k Z .non .non _ _ (Le.refl _) (hr.chgL e (a2.append a3)) rfl q
 .exact h2.elim)
end
end L2
namespace L3
open PySem PySem.Spec PyProof.Rows L2
noncomputable def mergeK (AG more:List (Ck×V)):List (Ck×V):=more.foldl (λacc kv=>putK acc kv.1 kv.2) AG
noncomputable def Ji (AG more:List (Ck×D)):List (Ck×D):=more.foldl (λacc kv=>HM acc kv.1 kv.2) AG
theorem zU:∀{more:List (Ck×V)}{ms:List (Ck×Ai)},KV more ms->∀{AG:List (Ck×V)}{vs:List (Ck×Ai)},KV AG vs->KV (mergeK AG more) (JS vs ms)
 |_,_,.nil,_,_,r=>r
 |_,_,.cons (a:=p) (b:=q) h t,AG,vs,r=>by
  have e:stored vs q.1 q.2=stored vs p.1 q.2:=by rw[h.1]
  have:=zU t (r.put p.1 h.2);unfold JS at this ⊢;rw[DY,e];exact this
theorem de:∀(more AG:List (Ck×V)),(mergeK AG more).length<=AG.length+more.length
 |[],AG=>AL _
 |m::more,AG=>by
  have h1:=de more (putK AG m.1 m.2);have h2:=hV AG m.1 m.2;unfold mergeK at h1 ⊢;rw[DY,AO];ext
theorem cz :∀{more:List (Ck×V)}{ms:List (Ck×D)},C7 Z more ms->∀{AG:List (Ck×V)}{vs:List (Ck×D)},C7 Z AG vs->C7 Z (mergeK AG more) (Ji vs ms)
 |_,_,.nil,_,_,r=>r
 |_,_,.cons (a:=p) (b:=q) h t,AG,vs,r=>by
  have:=cz t (r.put (k:=p.1) h.2);unfold mergeK Ji at this ⊢;rw[DY,DY,<- h.1];exact this
section
unseal EX
unseal B3 Gd
end
end L3
end Internal
namespace PySem
open Sem (wp)
section
variable {prog:Bs}{w:BK}{K:Type}[DecidableEq K]{knd:KeyKind prog w K}{A:CH}  {s:As}
end
end PySem
namespace Internal
namespace L2
open PySem PySem.Spec PyProof.Rows L3
end L2
namespace L3
open PySem PySem.Spec PyProof.Rows L2
noncomputable def Ht (AG:List (Ck×D)):List D:=AG.map λkv=>.tup [kD kv.1,kv.2]
section
variable {X:Cx}
unseal B3
unseal Dg
def PJ (j:Nat)(t:Hw):Hw:=λE τ M=>Cw (τ[j]?).join λd=>Ko d λp=>match M p with
 |some (.lst ds)=>t E (τ.set j (some (.lst ds))) (J2 M p)
 |_=>False
def UG (j)(h:Dg X body t):Dg X body (PJ j t):=K9.mono h (by
 intro D U H;ext1⟨Z,τ,M,D2,st,hr,h,er⟩;obtain⟨d,e,q0⟩:=Cm h;obtain⟨p,ed,q⟩:=IG q0;subst ed;obtain⟨v,e1,a⟩:=st.get (E5.mp e);cases(show v=.ref p from a);cases e2:M p with
 |none=>rw[e2]at q;exact q.elim
 |some o=>
  cases o with
  |dic ds=>rw[e2]at q;exact q.elim
  |dct ds=>rw[e2]at q;exact q.elim
  |obj C fs=>rw[e2]at q;exact q.elim
  |lst AG=>
   rw[e2]at q;have q':=q;have st2:=(st.mono (Le.ext)).set (d:=.lst AG) ⟨p,rfl,.inr ⟨rfl,rfl⟩⟩ j
   have e3:U.set j (some (.ref p))=U:=by
    apply FM;intro i;rw[Q3];by_cases hij:j=i
    .subst hij;obtain⟨hj,ej⟩:=Ah.mp e1;simp[hj,ej]
    .simp[hij]
   rw [e3] at st2;exact ⟨_,_,_,D2,st2,hr.frzL e2,q',er.le Le.ext⟩)
section
def Oo (wi:NP)(n:Nat)(caps:List (Str×Nat))(tt:Lj)(te:DZ):DZ:=λτ M Q=>wi τ M λxs S M1=>LZ n xs S caps tt te τ M1 λys M2=>∀p,M2 p=none->Q (.ref p) (put M2 p (.lst ys))
def VD {K:Ac}(ht:∀U H Q,lT K tt U H Q->tt1 U H Q):∀U H Q,lE K (Oo wi n caps tt te) U H Q->Ot (lI K wi) n caps tt1 (lE K te) K U H Q:=by
 intro U H Q;ext1⟨Z,τ,M,Q2,st,hr,h,k⟩;exact ZkJ st hr h ht λZ1 H1 M1 vs ds l1 h1 a1 q p hp=>(k.le l1).l h1 hp a1 q
unseal HP
def Vu (B:La X scope x ns caps)(hc:X.calm=true)(hi:HP X (.Tuple tes tk px) iter wi)(he:∀cl C fp pn s H,B3 'h' elt te)
  (hg:∀cl C fp pn s H,UP 'h' tes (GX (Bx (ns.length+1)))) (hgn:autoParam (∀cl C fp pn s H,(C1 tes 'h'.env).length=ns.length+1) tL) (hgf:autoParam (∀cl C fp pn s H,MT (λy=>y.1) (C1 tes 'h'.env)=none) tL)
  (hs:autoParam (∀x,Bn iter X.env x=pure x) NM):B3 X (.ListComp elt [⟨.Tuple tes tk px,iter,[],0⟩] scope pos) (Oo wi (ns.length+1) caps HA te):=PE.mono (Θ (te:=lE X.K te) B hc hi he (λ_ _ _ _ _ _=>Hy.nil) hg hgn hgf hs) (VD LV)
end
end
end L3
end Internal
namespace PySem
open Sem (wp)
def ZhR:NT (.type "list") "keys" = pure none:=by rw[Jn,F1];kernel_rfl
def Zm9 (hx:s.heap.get? a=some {cls:=.type "list",dict:=none,data:=.seq xs k,slots:=sl})(hA:A.handled=none)
  (h:∀h' tk,(∀b u,s.heap.get? b=some u->h'.get? b=some u)->Q none {s with heap:=h',toks:=tk}):Au 'm' A (getAttr? (.ref a) "keys") Q E s:=by
 obtain⟨hp,g,d,tk,os⟩:=s;have hT:∀tk',(⟨hp,g,d,tk',os⟩:As).TypeIs (.ref a) "list":=λ_=>⟨_,hx,rfl⟩;have f1:=sub_AttributeError;have f3:=F.slot_list_getattribute.lookup;have f4:=F.slot_list_getattribute.bind (.ref a);have f5:=am_list_getattr_none;unfold getAttr? getAttrBy? getAttrBy
 repeat (any_goals (first | assumption | exact hT _ | ((with_reducible show Au _ _ (Ix (Value.builtin "list.__getattribute__") _ _) _ _ _);refine IZ F.slot_list_getattribute (hT _) am_entry_list_getattribute (F.args_list_getattribute_2 _ _) (meets_getattribute_miss_list a xs k sl "keys" _ ZhR 'k' 'k') ⟨hx,hA,λh' tk' e hx'=>?_⟩) | wp_step))
 obtain⟨t',u',he⟩:=hx'.there;show Au _ _ (UW _ _ _ _ _ _ _) _ _ _;unfold UW
 repeat (any_goals (first | assumption | wp_step))
 exact h _ _ hx'.keeps
def i9:Lw Wz "dict.update.loop" = some Es.«dict.update.loop»:=XZ (by kernel_rfl)
def iN:plainId "dict.update.loop" = true:=by nofun
section
variable {prog:Bs}{w:BK}{K:Type}[DecidableEq K]{knd:KeyKind prog w K}
def MH (knd:KeyKind prog w K)(h:CN)(v:Ai)(k:K)(x:Ai):Prop:=∃a key o n,v=.ref a/\knd.is k key=true/\h.get? a=some o/\o.cls=.type "tuple"/\o.data=.seq #[key,x] n
def ZiZ {AG:List (K×Ai)}(h:AG[i]? = some p):JS [] (AG.take (i+1))=stored (JS [] (AG.take i)) p.1 p.2:=merged_take_succ [] AG i p h
def Χ {d it l:Av}{lo:Nat}{items:Array Ai}{pairs:List (K×Ai)}{R:UZ->As->Prop}(hh:A.handled=none)(hlen:items.size=pairs.length)(hsz:pairs.length<=An)(hdl:lo<=d)(hil:lo<=it)(hne:d≠it)(hl:l<lo)
  (hp:∀(i:Nat) v,items[i]? = some v->∃a,v=.ref a/\a<lo) (res:Ai) :
  ∀k i s tk0,pairs.length-i=k->i<=pairs.length->s.heap.IsListIter it l i->s.heap.IsList l items->s.heap.DictOf knd d (JS [] (pairs.take i)) ->
   (∀(j:Nat) v p,items[j]? = some v->pairs[j]? = some p->MH knd s.heap v p.1 p.2) ->
   (∀h' tk,(∀b o,b<lo->s.heap.get? b=some o->h'.get? b=some o)->h'.DictOf knd d (JS [] pairs)->R (.ok (.ret res)) {s with heap:=h',toks:=tk}) ->
   D4 'm' A (.builtin "dict.update.loop" ⟨[.ref d,.ref it,.int (i:Int) tk0,res],[]⟩) R s:=by
 have nd:∀b,b<lo->b≠d:=λb h=>A6 (Bj h hdl);have ni:∀b,b<lo->b≠it:=λb h=>A6 (Bj h hil);intro k;induction k with
 |zero=>
  intro i s tk0 hk hi hit hls hd hpr hR;have hin:i=pairs.length:=by ext
  subst hin;refine DK i9 ?_;rw[CY iN _];show Au _ A.in1 (IV (.ref it) >>= _) _ _ s;refine Aa (R3 hh hit hls (by rw[<- hlen];simp) λh' he'=>?_);rw[Bm]at hd;obtain⟨o,es,ep,ho,C2⟩:=hd;show Au _ _ (dN d [] >>= _) _ _ _;exact Aa (Ae (Ae (hR h' s.toks (λb o hb e=>he' b o (ni b hb) e) ⟨o,es,ep,he' d o hne ho,C2⟩)))
 |succ k ih=>
  intro i s tk0 hk hi hit hls hd hpr hR;have hlt:i<pairs.length:=by ext
  have hlt':i<items.size:=by ext
  refine DK i9 ?_;rw[CY iN _];show Au _ A.in1 (IV (.ref it) >>= _) _ _ s;refine Aa (QJ hit hls (AY hlt') λh1 hit1 sb=>?_);obtain⟨a,key,o,n,ev,hkey,ho,hoc,hod⟩:_:=hpr i _ _ (AY hlt') (Af hlt)
  have hal:a<lo:=by
   obtain⟨a',e',hl'⟩:=hp i _ (AY hlt');rw[ev]at e';cases e';exact hl'
  have ho1:=(sb.2 a (ni a hal)).trans ho
  have hd1:h1.DictOf knd d (JS [] (pairs.take i)):=by
   obtain⟨o,es,ep,ho,C2⟩:=hd;exact⟨o,es,ep,(sb.2 d hne).trans ho,C2⟩
  have hml:(JS [] (pairs.take i)).length<=An:=by
   have e1:=merged_length_le ([]:List (K×Ai)) (pairs.take i);rw[A3,Fq]at e1;ext
  rw[ev];dsimp only;refine Aa (B4 ?_);refine Aa (wpAny_tryCatch ?_);unfold dJ;refine Aa (FE ⟨o,ho1,hoc⟩ ?_);rw[if_pos 'g'];refine Aa (NR ho1 hod (Ae ?_));show Au _ _ (G6 [key,pairs[i].2] (dictSet d key pairs[i].2)) _ _ _;refine B4 (wpAny_dictSet_pairs hkey hd1 λh2 hd2 sb2=>?_);refine Ae ⟨Gh iN _,?_⟩;have ec:(i:Int)+1=((i+1:Nat):Int):=by ext
  show D4 _ _ (.builtin "dict.update.loop" ⟨[.ref d,.ref it,.int ((i:Int)+1) 0,res],[]⟩) _ _;rw[ec];have keep:∀b o,b<lo->s.heap.get? b=some o->h2.get? b=some o:=λb o hb e=>(sb2.2 b (nd b hb)).trans ((sb.2 b (ni b hb)).trans e);refine ih (i+1) _ 0 (by ext) hlt ?_ ?_ ?_ ?_ λh' tk hk' hd'=>hR h' tk (λb o hb e=>hk' b o hb (keep b o hb e)) hd'
  .obtain⟨oi,hoi,r⟩:=hit1;exact⟨oi,(sb2.2 it (Bk hne)).trans hoi,r⟩
  .obtain⟨ol,hol,r⟩:=hls;exact⟨ol,keep l ol hl hol,r⟩
  .rw[ZiZ (Af hlt)];exact hd2
  .intro j v p hv hj;obtain⟨a',key',o',n',e1',r1,r2,r3⟩:_:=hpr j v p hv hj;obtain⟨a2,e2,hl2⟩:=hp j _ hv;cases e2;exact⟨a',key',o',n',rfl,r1,keep a' o' hl2 r2,r3⟩
def Φ {s:As}{l:Av}{items:Array Ai}{n:Nat}{sl:Array (Option Ai)}{pairs:List (K×Ai)}{Q:Ai->As->Prop}(hh:A.handled=none)(hx:s.heap.get? l=some {cls:=.type "list",dict:=none,data:=.seq items n,slots:=sl})(hlen:items.size=pairs.length)(hsz:pairs.length<=An)
  (hpr:∀(j:Nat) v p,items[j]? = some v->pairs[j]? = some p->MH knd s.heap v p.1 p.2)
  (hQ:∀h' tk,(∀b o,s.heap.get? b=some o->h'.get? b=some o)->h'.DictOf knd s.heap.objs.size (JS [] pairs)->Q (.ref s.heap.objs.size) {s with heap:=h',toks:=tk}) :
  Au 'm' A (Ix (.type "dict") [.ref l]) Q E s:=by
 refine callType_codes (Q₁:=λobj s₁=>obj=.ref s.heap.objs.size/\s₁={s with heap:=s.heap.push {cls:=.type "dict",data:=.dict #[]} }) F.kt_called_dict (F.kt_typeCall_dict_1 _) F.entry_dict_init (kt_code_dict_new _ ⟨rfl,rfl⟩) ?_;rintro obj s₁ ⟨rfl,rfl⟩;have hnew:(s.heap.push {cls:=.type "dict",data:=.dict #[]}).DictOf knd s.heap.objs.size []:=NC s.heap;have hx':(s.heap.push {cls:=.type "dict",data:=.dict #[]}).get? l=some {cls:=.type "list",dict:=none,data:=.seq items n,slots:=sl}:=Ag _ hx;have hll:=Ar hx;refine⟨hnew.typeIs,F.args_dict_init_2 _ _,?_⟩;unfold Es.«dict.__init__»;refine Aa ?_;unfold dI;refine Aa (R4 hnew.typeIs ?_);show Au _ _ (pure (s.heap.objs.size,[AE l])) _ _ _;refine Ae ?_;show Au _ _ (Kw "dict.__init__" s.heap.objs.size (.ref l) [] .none) _ _ _;unfold Kw;refine Aa (FE (T:="list") ⟨_,hx',rfl⟩ ?_);rw[if_pos 'g'];refine Aa (Zm9 hx' hh λh1 tk1 k1=>?_);simp only[Option.isNone_none,if_true];refine Aa (Hi ?_);have hl1:=k1 _ _ hx';refine Aa (HS (items:=items) ⟨_,hl1,rfl,n,rfl⟩ ?_);have kk:∀b o,s.heap.get? b=some o->(h1.push {cls:=.type "list_iterator",data:=.fields #[.ref l,.int 0 0]}).get? b=some o:=λb o e=>Ag _ (k1 b o (Ag _ e))
 have hds:s.heap.objs.size<h1.objs.size:=by
  obtain⟨o,_,_,ho,_⟩:=hnew;exact Ar (k1 _ _ ho)
 have hls:(h1.push {cls:=.type "list_iterator",data:=.fields #[.ref l,.int 0 0]}).IsList l items:=⟨_,Ag _ hl1,rfl,n,rfl⟩;have hit:(h1.push {cls:=.type "list_iterator",data:=.fields #[.ref l,.int 0 0]}).IsListIter h1.objs.size l 0:=⟨_,AC _ rfl,rfl,rfl⟩;refine Ae ⟨Gh iN _,?_⟩;refine Χ (A:=A.in1) (knd:=knd) (lo:=s.heap.objs.size) (pairs:=pairs) hh hlen hsz (AL _) (FK hds) (A6 hds) hll (λi v hv=>?_) .none pairs.length 0 {s with heap:=h1.push {cls:=.type "list_iterator",data:=.fields #[.ref l,.int 0 0]},toks:=tk1} 0 rfl (Ej _) hit hls ?_ ?_ λh' tk hk hd=>?_
 .have hi:i<pairs.length:=by
   rw[<- hlen];exact(Gv.mp hv).1
  obtain⟨a,key,o,n',e1',_,ho,_⟩:_:=hpr i v _ hv (Af hi);exact⟨a,rfl,Ar ho⟩
 .obtain⟨o,es,ep,ho,C2⟩:=hnew;exact⟨o,es,ep,Ag _ (k1 _ _ ho),C2⟩
 .intro j v p hv hj;obtain⟨a,key,o,n',e1',r1,ho,r2⟩:_:=hpr j v p hv hj;exact⟨a,key,o,n',rfl,r1,kk a o ho,r2⟩
 .exact⟨rfl,hQ h' tk (λb o e=>hk b o (Ar e) (kk b o e)) hd⟩
end
end PySem
namespace Internal
namespace L3
open PySem PySem.Spec PyProof.Rows L2
section
def vy (h:Eo F l [b,c]):∃x y,l=[x,y]/\F x b/\F y c:=by
 cases h with
 |cons h t=>
  cases t with
  |cons h' t'=>cases t';exact⟨_,_,rfl,h,h'⟩
def yy (h:Eo F [b,c] l):∃x y,l=[x,y]/\F b x/\F c y:=by
 cases h with
 |cons h t=>
  cases t with
  |cons h' t'=>cases t';exact⟨_,_,rfl,h,h'⟩
def xp (I:AX X Ad U H s)(hr:HR X.K H M Z)(h:At Z v (.tup [kD k,d]))(r:RelV v u) :
  ∃w2 u2,At Z w2 d/\RelV w2 u2/\MH (BX X.prog X.w) s.heap u k u2:=by
 obtain⟨p,ws,rfl,hs,aw⟩:=hr.rdT h;have eu:=r;subst eu;obtain⟨its2,rv,ht,_⟩:=I.tuple hs;obtain⟨w1,w2,rfl,a1,a2⟩:=vy aw;obtain⟨u1,u2,rfl,r1,r2⟩:=yy rv;have e1:=W4 a1;subst e1;obtain⟨o,e,c,n,hd⟩:=ht;exact⟨w2,u2,a2,r2,p,u1,o,n,rfl,Tn r1,e,c,hd⟩
def wl (h:Eo F l (b::m)):∃x r,l=x::r/\F x b/\Eo F r m:=by
 cases h with
 |cons h t=>exact⟨_,_,rfl,h,t⟩
def zg (h:Eo F (b::m) l):∃x r,l=x::r/\F b x/\Eo F m r:=by
 cases h with
 |cons h t=>exact⟨_,_,rfl,h,t⟩
def pw (h:Eo F l []):l=[]:=by cases h;rfl
def vi (h:Eo F [] l):l=[]:=by cases h;rfl
theorem Zj6 :Ht ((k,d)::ps)=.tup [kD k,d]::Ht ps:=rfl
def Δ (I:AX X Ad U H s)(hr:HR X.K H M Z)(ps:List (Ck×D)):∀vs Bi,DH Z vs (Ht ps)->BO vs Bi ->
  ∃(ks:List (Ck×V)) (prs:List (Ck×Ai)),KV ks prs/\C7 Z ks ps/\Bi.length=prs.length/\∀(j:Nat) v p,Bi[j]? = some v->prs[j]? = some p->MH (BX X.prog X.w) s.heap v p.1 p.2:=by
 induction ps with
 |nil=>intro vs Bi ha hv;have e:=pw ha;subst e;have e:=vi hv;subst e;exact⟨[],[],.nil,.nil,rfl,λj v p h=>by simp at h⟩
 |cons kd ps ih=>
  intro vs Bi ha hv;obtain⟨k,d⟩:=kd;rw[Zj6]at ha;obtain⟨v,vs',rfl,h,t⟩:=wl ha;obtain⟨u,us',rfl,r,rs⟩:=zg hv;obtain⟨ks,prs,h1,h2,h3,h4⟩:=ih vs' us' t rs;obtain⟨w2,u2,a2,r2,pa⟩:=xp I hr h r;refine⟨(k,w2)::ks,(k,u2)::prs,.cons ⟨rfl,r2⟩ h1,.cons ⟨rfl,a2⟩ h2,by rw[AO,AO,h3],λj v p hv hp=>?_⟩;cases j with
  |zero=>rw[Fd]at hv hp;cases hv;cases hp;exact pa
  |succ j=>rw[Fe]at hv hp;exact h4 j v p hv hp
def ZkG (hc:X.calm=true)(I:AX X Ad U H s)(r:BO xs us)(hr:HR X.K H M Z)(a:DH Z xs [x])(e:Bg M x=some (Ht ps))(hz:ps.length<=An)
  (q:∀ks p,C7 Z ks (Ji [] ps)->H p=none->Q (.ref p) (CI H p (.dK ks))):Au 'd' X.A (Ix (.type "dict") us) (EP X Ad U Q) X.xe s:=by
 obtain⟨v,rfl,a1⟩:=II a;obtain⟨p,vs,rfl,hs,a2⟩:=hr.rdL e a1;obtain⟨u,rfl,ru⟩:=Ha r;have eu:=ru;subst eu;obtain⟨Bi,rv,⟨o,n,e2,c2,d2,s2⟩,_⟩:=I.list hs;obtain⟨ks,prs,h1,h2,h3,h4⟩:=Δ I hr ps vs Bi a2 rv;obtain⟨oc,od,oa,os⟩:=o;simp only at c2 d2 s2;subst c2 d2 s2;have hl:ps.length=prs.length:=by rw[<- D9 h2];exact h1.length
 refine Φ (I.ok.hd hc) e2 (by rw[AW];exact h3) (by rw[<- hl];exact hz) (λj v p hv hp=>h4 j v p (by rw[D7]at hv;exact hv) hp) λh' tk hk dd=>?_;have kk:=zU h1 .nil
 have hm:(mergeK [] ks).length<=An:=by
  have:=de ks [];rw[Fq,ES,D9 h2]at this;ext
 exact⟨.ref s.heap.objs.size,_,I.laid hk (AL _) (fJ hm (beq_eq_false_iff_ne.mpr (Bk (A6 I.big))) kk dd),rfl,q _ _ (cz h2 .nil) (I.hok.fresh (AL _))⟩
unseal BW
def gG (hc:X.calm=true):BW X (.type "dict") (λxs M Q=>GH xs λx=>∃ps,Bg M x=some (Ht ps)/\ps.length<=An/\Q (.dic (Ji [] ps)) M):=by
 intro Ad s U H xs us Q I r;ext1⟨Z,ds,M,Q2,hr,a,h,k⟩;obtain⟨x,rfl,ps,e,hz,q⟩:=GV h;exact ZkG hc I r hr a e hz λks p a2 hp=>k.fd hr hp a2 q
end
end L3
namespace L2
open PySem PySem.Spec PyProof.Rows L3
end L2
namespace L3
open PySem PySem.Spec PyProof.Rows L2
section
unseal EX Cq
end
def Zb:LM:=λx y M Q=>Cw (HK M y) λys=>∃f:D->Bool,(∀z∈ys,E7 M 40 z x=some (f z))/\Q (.bl (ys.any f)) M
def qq {Bi:List Ai}{ys:List D}{f:D->Bool}{g:Ai->Bool}(hl:Bi.length=ys.length)(hg:∀w,g w=true↔∃(j:Nat) (d:D),Bi[j]? = some w/\ys[j]? = some d/\f d=true):Bi.toArray.any g=ys.any f:=by
 rw[show Bi.toArray.any g=Bi.any g by simp,Dz,Dh,Dh];constructor
 .rintro⟨w,_,h⟩;obtain⟨j,d,_,e2,e3⟩:=(hg w).mp h;exact⟨d,AB e2,e3⟩
 .rintro⟨d,hd,h⟩;obtain⟨j,hj,rfl⟩:=O5.mp hd;exact⟨Bi[j],Go _,(hg _).mpr ⟨j,ys[j],Af (by ext),Af hj,h⟩⟩
def bo {X:Cx}{Ad:List (Av×Obj)}{U:St}{H:Hp}{s:As}{M:Mp}{Z:Zt}{A:CH}{x:V}{v:Ai}{dx:D}{vs:List V}{Bi:List Ai}{ys:List D}{f:D->Bool}(I:AX X Ad U H s)(hr:HR X.K H M Z)(hu:A.units+40<D8)(ax:At Z x dx)(rx:RelV x v)(a:DH Z vs ys)(r:BO vs Bi)(hf:∀z∈ys,E7 M 40 z dx=some (f z)) :
  ∃g:Ai->Bool,(∀w,w∈Bi.toArray->E4 A s w v (g w))/\Bi.toArray.any g=ys.any f:=by
 obtain⟨g,hg⟩:∃g:Ai->Bool,∀w,g w=true↔∃(j:Nat) (d:D),Bi[j]? = some w/\ys[j]? = some d/\f d=true:=⟨λw=>@decide _ (Classical.propDecidable (∃(j:Nat) (d:D),Bi[j]? = some w/\ys[j]? = some d/\f d=true)),λw=>by simp⟩;have l1:=a.length;have l2:=r.length;refine⟨g,λw hw=>?_,qq (by ext) hg⟩
 have at_:∀j,Bi[j]? = some w->∃d,ys[j]? = some d/\E4 A s w v (f d):=λj hj=>by
  obtain⟨hj1,hj2⟩:=Ah.mp hj;obtain⟨v1,d1,_,e1,z1,q1⟩:=VZ r a j (by simpa using hj1);refine⟨d1,e1,oE I hr 40 z1 ax (by simpa[hj2]using q1) rx (by ext) (hf d1 (AB e1))⟩
 by_cases c:g w=true
 .obtain⟨j,d,h1,h2,h3⟩:=(hg w).mp c;obtain⟨d',h4,h5⟩:=at_ j h1;rw[h2]at h4;cases h4;rw[c,<- h3];exact h5
 .obtain⟨j,hj,hw2⟩:=O5.mp (by simpa using hw:w∈Bi);have h1:Bi[j]? = some w:=by rw[Af hj,hw2]
  obtain⟨d',h4,h5⟩:=at_ j h1
  have h6:f d'=false:=by
   cases h7:f d' with
   |false=>rfl
   |true=>exact absurd ((hg w).mpr ⟨j,d',h1,h4,h7⟩) c
  rw[show g w=false by simpa using c,<- h6];exact h5
unseal Cq
def eU (hu:X.A.units+41<D8):Cq X (Bc .In) Zb:=by
 intro Ad s U H x y v u Q I rx ry;ext1⟨Z,dx,dy,M,Q2,hr,ax,ay,h,k⟩;obtain⟨ys,e,f,hf,q⟩:=Cm h;obtain⟨p,vs,rfl,hs,a⟩:=hr.rdS e ay;cases(show u=AE p from ry);rcases hs with hs|hs
 .obtain⟨Bi,r,pl,_⟩:=I.list hs;obtain⟨g,hg,e2⟩:=bo I hr (A:=X.A.in1) (by show X.A.units+1+40<D8;ext) ax rx a r hf;refine R5 g pl.isList hg ⟨.bl _,H,I,rfl,?_⟩;rw[e2];exact k.b hr q
 .obtain⟨Bi,r,pl,_⟩:=I.tuple hs;obtain⟨g,hg,e2⟩:=bo I hr (A:=X.A.in1) (by show X.A.units+1+40<D8;ext) ax rx a r hf;refine QY g pl hg ⟨.bl _,H,I,rfl,?_⟩;rw[e2];exact k.b hr q
end L3
namespace L3
open PySem PySem.Spec PyProof.Rows L2
unseal Cq
unseal B3
end L3
namespace L3
open PySem PySem.Spec PyProof.Rows L2
def Tf (hr:Db k A):A.units+45<D8:=FJ (Jw (by decide:45<=64) _) hr.units
def J0 (hr:Db k A):A.units+41<D8:=FJ (Jw (by decide:41<=64) _) hr.units
def Js (xs:List D)(k:D->D->D->Prop):Prop:=match xs with
 |[x,y,z]=>k x y z
 |_=>False
def Vy (xs:List D)(k:D->D->D->D->Prop):Prop:=match xs with
 |[x,y,z,w]=>k x y z w
 |_=>False
def ZA (xs:List D)(k:D->D->D->D->D->Prop):Prop:=match xs with
 |[x,y,z,w,v]=>k x y z w v
 |_=>False
def Tb (h:Js xs k):∃x y z,xs=[x,y,z]/\k x y z:=by
 match xs,h with
 |[x,y,z],h=>exact⟨x,y,z,rfl,h⟩
def ZB (h:Vy xs k):∃x y z w,xs=[x,y,z,w]/\k x y z w:=by
 match xs,h with
 |[x,y,z,w],h=>exact⟨x,y,z,w,rfl,h⟩
def Vz (h:ZA xs k):∃x y z w v,xs=[x,y,z,w,v]/\k x y z w v:=by
 match xs,h with
 |[x,y,z,w,v],h=>exact⟨x,y,z,w,v,rfl,h⟩
theorem nr :Js [x,y,z] k=k x y z:=rfl
theorem W8 :Vy [x,y,z,w] k=k x y z w:=rfl
theorem W9 :ZA [x,y,z,w,v] k=k x y z w v:=rfl
def fX (h0:0<=i)(h1:i<(xs.length:Int)):∃v,F3 xs i=some v/\v∈xs:=by
 obtain⟨j,rfl⟩:∃j:Nat,i=(j:Int):=⟨i.toNat,by ext⟩;have hk:j<xs.length:=by ext
 exact⟨xs[j],Pk (Af hk),Go hk⟩
theorem Zk:Gw 0 (some d::τ) M Q=Q d M:=rfl
theorem Vp:Fy 0 te E (o::τ) M=te (o::τ) M λx M1=>E.nx (some x::τ) M1:=rfl
theorem Zj :Gw 1 (a0::some d::τ) M Q=Q d M:=rfl
theorem Oy :Fy 1 te E (a0::o::τ) M=te (a0::o::τ) M λx M1=>E.nx (a0::some x::τ) M1:=rfl
theorem Zi :Gw 2 (a0::a1::some d::τ) M Q=Q d M:=rfl
theorem kP :Fy 2 te E (a0::a1::o::τ) M=te (a0::a1::o::τ) M λx M1=>E.nx (a0::a1::some x::τ) M1:=rfl
theorem kY :JJ 2 d (a0::a1::o::τ) k=k (a0::a1::some d::τ):=rfl
theorem Zh :Gw 3 (a0::a1::a2::some d::τ) M Q=Q d M:=rfl
theorem Zp :Fy 3 te E (a0::a1::a2::o::τ) M=te (a0::a1::a2::o::τ) M λx M1=>E.nx (a0::a1::a2::some x::τ) M1:=rfl
theorem Oz :JJ 3 d (a0::a1::a2::o::τ) k=k (a0::a1::a2::some d::τ):=rfl
theorem Zg :Gw 4 (a0::a1::a2::a3::some d::τ) M Q=Q d M:=rfl
theorem Zo :Fy 4 te E (a0::a1::a2::a3::o::τ) M=te (a0::a1::a2::a3::o::τ) M λx M1=>E.nx (a0::a1::a2::a3::some x::τ) M1:=rfl
theorem kX :JJ 4 d (a0::a1::a2::a3::o::τ) k=k (a0::a1::a2::a3::some d::τ):=rfl
theorem Zf :Gw 5 (a0::a1::a2::a3::a4::some d::τ) M Q=Q d M:=rfl
theorem Zn :Fy 5 te E (a0::a1::a2::a3::a4::o::τ) M=te (a0::a1::a2::a3::a4::o::τ) M λx M1=>E.nx (a0::a1::a2::a3::a4::some x::τ) M1:=rfl
theorem kW :JJ 5 d (a0::a1::a2::a3::a4::o::τ) k=k (a0::a1::a2::a3::a4::some d::τ):=rfl
theorem kN :Gw 6 (a0::a1::a2::a3::a4::a5::some d::τ) M Q=Q d M:=rfl
theorem kO :Fy 6 te E (a0::a1::a2::a3::a4::a5::o::τ) M=te (a0::a1::a2::a3::a4::a5::o::τ) M λx M1=>E.nx (a0::a1::a2::a3::a4::a5::some x::τ) M1:=rfl
theorem kU :JJ 6 d (a0::a1::a2::a3::a4::a5::o::τ) k=k (a0::a1::a2::a3::a4::a5::some d::τ):=rfl
theorem kM :Gw 7 (a0::a1::a2::a3::a4::a5::a6::some d::τ) M Q=Q d M:=rfl
theorem PP :Fy 7 te E (a0::a1::a2::a3::a4::a5::a6::o::τ) M=te (a0::a1::a2::a3::a4::a5::a6::o::τ) M λx M1=>E.nx (a0::a1::a2::a3::a4::a5::a6::some x::τ) M1:=rfl
theorem kT :JJ 7 d (a0::a1::a2::a3::a4::a5::a6::o::τ) k=k (a0::a1::a2::a3::a4::a5::a6::some d::τ):=rfl
theorem kL :Gw 8 (a0::a1::a2::a3::a4::a5::a6::a7::some d::τ) M Q=Q d M:=rfl
theorem PN :Fy 8 te E (a0::a1::a2::a3::a4::a5::a6::a7::o::τ) M=te (a0::a1::a2::a3::a4::a5::a6::a7::o::τ) M λx M1=>E.nx (a0::a1::a2::a3::a4::a5::a6::a7::some x::τ) M1:=rfl
theorem kS :JJ 8 d (a0::a1::a2::a3::a4::a5::a6::a7::o::τ) k=k (a0::a1::a2::a3::a4::a5::a6::a7::some d::τ):=rfl
theorem kK :Gw 9 (a0::a1::a2::a3::a4::a5::a6::a7::a8::some d::τ) M Q=Q d M:=rfl
theorem Vo :Fy 9 te E (a0::a1::a2::a3::a4::a5::a6::a7::a8::o::τ) M=te (a0::a1::a2::a3::a4::a5::a6::a7::a8::o::τ) M λx M1=>E.nx (a0::a1::a2::a3::a4::a5::a6::a7::a8::some x::τ) M1:=rfl
theorem Vq :JJ 9 d (a0::a1::a2::a3::a4::a5::a6::a7::a8::o::τ) k=k (a0::a1::a2::a3::a4::a5::a6::a7::a8::some d::τ):=rfl
theorem aB :Gw 10 (a0::a1::a2::a3::a4::a5::a6::a7::a8::a9::some d::τ) M Q=Q d M:=rfl
theorem Z9 :Fy 10 te E (a0::a1::a2::a3::a4::a5::a6::a7::a8::a9::o::τ) M=te (a0::a1::a2::a3::a4::a5::a6::a7::a8::a9::o::τ) M λx M1=>E.nx (a0::a1::a2::a3::a4::a5::a6::a7::a8::a9::some x::τ) M1:=rfl
theorem VS :Gw 11 (a0::a1::a2::a3::a4::a5::a6::a7::a8::a9::a10::some d::τ) M Q=Q d M:=rfl
theorem eQ :Fy 11 te E (a0::a1::a2::a3::a4::a5::a6::a7::a8::a9::a10::o::τ) M=te (a0::a1::a2::a3::a4::a5::a6::a7::a8::a9::a10::o::τ) M λx M1=>E.nx (a0::a1::a2::a3::a4::a5::a6::a7::a8::a9::a10::some x::τ) M1:=rfl
theorem Xa :Gw 12 (a0::a1::a2::a3::a4::a5::a6::a7::a8::a9::a10::a11::some d::τ) M Q=Q d M:=rfl
theorem aA :Fy 12 te E (a0::a1::a2::a3::a4::a5::a6::a7::a8::a9::a10::a11::o::τ) M=te (a0::a1::a2::a3::a4::a5::a6::a7::a8::a9::a10::a11::o::τ) M λx M1=>E.nx (a0::a1::a2::a3::a4::a5::a6::a7::a8::a9::a10::a11::some x::τ) M1:=rfl
theorem nX :Gw 13 (a0::a1::a2::a3::a4::a5::a6::a7::a8::a9::a10::a11::a12::some d::τ) M Q=Q d M:=rfl
theorem uP :Fy 13 te E (a0::a1::a2::a3::a4::a5::a6::a7::a8::a9::a10::a11::a12::o::τ) M=te (a0::a1::a2::a3::a4::a5::a6::a7::a8::a9::a10::a11::a12::o::τ) M λx M1=>E.nx (a0::a1::a2::a3::a4::a5::a6::a7::a8::a9::a10::a11::a12::some x::τ) M1:=rfl
theorem uZ :Gw 14 (a0::a1::a2::a3::a4::a5::a6::a7::a8::a9::a10::a11::a12::a13::some d::τ) M Q=Q d M:=rfl
theorem uQ :Fy 14 te E (a0::a1::a2::a3::a4::a5::a6::a7::a8::a9::a10::a11::a12::a13::o::τ) M=te (a0::a1::a2::a3::a4::a5::a6::a7::a8::a9::a10::a11::a12::a13::o::τ) M λx M1=>E.nx (a0::a1::a2::a3::a4::a5::a6::a7::a8::a9::a10::a11::a12::a13::some x::τ) M1:=rfl
theorem vA :Gw 15 (a0::a1::a2::a3::a4::a5::a6::a7::a8::a9::a10::a11::a12::a13::a14::some d::τ) M Q=Q d M:=rfl
theorem uR :Fy 15 te E (a0::a1::a2::a3::a4::a5::a6::a7::a8::a9::a10::a11::a12::a13::a14::o::τ) M=te (a0::a1::a2::a3::a4::a5::a6::a7::a8::a9::a10::a11::a12::a13::a14::o::τ) M λx M1=>E.nx (a0::a1::a2::a3::a4::a5::a6::a7::a8::a9::a10::a11::a12::a13::a14::some x::τ) M1:=rfl
theorem sL:uC d τ M Q=Q d M:=rfl
theorem Zq :WU r ta tb τ M Q=ta τ M λx M1=>tb τ M1 λy M2=>r x y M2 Q:=rfl
theorem vN:Pb te τ M QT=te τ M λx M1=>Qx x λc=>QT c M1:=rfl
theorem pU :Op r r' ta tb tc τ M Q=ta τ M λx M1=>tb τ M1 λy M2=>r x y M2 λz M3=>Qx z λk=>if k=true then tc τ M3 λw M4=>r' y w M4 Q else Q (.bl false) M3:=rfl
theorem Ow :sB r ta τ M Q=ta τ M λx M1=>r x M1 Q:=rfl
theorem VQ:YN t1 t2 τ M QT=t1 τ M λc M1=>if c=true then t2 τ M1 QT else QT false M1:=rfl
theorem kQ:sE t1 t2 τ M QT=t1 τ M λc M1=>if c=true then QT true M1 else t2 τ M1 QT:=rfl
theorem Z0:YG t1 τ M QT=t1 τ M λc M1=>QT (!c) M1:=rfl
theorem aI:Uh ta tb τ M Q=ta τ M λx M1=>Qx x λc=>if c=true then tb τ M1 Q else Q (.bl false) M1:=rfl
theorem nU:YF ta tb τ M Q=ta τ M λx M1=>Qx x λc=>if c=true then Q (.bl true) M1 else tb τ M1 Q:=rfl
theorem vM:T8 ta τ M Q=ta τ M λx M1=>Qx x λc=>Q (.bl (!c)) M1:=rfl
theorem S1:sF t1 ta tb τ M Q=t1 τ M λc M1=>if c=true then ta τ M1 Q else tb τ M1 Q:=rfl
theorem Ro :sG ds τ M QA=QA ds M:=rfl
theorem uK:Vf τ M QA=QA [] M:=rfl
theorem vJ:Ug te tA τ M QA=te τ M λx M1=>tA τ M1 λxs M2=>QA (x::xs) M2:=rfl
theorem uY:Yy tA τ M Q=tA τ M λxs M1=>xs.length<=An/\Q (.tup xs) M1:=rfl
theorem Tq:Ub tA τ M Q=tA τ M λxs M1=>xs.length<=An/\Q (.lst xs) M1:=rfl
theorem nk:YH tA τ M Q=tA τ M λxs M1=>xs.length<=An/\∀p,M1 p=none->Q (.ref p) (put M1 p (.lst xs)):=rfl
theorem kZ :dO r tA τ M Q=tA τ M λxs M1=>r xs M1 Q:=rfl
theorem rh :Rc sp tA τ M Q=tA τ M λxs M1=>sp xs M1 Q:=rfl
theorem aZ:Pc τ M QO=QO none M:=rfl
theorem Xp:T7 te τ M QO=te τ M λx M1=>Fb x λi=>QO (some i) M1:=rfl
theorem PM :sC r te tl th τ M Q=te τ M λx M1=>tl τ M1 λl M2=>th τ M2 λu M3=>r x l u M3 Q:=rfl
theorem se:T9 E τ M=E.nx τ M:=rfl
theorem uV:YB s1 s2 E τ M=s1 {E with nx:=s2 E} τ M:=rfl
theorem Sq:Ra E τ M=False:=rfl
theorem rj:Uc te E τ M=te τ M λ_ M1=>E.nx τ M1:=rfl
theorem uO:YE te E τ M=te τ M E.rt:=rfl
theorem mi:YI tt s1 s2 E τ M=tt τ M λb M1=>if b=true then s1 E τ M1 else s2 E τ M1:=rfl
theorem lx :Vh te g E τ M=te τ M λx M1=>g x τ λτ'=>E.nx τ' M1:=rfl
theorem mh :YK ti g s1 E τ M=ti τ M λxs S M1=>Wn xs S g s1 E τ M1:=rfl
theorem Zl:sD te τ M Q=te τ M λx M1=>Cw (Bg M1 x) λds=>Cw (EG ds) λxs=>xs.length+1<Bh/\(fm xs).length<64/\∀p,M1 p=none->Q (.ref p) (put M1 p (.lst ((Je xs).map D.str))):=rfl
theorem xf :T5 te τ M R=te τ M λx M1=>Cw (Bg M1 x) λxs=>R xs (λM=>Bg M x=some xs) M1:=rfl
theorem gD :T4 tA τ M R=tA τ M λxs M1=>GH xs λx=>Fb x λj=>(-(2^62)<=j/\j<2^62)/\R (Ov 0 j.toNat) (λ_=>True) M1:=rfl
theorem w5 :GQ wi caps tt te τ M Q=wi τ M λxs S M1=>Ev xs S caps tt te τ M1 λys M2=>Q (.lst ys) M2:=rfl
theorem vI :Pe wi caps tt te τ M Q=wi τ M λxs S M1=>Ev xs S caps tt te τ M1 λys M2=>∀p,M2 p=none->Q (.ref p) (put M2 p (.lst ys)):=rfl
theorem lB :sH T r te tA τ M Q=te τ M λx M1=>NF M1 x=some T/\tA τ M1 λxs M2=>r x xs M2 Q:=rfl
theorem nR :YM T r te τ M Q=te τ M λx M1=>NF M1 x=some T/\r x [] M1 Q:=rfl
theorem Xk:Ue τ M Q=∀p,M p=none->Q (.ref p) (put M p (.dic [])):=rfl
theorem Xl:Ud ta tb tc E τ M=tc τ M λv M1=>ta τ M1 λx M2=>tb τ M2 λy M3=>Ko x λp=>Sh y λk=>K1 (M3 p) λAG=>AG.length<An/\E.nx τ (put M3 p (.dic (HM AG k v))):=rfl
theorem ri:Uf ta tb τ M Q=ta τ M λx M1=>tb τ M1 λy M2=>Cw (E6 M2 x) λAG=>Sh y λk=>Cw (DA AG k) λv=>Q v M2:=rfl
theorem vm :Yt tA τ M R=tA τ M λds M1=>FW ds λx y=>Cw (Bg M1 x) λxs=>Cw (Bg M1 y) λys=>R (LF xs ys) (λM=>Bg M x=some xs/\Bg M y=some ys) M1:=rfl
theorem vO :Q8 te τ M R=te τ M λx M1=>Cw (ZQ x) λAG=>R (AG.map λp=>kD p.1) (λ_=>True) M1:=rfl
theorem vj :Yv te τ M R=te τ M λx M1=>GG x λz=>(z.cps.all λc=>decide (c<128))=true/\R (KW z) (λ_=>True) M1:=rfl
theorem uF :ZQ (.dic AG)=some AG:=rfl
theorem oJ:HA τ M QT=QT true M:=rfl
theorem So:YJ te τ M Q=te τ M λd M1=>Ko d λp=>match M1 p with | some (.lst ds)=>Q (.lst ds) (J2 M1 p) | some (.dic ds)=>Q (.dic ds) (J2 M1 p) | some (.dct ds)=>Q (.dct ds) (J2 M1 p) | _=>False:=rfl
theorem vk :Yu te τ M R=te τ M λx M1=>match x with | .tup xs=>R xs (λ_=>True) M1 | _=>False:=rfl
theorem uN :Fb (.int i) k=k i:=rfl
theorem uM :Qx (.bl b) k=k b:=rfl
theorem eO :GG (.str z) k=k z:=rfl
theorem RK :Ko (.ref p) k=k p:=rfl
theorem BS :Cw (some a) k=k a:=rfl
theorem sh :Sh (.int i) k=k (.inl i):=rfl
theorem oI :Sh (.str z) k=k (.inr z):=rfl
theorem Xo :K1 (some (.dic AG)) k=k AG:=rfl
theorem W7 :E6 M (.dic AG)=some AG:=rfl
def xb :K1 (put M p (.dic AG) p) k=k AG:=by simp[K1,Di]
def sW (h:M p=some (.dic AG)):E6 M (.ref p)=some AG:=by simp[E6,h]
theorem uH :Vl n x y M Q=Cw (E6 M y) λAG=>Sh x λk=>Q (.bl (if n then !(DA AG k).isSome else(DA AG k).isSome)) M:=rfl
theorem nh:Y7 x y M Q=GG x λz=>Fb y λi=>z.length<=An/\Cw (F3 z.cps.toList i) λc=>Q (.str ⟨#[c]⟩) M:=rfl
theorem eJ :GH [x] k=k x:=rfl
theorem uL :FW [x,y] k=k x y:=rfl
theorem Zm :sI C g (.int i) (.int j) M Q=(C i j/\Q (g i j) M):=rfl
theorem uU :Rm g (.int i) (.int j) M Q=Q (g i j) M:=rfl
theorem Ox :sU g (.int i) M Q=Q (g i) M:=rfl
theorem uG:Zc false (.int i) (.int j) M Q=(true=true/\Q (.bl (decide (i=j))) M):=rfl
theorem uJ:Zc true (.int i) (.int j) M Q=(true=true/\Q (.bl (!decide (i=j))) M):=rfl
theorem me :Zc false (.str z) (.str z') M Q=(true=true/\Q (.bl (decide (z=z'))) M):=rfl
theorem eI :Za c [x,.ty c'] M Q=(c'=c/\Cw (NF M x) λt=>Cw (Nn t c) λb=>Q (.bl b) M):=rfl
theorem nj:Mq (.tup xs) (.int i) M Q=Cw (F3 xs i) λv=>Q v M:=rfl
theorem mj:Y8 x y M Q=Cw (Bg M x) λxs=>Fb y λi=>Cw (F3 xs i) λv=>Q v M:=rfl
theorem eS :Y5 x l u M Q=Cw (Bg M x) λxs=>Q (.lst (cutD xs l u)) M:=rfl
theorem uW :Y4 (.tup xs) l u M Q=(¬(HT.sIx xs.length 0 l=0/\HT.sIx xs.length xs.length u=xs.length)/\Q (.tup (cutD xs l u)) M):=rfl
theorem aJ:Um x y M Q=Cw (Bg M x) λxs=>Cw (Bg M y) λys=>xs.length+ys.length<=An/\Q (.lst (xs++ys)) M:=rfl
theorem ma:Ze x y M Q=Cw (Bg M x) λxs=>Cw (Bg M y) λys=>xs.length+ys.length<=An/\∀p,M p=none->Q (.ref p) (put M p (.lst (xs++ys))):=rfl
theorem vL :Ou n (.tup xs) (.tup ys) M Q=Cw (Gx (E7 M 40) xs ys) λb=>Q (.bl (if n then !b else b)) M:=rfl
theorem rz :Ou n (.ref p) y M Q=Cw (Bg M (.ref p)) λxs=>Cw (Bg M y) λys=>Cw (Gx (E7 M 40) xs ys) λb=>Q (.bl (if n then !b else b)) M:=rfl
theorem Xm :Ou n (.lst xs) y M Q=Cw (Bg M y) λys=>Cw (Gx (E7 M 40) xs ys) λb=>Q (.bl (if n then !b else b)) M:=rfl
theorem yA:EF (.int i)=true:=rfl
theorem UI:EF (.str z)=true:=rfl
theorem vK:Lh (.int i) (.int j)=decide (i=j):=rfl
theorem rm :Lh (.str z) (.str z')=decide (z=z'):=rfl
theorem LH :jX n x y M Q=Cw (HK M y) λys=>ys.all EF=true/\EF x=true/\Q (.bl (if n then !(ys.any λz=>Lh z x)else ys.any λz=>Lh z x)) M:=rfl
theorem uI:Bg M (.lst xs)=some xs:=rfl
theorem oh:HK M (.lst xs)=some xs:=rfl
theorem nV:HK M (.tup xs)=some xs:=rfl
def UB:Bg (put M p (.lst xs)) (.ref p)=some xs:=by simp[Bg,Di]
def uX:HK (put M p (.lst xs)) (.ref p)=some xs:=by simp[HK,Bg,Di]
def Pg (h:M p=some (.lst xs)):Bg M (.ref p)=some xs:=by simp[Bg,h]
theorem yC:NF M (.int i)=some "int":=rfl
theorem xc:NF M (.str z)=some "str":=rfl
theorem gS:NF M (.lst xs)=some "list":=rfl
def p9:NF (put M p (.lst xs)) (.ref p)=some "list":=WV Di
def ZeP:Nn "int" "tuple" = some false:=by nofun
def ZeN:Nn "str" "tuple" = some false:=by nofun
def ZeO:Nn "list" "list" = some true:=by nofun
def Zdd:Nn "tuple" "tuple" = some true:=by nofun
def W3 :F3 (x::xs) 0=some x:=Pk rfl
def kj :F3 (x::y::xs) 1=some y:=Pk rfl
def ki :F3 (x::y::z::xs) 2=some z:=Pk rfl
def W2 :F3 (x::y::z::w::xs) 3=some w:=Pk rfl
theorem nW :Y3 h T (.ref h) (.str z) M Q=(h=h/\Cw (T.lookup z) λv=>Q (.int v) M):=rfl
def VR:Hr (.ref p) [x] (put M p (.lst xs)) Q=(xs.length<An/\Q .non (put M p (.lst (xs++[x])))):=by simp[Hr,Ko,GH,Di,QG]
def nT :GD (.ref p) [.lst zs] (put M p (.lst xs)) Q=(xs.length+zs.length<=An/\Q .non (put M p (.lst (xs++zs)))):=by simp[GD,Ko,GH,Di,QG,Bg,Cw]
theorem w9 :Oo wi n caps tt te τ M Q=wi τ M λxs S M1=>LZ n xs S caps tt te τ M1 λys M2=>∀p,M2 p=none->Q (.ref p) (put M2 p (.lst ys)):=rfl
theorem gC :Cw (E6 M (.dic AG)) k=k AG:=rfl
theorem Mn :Et (n::N) (d::ds)=some d::Et N ds:=rfl
theorem Ml :Et (n::N) []=none::Et N []:=rfl
theorem Mm:Et [] []=[]:=rfl
theorem ly :MC τ caps v=v::caps.map λc=>(τ[c.2]?).join:=rfl
def up (xs)(k:Nat):cutD xs none (some (k:Int))=xs.take k:=by
 unfold cutD;rw[HT.sIx_none,HT.sIx_nat,Mb,NW];by_cases h:k<=xs.length
 .rw[Ft h]
 .rw[FF (by ext),Bm,BR (by ext)]
def ZmB (xs){k:Nat}:cutD xs (some (k:Int)) none=xs.drop k:=by
 unfold cutD;rw[HT.sIx_none,HT.sIx_nat];by_cases h:k<=xs.length
 .rw[Ft h,BR (by rw[Gn];exact AL _)]
 .rw[FF (by ext),JR,L6,NB (by ext)]
def ZkI (xs){k:Int}(h:0<=k):cutD xs (some k) none=xs.drop k.toNat:=by
 have e:k=((k.toNat:Nat):Int):=by ext
 rw[e,ZmB,BH]
def cutD_toI (xs:List D)(h:0<=k):cutD xs none (some k)=xs.take k.toNat:=by
 have e:k=((k.toNat:Nat):Int):=by ext
 rw[e,up,BH]
def qj :cutD (x::r) (some 1) (some 1)=[]:=by
 unfold cutD;rw[show(some (1:Int))=some ((1:Nat):Int)from rfl,HT.sIx_nat,HT.sIx_nat,JR,L6]
def oF (h:k=1+(ks.length:Int)):cutD (x::(ks++more)) (some 1) (some k)=ks:=by
 subst h;unfold cutD
 have e1:HT.sIx (x::(ks++more)).length 0 (some 1)=1:=by
  rw[show(some (1:Int))=some ((1:Nat):Int)from rfl,HT.sIx_nat,AO];ext
 have e2:HT.sIx (x::(ks++more)).length (x::(ks++more)).length (some (1+(ks.length:Int)))=1+ks.length:=by
  rw[show(1+(ks.length:Int))=((1+ks.length:Nat):Int) by ext,HT.sIx_nat,AO,Aq];ext
 rw[e1,e2,List.drop_succ_cons,Mb,HH,List.take_left]
def qk :cutD (x::a::r) (some 1) (some 2)=[a]:=oF (ks:=[a]) rfl
def ql :cutD (x::a::b::r) (some 1) (some 3)=[a,b]:=oF (ks:=[a,b]) rfl
def qo :cutD (x::a::b::c::r) (some 1) (some 4)=[a,b,c]:=oF (ks:=[a,b,c]) rfl
def Y9 :HT.sIx (n+1) 0 (some 1)=1:=by
 rw[show(some (1:Int))=some ((1:Nat):Int)from rfl,HT.sIx_nat];ext
def Nt {α:Type}{g:α->D}{xs:List α}{i:Nat}{d:D}(h:(xs.map g)[i]? = some d):∃x,xs[i]? = some x/\d=g x:=by
 rw[AI]at h;cases e:xs[i]? with
 |none=>rw[e]at h;cases h
 |some x=>rw[e]at h;exact⟨x,rfl,(AZ h).symm⟩
noncomputable def Jj:List D->Option (List Int)
 |[]=>some []
 |.int n::r=>(Jj r).map (n::·)
 |_::_=>none
theorem cy:∀ns,Jj (ns.map D.int)=some ns
 |[]=>rfl
 |n::r=>by rw[AU,Jj,cy r];rfl
theorem bq:∀{xs:List D}{ns:List Int},Jj xs=some ns->xs=ns.map D.int
 |[],ns,h=>by cases h;rfl
 |x::r,ns,h=>by
  cases x with
  |int n=>
   rw[Jj]at h;cases e:Jj r with
   |none=>rw[e]at h;cases h
   |some ms=>rw[e]at h;cases h;rw[bq e];rfl
  |_=>cases h
def Ι (h:Bg M x=some xs):HK M x=some xs:=by
 cases x with
 |tup ys=>cases h
 |_=>exact h
def PR (M:Mp)(x:D)(k:List Int->Prop):Prop:=Cw (Bg M x) λxs=>Cw (Jj xs) k
def nO (h:PR M x k):∃ns,Bg M x=some (ns.map D.int)/\HK M x=some (ns.map D.int)/\k ns:=by
 obtain⟨xs,e,h1⟩:=Cm h;obtain⟨ns,e2,q⟩:=Cm h1;rw[bq e2]at e;exact⟨ns,e,Ι e,q⟩
def Xx :PR M (.lst (ns.map D.int)) k=k ns:=by unfold PR;rw[uI,BS,cy,BS]
def zf (M)(n)(a b):E7 M n (.int a) (.int b)=some (decide (a=b)):=by cases n<;>rfl
def xV (M)(n)(a b)(xs ys):Gx (E7 M n) (.int a::xs) (.int b::ys)=(Gx (E7 M n) xs ys).map (decide (a=b) && ·):=by
 rw[Gx,zf];cases Gx (E7 M n) xs ys<;>rfl
theorem xW :Gx f [] []=some true:=rfl
theorem mM:((0:Nat):Int)=0:=rfl
theorem mL:((2:Nat):Int)=2:=rfl
def gH (M)(n)(xs):Gx (E7 M n) xs []=some xs.isEmpty:=by cases xs<;>rfl
def none_of (s:Sub M M')(h:M' p=none):M p=none:=by
 cases e:M p with
 |none=>rfl
 |some o=>rw[s p o e]at h;cases h
def pY (h:put M p o q=none):M q=none:=by
 unfold put at h;split at h
 .cases h
 .exact h
def XE {K:Ac}(no:∀ds M Q,¬sp ds M Q):FnOk P w K mg base CX0 k f fd ps (lSp K sp):=
 ⟨λvs H Q E ⟨Z,ds,M,Q2,_,_,h,_⟩=>absurd h (no ds M Q2),λA outer s H args us vs Q E _ _ _ _ ⟨Z,ds,M,Q2,_,_,h,_⟩=>absurd h (no ds M Q2)⟩
def RJ (s:Sub M M')(h:Q d M):Dn Q d M':=⟨M,s,h⟩
def GS (h:n<=1000):n<=An:=FK (BU h)
def sJ (h:n<=1000):(n<=An)=True:=eq_true (GS h)
section
variable {P:Bs}{w:BK}{K:Ac}{mg:Str->Option Ai}{base:CN}{x qual:Str}{st:C6}{f:Av}{fd:Dy}{N ps:List Str}{k:Nat}
def CB.p1 {B:D->Mp->Ef->Prop}(F:CB K x qual st f fd)(N:List Str)
  (hb:∀ {cdv:Ai} {A:CH} {outer:List Env} {s:As} {H:Hp} {E:XK} (d0:D) (M:Mp) (Q:Ef),Db k (A.deeper (FN qual (Ig st) s.heap.objs.size f cdv))->N.Nodup->B d0 M Q ->
   ∃ t:Hw,Dg (FZ CX0 P w K mg base N qual (Ig st) f cdv A outer s H E).nox (NL st) t/\t { nx:=λ_ M'=>Dn Q .non M',rt:=Dn Q } (Et N [d0]) M) (S:autoParam (EA N ps (Ig st)) ZS) (hl:autoParam (ps.length=1) BV):FnOk P w K mg base CX0 (k+1) f fd ps (lSp K λds M Q=>GH ds λd0=>B d0 M Q) :=
 CB.ok2 F S (λds M Q h=>by obtain⟨d0,rfl,_⟩:=GV h;exact hl.symm) λcdv A outer s H E ds M Q hr h=>by
  obtain⟨d0,rfl,h⟩:=GV h;exact hb d0 M Q hr S.nd h
def CB.p2 {B:D->D->Mp->Ef->Prop}(F:CB K x qual st f fd)(N:List Str)
  (hb:∀ {cdv:Ai} {A:CH} {outer:List Env} {s:As} {H:Hp} {E:XK} (d0 d1:D) (M:Mp) (Q:Ef),Db k (A.deeper (FN qual (Ig st) s.heap.objs.size f cdv))->N.Nodup->B d0 d1 M Q ->
   ∃ t:Hw,Dg (FZ CX0 P w K mg base N qual (Ig st) f cdv A outer s H E).nox (NL st) t/\t { nx:=λ_ M'=>Dn Q .non M',rt:=Dn Q } (Et N [d0,d1]) M) (S:autoParam (EA N ps (Ig st)) ZS) (hl:autoParam (ps.length=2) BV):FnOk P w K mg base CX0 (k+1) f fd ps (lSp K λds M Q=>FW ds λd0 d1=>B d0 d1 M Q) :=
 CB.ok2 F S (λds M Q h=>by obtain⟨d0,d1,rfl,_⟩:=LI h;exact hl.symm) λcdv A outer s H E ds M Q hr h=>by
  obtain⟨d0,d1,rfl,h⟩:=LI h;exact hb d0 d1 M Q hr S.nd h
def CB.p3 {B:D->D->D->Mp->Ef->Prop}(F:CB K x qual st f fd)(N:List Str)
  (hb:∀ {cdv:Ai} {A:CH} {outer:List Env} {s:As} {H:Hp} {E:XK} (d0 d1 d2:D) (M:Mp) (Q:Ef),Db k (A.deeper (FN qual (Ig st) s.heap.objs.size f cdv))->N.Nodup->B d0 d1 d2 M Q ->
   ∃ t:Hw,Dg (FZ CX0 P w K mg base N qual (Ig st) f cdv A outer s H E).nox (NL st) t/\t { nx:=λ_ M'=>Dn Q .non M',rt:=Dn Q } (Et N [d0,d1,d2]) M) (S:autoParam (EA N ps (Ig st)) ZS) (hl:autoParam (ps.length=3) BV):FnOk P w K mg base CX0 (k+1) f fd ps (lSp K λds M Q=>Js ds λd0 d1 d2=>B d0 d1 d2 M Q) :=
 CB.ok2 F S (λds M Q h=>by obtain⟨d0,d1,d2,rfl,_⟩:=Tb h;exact hl.symm) λcdv A outer s H E ds M Q hr h=>by
  obtain⟨d0,d1,d2,rfl,h⟩:=Tb h;exact hb d0 d1 d2 M Q hr S.nd h
def CB.p4 {B:D->D->D->D->Mp->Ef->Prop}(F:CB K x qual st f fd)(N:List Str)
  (hb:∀ {cdv:Ai} {A:CH} {outer:List Env} {s:As} {H:Hp} {E:XK} (d0 d1 d2 d3:D) (M:Mp) (Q:Ef),Db k (A.deeper (FN qual (Ig st) s.heap.objs.size f cdv))->N.Nodup->B d0 d1 d2 d3 M Q ->
   ∃ t:Hw,Dg (FZ CX0 P w K mg base N qual (Ig st) f cdv A outer s H E).nox (NL st) t/\t { nx:=λ_ M'=>Dn Q .non M',rt:=Dn Q } (Et N [d0,d1,d2,d3]) M) (S:autoParam (EA N ps (Ig st)) ZS) (hl:autoParam (ps.length=4) BV):FnOk P w K mg base CX0 (k+1) f fd ps (lSp K λds M Q=>Vy ds λd0 d1 d2 d3=>B d0 d1 d2 d3 M Q) :=
 CB.ok2 F S (λds M Q h=>by obtain⟨d0,d1,d2,d3,rfl,_⟩:=ZB h;exact hl.symm) λcdv A outer s H E ds M Q hr h=>by
  obtain⟨d0,d1,d2,d3,rfl,h⟩:=ZB h;exact hb d0 d1 d2 d3 M Q hr S.nd h
def CB.p5 {B:D->D->D->D->D->Mp->Ef->Prop}(F:CB K x qual st f fd)(N:List Str)
  (hb:∀ {cdv:Ai} {A:CH} {outer:List Env} {s:As} {H:Hp} {E:XK} (d0 d1 d2 d3 d4:D) (M:Mp) (Q:Ef),Db k (A.deeper (FN qual (Ig st) s.heap.objs.size f cdv))->N.Nodup->B d0 d1 d2 d3 d4 M Q ->
   ∃ t:Hw,Dg (FZ CX0 P w K mg base N qual (Ig st) f cdv A outer s H E).nox (NL st) t/\t { nx:=λ_ M'=>Dn Q .non M',rt:=Dn Q } (Et N [d0,d1,d2,d3,d4]) M) (S:autoParam (EA N ps (Ig st)) ZS) (hl:autoParam (ps.length=5) BV):FnOk P w K mg base CX0 (k+1) f fd ps (lSp K λds M Q=>ZA ds λd0 d1 d2 d3 d4=>B d0 d1 d2 d3 d4 M Q) :=
 CB.ok2 F S (λds M Q h=>by obtain⟨d0,d1,d2,d3,d4,rfl,_⟩:=Vz h;exact hl.symm) λcdv A outer s H E ds M Q hr h=>by
  obtain⟨d0,d1,d2,d3,d4,e1',h⟩:_:=Vz h;exact hb d0 d1 d2 d3 d4 M Q hr S.nd h
end
end L3
namespace SH
open PySem PySem.W PySem.Calls PyProof.Rows
noncomputable def ON :List α->List α
 |a::_::l=>a::ON l
 |[a]=>[a]
 |[]=>[]
theorem oV :∀(l:List α) (i:Nat),(ON l)[i]? = l[2*i]?
 |[],i=>by simp[ON]
 |[a],0=>by simp[ON]
 |[a],i+1=>by simp[ON,WE]
 |a::b::l,0=>by simp[ON]
 |a::b::l,i+1=>by simp only[ON,Fe,WE,Nat.mul_one];exact oV l i
theorem oW :∀(l:List α),(ON l).length=(l.length+1) / 2
 |[]=>by simp[ON]
 |[a]=>by simp[ON]
 |a::b::l=>by simp only[ON,AO,oW l];ext
noncomputable def Tc:Nat->List Obj->BT
 |0,_=>.nil
 |_+1,[]=>.nil
 |n+1,o::l=>.node o (Tc n (ON l)) (Tc n (ON l.tail))
theorem pR:∀(n:Nat) (l:List Obj),l.length<2^n->∀i,(Tc n l).get i=l[i]?
 |0,l,h,i=>by
  have:=List.length_eq_zero_iff.mp (by simpa using h);subst this;simp[Tc,BT.get]
 |n+1,[],_,i=>by simp[Tc,BT.get]
 |n+1,o::l,h,i=>by
  have hl:l.length+1<2^n*2:=by simpa[Nat.pow_succ]using h
  have ha:(ON l).length<2^n:=by rw[oW];ext
  have hb:(ON l.tail).length<2^n:=by rw[oW,List.length_tail];ext
  unfold Tc;rw[BT.get_node,pR n _ ha,pR n _ hb,oV,oV];by_cases h0:i=0
  .subst h0;simp
  .rw[if_neg h0];by_cases p:i%2=1
   .rw[if_pos p,show 2*(i / 2)=i-1 by ext,Qs];simp[h0]
   .rw[if_neg p,List.getElem?_tail,show 2*(i / 2-1)+1=i-1 by ext,Qs];simp[h0]
def we (h:l.length<2^n):absHeap (Tc n l) l.length life=⟨l.toArray,life⟩:=by
 have:((Tc n l).list l.length)=l:=by
  apply FM;intro i;unfold BT.list;rw[AI];by_cases hi:i<l.length
  .rw[ET hi,FH,pR n l h,Af hi];rfl
  .rw[BA (by rw[Ch];ext),BA (by ext)];rfl
 unfold absHeap;rw[this]
noncomputable def KJ (tb:String->Option Es)(p:Bs)(w:BK)(n₀:Nat)(ann:Option Ai):Nat->WK->Thread->Option WK
 |0,_,_=>none
 |n+1,s,t=>match through t with
  |true=>some s
  |false=>match stepOk n₀ ann t with
   |false=>none
   |true=>match stepT (denote tb) p w s t with
    |some (s',t')=>KJ tb p w n₀ ann n s' t'
    |none=>none
theorem cg :∀{n:Nat}{s s':WK}{t:Thread},KJ tb p w n₀ ann n s t=some s'->topRun tb p w n₀ ann n s.abs t=some s'.abs
 |0,_,_,_,h=>by cases h
 |n+1,s,s',t,h=>by
  unfold KJ at h;unfold topRun;cases he:through t with
  |true=>rw[he]at h;cases h;rfl
  |false=>
   rw[he]at h;cases hk:stepOk n₀ ann t with
   |false=>rw[hk]at h;cases h
   |true=>
    rw[hk]at h;cases hs:stepT (denote tb) p w s t with
    |none=>rw[hs]at h;cases h
    |some r=>obtain⟨s₂,t₂⟩:=r;rw[hs]at h;rw[stepT_spec hs];exact cg h
noncomputable def VL (H₀:CN)(os:WL):WK:=⟨Tc 14 H₀.objs.toList,H₀.objs.toList.length,H₀.life,#[],N5,Qd,os⟩
def ze (H₀:CN)(os:WL)(h:Nat.blt H₀.objs.toList.length (2^14)=true):(VL H₀ os).abs=⟨H₀,#[],N5,Qd,os⟩:=by
 unfold VL SharedT.abs;dsimp only;rw[we (O1 h)]
noncomputable def ZF (p q:Bs)(loose:List Str)(Xt:As->Bool)(Yf:As->α)(H₀:CN)(s:As):=
 (staticsOk (MZ p.main.body) H₀ s.heap && namesBound p s.heap && gensDone s && laidKept H₀ s.heap,openSeen q loose (MZ p.main.body) Xt true s,Yf s)
noncomputable def whole (H₀:CN)(p q:Bs)(loose:List Str)(Xt:As->Bool)(Yf:As->α)(n₀:Nat)(ann:Option Ai)(M:Nat)(w:BK)(os:WL):=
 (KJ XV p w n₀ ann M (VL H₀ os) (topStub p)).map λs=>ZF p q loose Xt Yf H₀ s.abs
def left_of
  (e:opening p=plainProg p.main.scope.names) (hN:Nat.ble 600 N=true) (f:∀s,fenceModules? p s=some s) (hb:∀P,Nat.blt (ED P).objs.toList.length (2^14)=true)
  (size:∀w:BK,((ED w.params).isNs BF && (#[]:Array jG).size == 0,(ED w.params).objs.size,(ED w.params).nsMap BF "__annotations__")=(true,n₀,ann)) (le:Nat.ble M N=true)
  (run:∀w os,whole (ED w.params) p q loose Xt Yf n₀ ann M w os=some (true,openGood q loose,Ya w)):LeftO p q loose Xt Yf Ya N:=λw=>by
 obtain⟨⟨h,gs,d,k,os⟩,e,e'⟩:=Fg.mp (boot_open e hN f w);obtain⟨rfl,rfl,rfl,rfl⟩:h=ED w.params/\gs=#[]/\d=N5/\k=Qd:=by simpa using e'
 obtain⟨z1,z2,z3⟩:_/\_/\_:=by simpa only[R8]using size w
 obtain⟨s,hs,l⟩:=Fg.mp (run w os);have r:=cg hs;rw[ze _ _ (hb _)]at r;have l1:(_ && _)=true:=congrArg Prod.fst l;have l2:=congrArg (λx=>x.2.1) l;have l3:=congrArg (λx=>x.2.2) l;have r:=topRun_mono (N-M) _ _ _ _ r;rw[show M+(N-M)=N by have:=O1 le;ext]at r
 have t:topFrom XV p w N ⟨ED w.params,#[],N5,Qd,os⟩=some s.abs:=by
  unfold topFrom;dsimp only;rw[z1,z2,z3,r];show(match staticsOk (MZ p.main.body) (ED w.params) s.abs.heap && namesBound p s.abs.heap && gensDone s.abs && laidKept (ED w.params) s.abs.heap with | true=>_ | false=>_)=_;rw[l1]
 unfold openEnds;rw[e];show(topFrom XV p w N _).map _=_;rw[t];exact congrArg some (TY l2 l3)
end SH
namespace L3
open PySem PySem.Spec PyProof.Rows L2
section
unseal BW
def ZgO {vs:List Ai}{ys:List Str}(h:BO (ys.map V.str) vs):Lx vs ys:=by
 induction ys generalizing vs with
 |nil=>cases h;exact .nil
 |cons y ys ih=>
  cases h with
  |cons h t=>obtain⟨u,rfl⟩:=h;exact .cons y u (ih t)
end
end L3
namespace L2
open PySem PySem.Spec PyProof.Rows
def bG (h:-(2^62)<=a)(h':a<2^62):Jr a=true:=by
 unfold Jr;simp only[decide_eq_true_eq,Br];ext
end L2
namespace L3
open PySem PySem.Spec PyProof.Rows L2
unseal B3 Ij JQ Gd KN Gc Dg Cq Gb BW F0 Gz Ll HP EX
theorem ats_strs :∀ss:List Str,DH Z (ss.map V.str) (ss.map D.str)
 |[]=>.nil
 |_::r=>.cons rfl (ats_strs r)
def OF (o:Option MO)(k:List D->Prop):Prop:=match o with
 |some (.lst xs)=>k xs
 |_=>False
def nQ (h:OF o k):∃xs,o=some (.lst xs)/\k xs:=by
 cases o with
 |none=>exact h.elim
 |some u=>cases u with
  |lst xs=>exact⟨xs,rfl,h⟩
  |_=>exact h.elim
theorem si :OF (some (.lst xs)) k=k xs:=rfl
end L3
namespace L2
open PySem PySem.Spec PyProof.Rows
section
variable {prog:Bs}{w:BK}{A:CH}{E:Ai->As->Prop}{s:As}{r:Av}{a b:Int}{t u v:Tok}{Q:Ai->As->Prop}
end
end L2
namespace L3
open PySem PySem.Spec PyProof.Rows L2
unseal B3 Ij JQ Gd KN Gc Dg Cq Gb BW F0 Gz Ll HP EX
end L3
namespace L2
open PySem PySem.Spec PyProof.Rows
structure K8 (P:Bs)(w:BK)(H H':Hp)(h h':CN)(fs:List Av)(e:Av)(cls:Ai):Prop where
 un:Un fs [] H H' h h'
 hok:HQ P w H' h'
 new:h.get? e=none
 he:H' e=none
 tr:∃oe vs T oT ts a0,h'.get? e=some oe/\oe.cls=cls/\oe.data=.fields vs/\vs[0]? = some a0/\vs[1]? = some (.ref T)/\T≠e/\h.get? T=none/\H' T=none/\h'.get? T=some oT/\oT.data=.fields ts/\ts[3]? = some .none
def Kr (P:Bs)(w:BK):Ws:=λouter H s E e s'=>∃a cls H',e=.ref a/\s'.os=s.os/\G9 s'.gens/\K8 P w H H' s.heap s'.heap (Eu outer) a cls/\E cls none H'
theorem bJ {h base B:CN}:∀{l:List Env},h.FunFrames base l->(∀b∈Eu l,B.get? b=none)->h.FunFrames B l
 |[],_,_=>trivial
 |env::C2,hf,hB=>by
  rw[Heap.FunFrames.eq_2]at hf ⊢;obtain⟨k,⟨L,o,e1,e2,e3,e4⟩,r⟩:_:=hf;exact⟨k,⟨L,o,e1,hB L (by unfold Eu;rw[Bq,e1];exact Aw),e3,e4⟩,bJ r λb hb=>hB b (by unfold Eu at hb ⊢;rw[Bq,e1];exact Ay _ hb)⟩
def HQ.keptT (x:HQ P w H h)(k:∀b u,H b≠none->h.get? b=some u->h'.get? b=some u):HQ P w H h':=λa o e=>
 (x a o e).stay (λb u hb q=>k b u (by rcases hb with rfl | hb<;>simp[*]) q) (λ_ q=>q) λ_ _ q=>q
def μ {h:CN}(e:h.objs.size<=a):h.get? a=none:=by
 cases q:h.get? a with
 |none=>rfl
 |some o=>exact absurd (Bj (Ar q) e) (EC _)
def CK.there (x:CK P w H h a o):∃ob,h.get? a=some ob:=by
 cases o with
 |lst xs=>obtain⟨_,_,_,_,e⟩:=x;exact⟨_,e⟩
 |tup xs=>obtain⟨_,_,_,ob,e,_⟩:=x;exact⟨_,e⟩
 |dK AG=>obtain⟨_,_,_,_,o,_,_,e,_⟩:=x;exact⟨_,e⟩
 |dT AG=>obtain⟨_,_,_,_,o,_,_,e,_⟩:=x;exact⟨_,e⟩
 |set S n=>obtain⟨o,_,_,_,e,_⟩:=x;exact⟨_,e⟩
 |ins C dx fs=>obtain⟨_,_,_,e,_⟩:=x;exact⟨_,e⟩
 |own y=>exact x
 |xd fs=>obtain⟨_,⟨_,_,_,e,_⟩,_⟩:=x;exact⟨_,e⟩
 |rng lo hi=>obtain⟨_,_,_,e⟩:=x;exact⟨_,e⟩
 |frz ob u=>obtain⟨e,_⟩:=x;exact⟨_,e⟩
 |tbl ps=>exact⟨_,(show h.get? a=some _ from x)⟩
 |met f y=>exact⟨_,(show h.get? a=some _ from x)⟩
 |ext φ=>obtain⟨_,e,_⟩:=x;exact e
def e8 {X:Cx}(ok:X.Ok)(hst:X.stack=X.env::X.outer)(hfr:X.env.frame=some X.env.locals)
  (u1:Un (Eu X.outer) [X.env.locals] X.H₀ H' X.s₀.heap h1) (ok1:HQ X.prog X.w H' h1) (ff1:h1.FunFrames X.base X.stack) (fr1:∀b∈Eu X.stack,H' b=none)
  (hh:∀t∈e::hid,X.s₀.heap.get? t=none/\H' t=none/\t∉Eu X.stack) (lw:(Do h1 (e::hid++Eu X.stack)).LeftW X.stack e cls a0 h1 h2):K8 X.prog X.w X.H₀ H' X.s₀.heap h2 (Eu X.outer) e cls:=by
 have hL:=μ ok.above;obtain⟨stay,ff2,⟨oe,vs,T,oT,ts,t1,⟨t2,t2'⟩,t3,t4,t5,t6,t7,t8,t9⟩,slots⟩:_:=lw;have frsE:Eu X.stack=X.env.locals::Eu X.outer:=by rw[hst];unfold Eu;rw[Bq,hfr]
 have keepB:∀{b o},h1.get? b=some o->b∉e::hid->b∉Eu X.stack->h2.get? b=some o:=λ{b o} q n1 n2=>stay b o (HV _ q (λz=>by rcases AQ.mp z with z | z;exact n1 z;exact n2 z))
 have frame:∀{b o},h1.get? b=some o->b∈Eu X.stack->∃sl,h2.get? b=some {o with slots:=sl}:=λ{b o} q hb=>by
  obtain⟨_,o',q',d⟩:=ff1.mem hb;rw[q]at q';cases q';exact slots b o q d
 have ne0:∀{b o},X.s₀.heap.get? b=some o->b∉e::hid/\b≠X.env.locals:=λ{b o} q=>⟨(λz=>by rw[(hh b z).1]at q;cases q),(λz=>by rw[z,hL]at q;cases q)⟩
 have tfs:T∉Eu X.stack:=λz=>by
  obtain⟨_,o',q',d⟩:=ff2.mem z;rw[t7]at q';cases q';exact d ts t8
 have tH:h1.get? T=none\/T∈e::hid:=by
  cases q:h1.get? T with
  |none=>exact .inl rfl
  |some o=>
   by_cases z:T∈e::hid
   .exact .inr z
   .rw[HV _ q (λz'=>by rcases AQ.mp z' with z' | z';exact z z';exact tfs z')]at t5;cases t5
 have tN:X.s₀.heap.get? T=none:=by
  rcases tH with q|q
  .cases r:X.s₀.heap.get? T with
   |none=>rfl
   |some o=>obtain⟨o',q'⟩:=u1.there T o r (λz=>(ne0 r).2 (AD.mp z));rw[q]at q';cases q'
  .exact(hh T q).1
 have tK:H' T=none:=by
  rcases tH with q|q
  .cases r:H' T with
   |none=>rfl
   |some o=>obtain⟨ob,q'⟩:=(ok1 T o r).there;rw[q]at q';cases q'
  .exact(hh T q).2.1
 refine⟨?_,ok1.keptT λb u hb q=>keepB q (λz=>hb (hh b z).2.1) (λz=>hb (fr1 b z)),(hh e Aw).1,(hh e Aw).2.1,oe,vs,T,oT,ts,a0,t1,t2,t3,t2',t4,t6,tN,tK,t7,t8,t9⟩;refine⟨λb o q n f _=>?_,λb o q n f _=>?_,λb o q n _=>?_,λb o q _=>?_,u1.tups,u1.frzs,u1.tbls⟩
 .have nL:b∉[X.env.locals]:=λz=>(ne0 q).2 (AD.mp z);exact keepB (u1.keep b o q n f nL) (ne0 q).1 (by rw[frsE];exact λz=>by rcases AR.mp z with z | z;exact(ne0 q).2 z;exact f z)
 .have nL:b∉[X.env.locals]:=λz=>(ne0 q).2 (AD.mp z);obtain⟨sl,q1⟩:=u1.slot b o q n f nL;obtain⟨sl2,q2⟩:=frame q1 (by rw[frsE];exact Ay _ f);exact⟨sl2,q2⟩
 .exact u1.free b o q n (λz=>(ne0 q).2 (AD.mp z))
 .have nL:b∉[X.env.locals]:=λz=>(ne0 q).2 (AD.mp z);obtain⟨o',q1⟩:=u1.there b o q nL;by_cases f:b∈Eu X.stack
  .obtain⟨sl,q2⟩:=frame q1 f;exact⟨_,q2⟩
  .exact⟨o',keepB q1 (ne0 q).1 f⟩
def AX.new_e (I:AX X Ad U H s)(hx:X.ex=[])(he:s.heap.get? e=none):X.s₀.heap.get? e=none/\H e=none/\e∉Eu X.stack:=by
 refine⟨?_,?_,λz=>?_⟩
 .cases q:X.s₀.heap.get? e with
  |none=>rfl
  |some o=>obtain⟨o',q'⟩:=I.base.there e o q (by rw[hx];exact λz=>nomatch z);rw[he]at q';cases q'
 .cases q:H e with
  |none=>rfl
  |some o=>obtain⟨o',q'⟩:=(I.hok e o q).there;rw[he]at q';cases q'
 .obtain⟨_,o,q,_⟩:=I.stack.mem z;rw[he]at q;cases q
def gK :∀b∈Eu l,(Do h (e::hid++Eu l)).get? b=none:=λb hb=>En _ (AS _ hb)
def Zj5 (I:AX X Ad U H s)(hx:X.ex=[])(hst:X.stack=X.env::X.outer)(hfr:X.env.frame=some X.env.locals){h':CN}{e:Av}{cls:Ai}{args:List Ai}(m:s.heap.MadeExcOf h' e cls args)(q:E cls none H) :
  Au 'd' X.A (WF X.env (.ref e)) (λ_ s''=>Kr X.prog X.w X.outer X.H₀ X.s₀ E (.ref e) s'') E₁ {s with heap:=h' }:=by
 obtain⟨t,m1,m2,m3⟩:=m.there;obtain⟨n1,n2,n3⟩:=I.new_e hx m.new;have ff:=WR (λb o q _=>⟨o,m.keeps b o q,rfl⟩) I.stack;have hs:=I.ok.frames;rw[hst]at hs;refine wpAny_leaving_firstW (base:=Do h' (e::[]++Eu X.stack)) hs (by rw[<- hst];exact bJ ff gK) hfr m1 (λb o q=>IX _ q) (En _ Aw) rfl rfl rfl λh2 lw=>?_;rw[<- hst]at lw;have u1:Un (Eu X.outer) [X.env.locals] X.H₀ H X.s₀.heap h':=(I.base.mono (λ_ z=>z) (λb z=>by rw[hx]at z;cases z)).trans (Un.kept m.keeps);exact⟨e,cls,H,rfl,I.os,I.bare,e8 I.ok hst hfr u1 (I.hok.kept m.keeps) ff I.stkFree (λt z=>by rw[AD.mp z];exact⟨n1,n2,n3⟩) lw,q⟩
def Zkv (I:AX X Ad U H s)(hx:X.ex=[])(hst:X.stack=X.env::X.outer)(hfr:X.env.frame=some X.env.locals){e:Ai}{s':As}(c:Kr X.prog X.w X.stack H s E e s') :
  Au 'd' X.A (WF X.env e) (λ_ s''=>Kr X.prog X.w X.outer X.H₀ X.s₀ E e s'') E₁ s':=by
 obtain⟨a,cls,H',e1',os,bare,th,q⟩:_:=c;obtain⟨oe,vs,T,oT,ts,a0,t1,t2,t3,t4,t5,t6,t7,t8,t9,t10,t11⟩:=th.tr;obtain⟨n1,n2,n3⟩:=I.new_e hx th.new;obtain⟨k1,k2,k3⟩:=I.new_e hx t7
 have ff:s'.heap.FunFrames X.base X.stack:=by
  have XX:∀{l:List Env},(∀b∈Eu l,b∈Eu X.stack)->s.heap.FunFrames X.base l->s'.heap.FunFrames X.base l:=by
   intro l;induction l with
   |nil=>exact λ_ _=>trivial
   |cons env C2 ih=>
    intro hsub hf;rw[Heap.FunFrames.eq_2]at hf ⊢;obtain⟨k,⟨L,o,e1,e2,e3,e4⟩,r⟩:_:=hf;have hm:L∈Eu (env::C2):=by unfold Eu;rw[Bq,e1];exact Aw
    obtain⟨sl,q⟩:=th.un.slot L o e3 (I.stkFree L (hsub L hm)) (hsub L hm) (λz=>nomatch z);refine⟨k,⟨L,_,e1,e2,q,e4⟩,ih (λb hb=>hsub b ?_) r⟩;unfold Eu at hb ⊢;rw[Bq,e1];exact Ay _ hb
  exact XX (λ_ z=>z) I.stack
 have frsE:Eu X.stack=X.env.locals::Eu X.outer:=by rw[hst];unfold Eu;rw[Bq,hfr]
 have fr1:∀b∈Eu X.stack,H' b=none:=λb hb=>by
  obtain⟨_,o,q,_⟩:=I.stack.mem hb;exact th.un.free b o q (I.stkFree b hb) (λz=>nomatch z)
 have hs:=I.ok.frames;rw[hst]at hs
 refine wpAny_leaving_nextW (base:=Do s'.heap (a::[T]++Eu X.stack)) (cls:=cls) (a0:=a0) hs (by rw[<- hst];exact bJ ff gK) hfr
  ⟨oe,vs,T,oT,ts,t1,⟨t2,t4⟩,t3,t5,En _ 'f',t6,t9,t10,t11⟩ (λb o q=>IX _ q) (En _ Aw) λh2 lw=>?_
 rw[<- hst]at lw
 have u2:Un (Eu X.outer) [X.env.locals] H H' s.heap s'.heap:=by
  have nin:∀{b},b∉Eu X.outer->b∉[X.env.locals]->b∉Eu X.stack:=λf l z=>by
   rw[frsE]at z;rcases AR.mp z with z|z
   .exact l (by rw[z];exact Aw)
   .exact f z
  exact⟨λb o q n f l=>th.un.keep b o q n (nin f l) (λz=>nomatch z),λb o q n f l=>th.un.slot b o q n (by rw[frsE];exact Ay _ f) (λz=>nomatch z),λb o q n _=>th.un.free b o q n (λz=>nomatch z),λb o q _=>th.un.there b o q (λz=>nomatch z),th.un.tups,th.un.frzs,th.un.tbls⟩
 have u1:=(I.base.mono (λ_ z=>z) (λb z=>by rw[hx]at z;cases z)).trans u2;refine⟨a,cls,H',rfl,os.trans I.os,bare,e8 I.ok hst hfr u1 th.hok ff fr1 (λt z=>?_) lw,q⟩;rcases AR.mp z with rfl|z
 .exact⟨n1,th.he,n3⟩
 .rw[AD.mp z];exact⟨k1,t8,k3⟩
def uu {K:Ac}(hk:K.In h)(q:IL K C bmB newId=true) :
  ∃bm N nm qn bs hdct sn sub ab col dd k0 k1 k2 k3 k5 mN,h.get? C=some (excClassObj nm qn C N bs bm hdct sn sub ab col dd k0 k1 k2 k3 k5 newId)/\h.Ns N mN/\mN (Al "__init__")=none/\OwnTail h bmB bm:=by
 unfold IL at q;split at q
 .next dict cd sl e=>
  split at q
  .next C' bm a b c d n f e1 e2=>
   simp only[Br,beq_iff_eq,Q7]at q;obtain⟨⟨⟨⟨⟨rfl,rfl⟩,hdel⟩,ht⟩,hok⟩,hni⟩:=q
   have hsl:sl=#[a,b,c,d,some (.builtin n),f]:=by
    obtain⟨l⟩:=sl;cases e2;rfl
   cases cd;simp only at e1 hdel hok hni;subst e1 hdel hsl;exact⟨bm,_,_,_,_,_,_,_,_,_,_,a,b,c,d,f,_,hk _ _ e,Heap.Ns.of_isNs (PySem.W.isNs_of_in hk hok),PySem.W.nsMap_none_of_in hk hok hni,PySem.W.tail_of_in hk ht⟩
  .cases q
 .cases q
noncomputable def Yw:List Ai:=[.type "ValueError",.type "Exception",.type "BaseException",.type "object"]
def Wr (K:Ac)(C:Av):Prop:=IL K C Yw "ValueError.__new__" = true
abbrev TM:=St->Hp->(Hp->Prop)->Prop
def zu {tm:TM}(hx:X.xe=λe s'=>Au 'd' X.A (WF X.env e) (λ_ s''=>Kr X.prog X.w X.outer X.H₀ X.s₀ E e s'') (λe' s''=>Kr X.prog X.w X.outer X.H₀ X.s₀ E e' s'') s')(hex:X.ex=[])(hst:X.stack=X.env::X.outer)(hfr:X.env.frame=some X.env.locals)(hc:X.calm=true)
  (hm:X.mg x=some (.ref C)) (hC:Wr X.K C) (hmsg:∀(Ad:List (Av×Obj)) (s:As) (U:St) (H:Hp) (Q:Hp->Prop),AX X Ad U H s->tm U H Q->Au 'd' X.A (eval msg X.env) (λv s'=>∃z tk H',v=.str z tk/\AX X Ad U H' s'/\Q H') X.xe s)
  (hg:autoParam (Gl X x) BV) (hd:autoParam 'j' Gy) (hs:autoParam (Ap [msg] X.env=[(false,eval msg X.env)]) BV) :
  PS X (.Raise (some (.Call (.Name x np) [msg] [] cpos)) none pos) (λ_ U H=>tm U H λH1=>E (.ref C) none H1):=by
 intro Ad s U H D I q;obtain⟨bm,N,nm,qn,bs,hdct,sn,sub,ab,col,dd,k0,k1,k2,k3,k5,mN,c1,c2,c3,c4⟩:_:=uu (h:=X.base) I.mod.kin hC;refine wpAny_Raise_call_subT (nm:=nm) (q:=qn) (N:=N) (bs:=bs) (hdct:=hdct) (sn:=sn) (sub:=sub) (ab:=ab) (col:=col) (dd:=dd) (k0:=k0) (k1:=k1) (k2:=k2) (k3:=k3) (k5:=k5) PySem.F.excBase_ValueError (OwnTail.hasType c4 (by rfl)) (I.ok.hd hc) (by rw[hs];rfl) c3 (Xu I hg hm ⟨rfl,?_⟩ hd);rw[hs];refine IC (Gs (Dp (hmsg Ad s U H _ I q) λv s1 ⟨z,tk,H1,e1,I1,q1⟩=>G0 ?_));refine⟨rfl,by show 1<=An;decide,I1.bk _ _ c1,c2.keeps I1.bk,c4.keeps I1.bk,λh' e m=>?_⟩;rw[hx];exact Zj5 I1 hex hst hfr m q1
def g9 (th:K8 P w H H' h h1 (Eu l) e cls)(ff1:h1.FunFrames base0 l)(fr1:∀b∈Eu l,H' b=none)
  (hh:∀t∈e::hid,h.get? t=none/\H' t=none/\t∉Eu l) (lw:(Do h1 (e::hid++Eu l)).LeftW l e cls a0 h1 h2):K8 P w H H' h h2 (Eu l) e cls:=by
 obtain⟨stay,ff2,⟨oe,vs,T,oT,ts,t1,⟨t2,t2'⟩,t3,t4,t5,t6,t7,t8,t9⟩,slots⟩:_:=lw;have keepB:∀{b o},h1.get? b=some o->b∉e::hid->b∉Eu l->h2.get? b=some o:=λ{b o} q n1 n2=>stay b o (HV _ q (λz=>by rcases AQ.mp z with z | z;exact n1 z;exact n2 z))
 have frame:∀{b o},h1.get? b=some o->b∈Eu l->∃sl,h2.get? b=some {o with slots:=sl}:=λ{b o} q hb=>by
  obtain⟨_,o',q',d⟩:=ff1.mem hb;rw[q]at q';cases q';exact slots b o q d
 have ne0:∀{b o},h.get? b=some o->b∉e::hid:=λ{b o} q=>(λz=>by rw[(hh b z).1]at q;cases q)
 have tfs:T∉Eu l:=λz=>by
  obtain⟨_,o',q',d⟩:=ff2.mem z;rw[t7]at q';cases q';exact d ts t8
 have tH:h1.get? T=none\/T∈e::hid:=by
  cases q:h1.get? T with
  |none=>exact .inl rfl
  |some o=>
   by_cases z:T∈e::hid
   .exact .inr z
   .rw[HV _ q (λz'=>by rcases AQ.mp z' with z' | z';exact z z';exact tfs z')]at t5;cases t5
 have tN:h.get? T=none:=by
  rcases tH with q|q
  .cases r:h.get? T with
   |none=>rfl
   |some o=>obtain⟨o',q'⟩:=th.un.there T o r (λz=>nomatch z);rw[q]at q';cases q'
  .exact(hh T q).1
 have tK:H' T=none:=by
  rcases tH with q|q
  .cases r:H' T with
   |none=>rfl
   |some o=>obtain⟨ob,q'⟩:=(th.hok T o r).there;rw[q]at q';cases q'
  .exact(hh T q).2.1
 refine⟨?_,th.hok.keptT λb u hb q=>keepB q (λz=>hb (hh b z).2.1) (λz=>hb (fr1 b z)),th.new,th.he,oe,vs,T,oT,ts,a0,t1,t2,t3,t2',t4,t6,tN,tK,t7,t8,t9⟩;refine⟨λb o q n f _=>?_,λb o q n f _=>?_,λb o q n _=>?_,λb o q _=>?_,th.un.tups,th.un.frzs,th.un.tbls⟩
 .exact keepB (th.un.keep b o q n f (λz=>nomatch z)) (ne0 q) f
 .obtain⟨sl,q1⟩:=th.un.slot b o q n f (λz=>nomatch z);obtain⟨sl2,q2⟩:=frame q1 f;exact⟨sl2,q2⟩
 .exact th.un.free b o q n (λz=>nomatch z)
 .obtain⟨o',q1⟩:=th.un.there b o q (λz=>nomatch z);by_cases f:b∈Eu l
  .obtain⟨sl,q2⟩:=frame q1 f;exact⟨_,q2⟩
  .exact⟨o',keepB q1 (ne0 q) f⟩
def AX.ffT (I:AX X Ad U H s)(un:Un (Eu X.stack) [] H H' s.heap h'):h'.FunFrames X.base X.stack:=by
 have XX:∀{l:List Env},(∀b∈Eu l,b∈Eu X.stack)->s.heap.FunFrames X.base l->h'.FunFrames X.base l:=by
  intro l;induction l with
  |nil=>exact λ_ _=>trivial
  |cons env C2 ih=>
   intro hsub hf;rw[Heap.FunFrames.eq_2]at hf ⊢;obtain⟨k,⟨L,o,e1,e2,e3,e4⟩,r⟩:_:=hf;have hm:L∈Eu (env::C2):=by unfold Eu;rw[Bq,e1];exact Aw
   obtain⟨sl,q⟩:=un.slot L o e3 (I.stkFree L (hsub L hm)) (hsub L hm) (λz=>nomatch z);refine⟨k,⟨L,_,e1,e2,q,e4⟩,ih (λb hb=>hsub b ?_) r⟩;unfold Eu at hb ⊢;rw[Bq,e1];exact Ay _ hb
 exact XX (λ_ z=>z) I.stack
def AX.frT (I:AX X Ad U H s)(un:Un (Eu X.stack) [] H H' s.heap h'):∀b∈Eu X.stack,H' b=none:=λb hb=>by
 obtain⟨_,o,q,_⟩:=I.stack.mem hb;exact un.free b o q (I.stkFree b hb) (λz=>nomatch z)
structure EY (X:Cx)(Ad:List (Av×Obj))(U:St)(H:Hp)(s:As)(H':Hp)(s':As)(a:Av)(cls:Ai):Prop where
 os:s'.os=s.os
 bare:G9 s'.gens
 th:K8 X.prog X.w H H' s.heap s'.heap (Eu X.stack) a cls
def EY.new_t (I:AX X Ad U H s)(hx:X.ex=[])(un:Un (Eu X.stack) [] H H' s.heap h')(h1:s.heap.get? t=none)(h2:H' t=none):s.heap.get? t=none/\H' t=none/\t∉Eu X.stack:=⟨h1,h2,(I.new_e hx h1).2.2⟩
def EY.inv (I:AX X Ad U H s)(c:EY X Ad U H s H' s' a cls):AX X Ad U H' s':=I.call' c.os c.th.un c.th.hok c.bare (λb z=>nomatch z)
def EY.flight (I:AX X Ad U H s)(hx:X.ex=[])(c:EY X Ad U H s H' s' a cls)(h:∀s2,EY X Ad U H s H' s2 a cls->Q () s2):Au M A (setFlight (.ref a) none) Q E₁ s':=by
 obtain⟨os,bare,th⟩:=c;obtain⟨oe,vs,T,oT,ts,a0,t1,t2,t3,t4,t5,t6,t7,t8,t9,t10,t11⟩:=th.tr;have ff:=I.ffT th.un;have fr1:=I.frT th.un
 refine RZ (base:=Do s'.heap (a::[T]++Eu X.stack)) (l:=X.stack) (cls:=cls) (a0:=a0) (fl:=.none) (λb o q=>IX _ q) (bJ ff gK)
  ⟨oe,vs,T,oT,ts,t1,⟨t2,t4⟩,t3,t5,En _ 'f',t6,t9,t10,t11⟩ λh2 k1 k2 k3 k4=>h _ ⟨os,bare,?_⟩
 refine g9 th ff fr1 (λt z=>?_) ⟨k1,k2,k3,λb o q d=>⟨o.slots,k4 b o q d⟩⟩;rcases AR.mp z with rfl|z
 .exact EY.new_t I hx th.un th.new th.he
 .rw[AD.mp z];exact EY.new_t I hx th.un t7 t8
def VJ (I:AX X Ad U H s)(hx:X.ex=[])(hst:X.stack=X.env::X.outer)(hfr:X.env.frame=some X.env.locals)(c:Kr X.prog X.w X.stack H s E e s')
  (h:∀a cls H' s3,e=.ref a->EY X Ad U H s H' s3 a cls->E cls none H'->Q () s3) :
  Au 'd' X.A (noteFrame e X.env) (λ_ s2=>Au 'd' X.A (setFlight e none) Q E₁ s2) E₁ s':=by
 obtain⟨a,cls,H',e1',os,bare,th,q⟩:_:=c;obtain⟨oe,vs,T,oT,ts,a0,t1,t2,t3,t4,t5,t6,t7,t8,t9,t10,t11⟩:=th.tr;have ff:=I.ffT th.un;have fr1:=I.frT th.un;have hs:=I.ok.frames;rw[hst]at hs
 refine wpAny_noteFrame_onW (base:=Do s'.heap (a::[T]++Eu X.stack)) (cls:=cls) (a0:=a0) hs (by rw[<- hst];exact bJ ff gK) hfr
  ⟨oe,vs,T,oT,ts,t1,⟨t2,t4⟩,t3,t5,En _ 'f',t6,t9,t10,t11⟩ (λb o q=>IX _ q) (En _ Aw) λh2 nw=>?_
 rw[<- hst]at nw;obtain⟨n1,n2,n3,n4⟩:=nw;refine RZ n1 n2 n3 λh3 k1 k2 k3 k4=>h a cls H' _ rfl ⟨os,bare,?_⟩ q;refine g9 th ff fr1 (λt z=>?_) ⟨k1,k2,k3,λb o q d=>?_⟩
 .rcases AR.mp z with rfl|z
  .exact EY.new_t I hx th.un th.new th.he
  .rw[AD.mp z];exact EY.new_t I hx th.un t7 t8
 .obtain⟨sl,q1⟩:=n4 b o q d;exact⟨sl,k4 b _ q1 d⟩
noncomputable abbrev Cx.hdl (X:Cx)(a:Av)(oe:Obj):Cx:={X with A:=X.A.mark (some (.ref a)),calm:=false,pn:=(a,oe)::X.pn,xe:=λ_ _=>False}
section
variable {X:Cx}{Ad:List (Av×Obj)}{U:St}{H:Hp}{s:As}  {a:Av}  {oe:Obj}
theorem Cx.Ok.hdl (ok:X.Ok):(X.hdl a oe).Ok:=
 ⟨ok.mod,ok.kind,ok.glob,ok.blt,ok.above,ok.inj,ok.has,ok.cab,(λh=>nomatch h),ok.frames,ok.stk,ok.exf,ok.bs,ok.bsz,ok.noex,ok.exfs,ok.funs,ok.frf⟩
theorem AX.hdl (I:AX X Ad U H s)(h1:s.heap.get? a=some oe)(h2:H a=none)(h3:a≠X.env.locals)(h4:a∉X.fs)(h5:∀v,oe.data≠.cell v):AX (X.hdl a oe) Ad U H s:=
 ⟨I.ok.hdl,I.os,I.bare,I.base,I.loc,I.cell,I.free,I.freeC,λp hp=>by rcases AR.mp hp with rfl | hp;exact⟨h1,h2,h3,h4,h5⟩;exact I.pin p hp,I.hok,I.len,I.fzd⟩
def AX.unhdl (ok:X.Ok)(I:AX (X.hdl a oe) Ad U H s):AX X Ad U H s:=
 ⟨ok,I.os,I.bare,I.base,I.loc,I.cell,I.free,I.freeC,λp hp=>I.pin p (Ay _ hp),I.hok,I.len,I.fzd⟩
theorem EY.hdl (I:AX X Ad U H s)(hx:X.ex=[])(hst:X.stack=X.env::X.outer)(hfr:X.env.frame=some X.env.locals)(c:EY X Ad U H s H' s' a cls):∃oe,oe.cls=cls/\(∃vs,oe.data=.fields vs)/\AX (X.hdl a oe) Ad U H' s':=by
 obtain⟨oe,vs,T,oT,ts,a0,t1,t2,t3,t4,t5,t6,t7,t8,t9,t10,t11⟩:=c.th.tr;have n3:=(I.new_e hx c.th.new).2.2;have frsE:Eu X.stack=X.env.locals::Eu X.outer:=by rw[hst];unfold Eu;rw[Bq,hfr]
 rw[frsE]at n3;exact⟨oe,t2,⟨vs,t3⟩,(c.inv I).hdl t1 c.th.he (λz=>n3 (by rw[z];exact Aw)) (λz=>n3 (Ay _ z)) (λv z=>by rw[t3]at z;cases z)⟩
def EY.type (c:EY X Ad U H s H' s' a cls)(M:Model):PySem.W.Looks M s'.heap (QN (.ref a)) cls:=by
 obtain⟨oe,vs,T,oT,ts,a0,t1,t2,_⟩:=c.th.tr;exact t2 ▸ (X2 t1).andThen .now
end
def XW (X:Cx)(Ad:List (Av×Obj))(U:St)(E:XK):Ai->As->Prop:=λe s'=>∃H0 s0,AX X Ad U H0 s0/\Kr X.prog X.w X.stack H0 s0 E e s'
abbrev jf:=St->Hp->VK->XK->Prop
abbrev je:=MI->XK->St->Hp->Prop
def Wi (X:Cx)(e:BY)(t:jf):Prop:=
 ∀(Ad:List (Av×Obj)) (s:As) (U:St) (H:Hp) (Q:VK) (E:XK),AX X Ad U H s->t U H Q E->Au 'd' X.A (eval e X.env) (EP X Ad U Q) (XW X Ad U E) s
def Wh (X:Cx)(st:C6)(t:je):Prop:=
 ∀(Ad:List (Av×Obj)) (s:As) (U:St) (H:Hp) (D:MI) (E:XK),AX X Ad U H s->t D E U H->Au 'd' X.A (exec st X.env) (SP X Ad D) (XW X Ad U E) s
def Wi.mono (h:Wi X e t)(m:∀U H Q E,u U H Q E->t U H Q E):Wi X e u:=λAd s U H Q E I q=>h Ad s U H Q E I (m _ _ _ _ q)
def Wh.mono {st:C6}(h:Wh X st t)(m:∀D E U H,u D E U H->t D E U H):Wh X st u:=λAd s U H D E I q=>h Ad s U H D E I (m _ _ _ _ q)
def wu (hN:X.N.Nodup)(hi:X.N[i]? = some x)(hx:X.env.scope.names.lookup x=some .local)(he:Wi X e te)(hs:autoParam (C0 e (some (.Name x pos')) pos.line X.env=pure false) BV) :
  Wh X (.Assign [.Name x pos'] e pos) (λD E U H=>te U H (λv H1=>D.nx (U.set i (some v)) H1) E):=by
 intro Ad s U H D E I h;refine Wy (Dp (he Ad s U H _ E I h) λv s1 e=>e.el λy H1 I1 r1 q1=>?_) hs;exact qF I1 hN hi (.inl hx) r1 (λs2 I2=>⟨_,H1,I2,q1⟩) (.inr hx)
def TK (X:Cx)(x:Str)(c:Ai):Prop:=Gl X x/\(x == ("__debug__":Str))=false/\(X.mg x=some c\/(X.mg x=none/\CM x=some c/\x≠"__name__"))
section
variable {st:C6}
def pb (I:AX X Ad U H s)(c:TK X x u)(h:Q u s):Au 'd' X.A (eval (.Name x pos) X.env) Q E s:=by
 obtain⟨hg,hd,c|⟨c1,c2,c3⟩⟩:=c
 .exact Xu I hg c h hd
 .exact P4 I hg c1 c2 h c3 hd
def ug {th:TS}(hex:X.ex=[])(hst:X.stack=X.env::X.outer)(hfr:X.env.frame=some X.env.locals)(hB:TK X B cB)(hb:Wh X st tb)
  (hh:∀a oe,K9 (X.hdl a oe) (b0::bs) th) :
  PS X (.Try [st] [.ExceptHandler (some (.Name B bp)) none (b0::bs) hp] [] [] pos) (λD U H=>tb D (λcls _ H'=>HY X.K cls cB=some true/\th D U H') U H):=by
 intro Ad s U H D I h;refine wpAny_Try_except (L0 (Bw (hb Ad s U H D _ I h) (λfl s1 q=>?_) λe s1 q=>?_))
 .cases fl with
  |next=>exact Fl (Fl q)
  |ret v=>exact q
  |brk=>exact q
  |cont=>exact q
 .obtain⟨H0,s0,I0,c⟩:=q;refine VJ I0 hex hst hfr c λa cls H' s3 e3 ct ⟨hm,hq⟩=>?_;subst e3;obtain⟨oe,hc,⟨vs,hvs⟩,I3⟩:=ct.hdl I0 hex hst hfr;refine wpAny_handleBy_cons (codeAny_handlers_test (pb I3 hB ?_)) (by intro q;cases q);refine(PySem.W.exm_one I3.kIn (ct.type _) hm).at ?_;refine codeAny_handlers_suite (ct.flight I0 hex λs4 ct4=>?_);obtain⟨oe4,hc4,⟨vs4,hvs4⟩,I4⟩:=ct4.hdl I0 hex hst hfr;refine Bw (hh a oe4 Ad s4 _ H' D I4 hq) (λfl s6 q=>?_) λ_ _ z=>z.elim;cases fl with
  |next=>obtain⟨U',H6,I6,q⟩:=q;exact⟨U',H6,I6.unhdl I0.ok,q⟩
  |brk=>obtain⟨U',H6,I6,q⟩:=q;exact⟨U',H6,I6.unhdl I0.ok,q⟩
  |cont=>obtain⟨U',H6,I6,q⟩:=q;exact⟨U',H6,I6.unhdl I0.ok,q⟩
  |ret u=>obtain⟨v,U',H6,I6,r,q⟩:=q;exact⟨v,U',H6,I6.unhdl I0.ok,r,q⟩
end
end L2
namespace L2
open PySem PySem.Spec PyProof.Rows
open PySem.W in
noncomputable def bX (K:Q6)(C:Av):Bool:=
 jB K (.ref C) "__getattribute__" == some (some (.builtin "BaseException.__getattribute__")) && jB K (.ref C) "__getattr__" == some none && jB K (.ref C) "__class__" == some (some (.builtin "object.__class__")) &&
 (mroIn K C (.type "object") == some true && mroIn K C (.type "BaseException") == some true && (clsIn K C).isSome)
section
open PySem.W PySem.Builtin PySem.Builtin.ObjectAttr PySem.Builtin.Getset_descriptor PySem.Calls
variable {prog:Bs}{w:BK}{A:CH}{E:Ai->As->Prop}{s:As}{K:Q6}{x C:Av}
end
end L2
namespace L2
open PySem PySem.Spec PyProof.Rows
noncomputable def VG:HO->Bool
 |.lst _=>true
 |.dK _=>true
 |.dT _=>true
 |_=>false
def Sw (S:Av->Prop)(H H':Hp):Prop:=∀b,(S b/\∃u ob,VG u=true/\H b=some u/\H' b=some (.frz ob u))\/(H' b=H b/\(S b->∀u,VG u=true->H b≠some u))
def Kp (H H':Hp):Prop:=(∀b xs,H b=some (.tup xs)->H' b=some (.tup xs))/\∀b o u,H b=some (.frz o u)->H' b=some (.frz o u)
def Sw.same (f:Sw S H H')(e:H b=some u)(h1:autoParam (VG u=false) BV):H' b=some u:=by
 rcases f b with⟨_,v,ob,z,q,_⟩|⟨q,_⟩
 .rw[e]at q;cases q;rw[h1]at z;cases z
 .exact q.trans e
theorem Sw.none (f:Sw S H H')(e:H b=none):H' b=none:=by
 rcases f b with⟨_,v,ob,_,q,_⟩|⟨q,_⟩
 .rw[e]at q;cases q
 .exact q.trans e
theorem AX.frz (I:AX X Ad U H s)(S:Av->Prop):∃H',Sw S H H'/\AX X Ad U H' s:=by
 classical
 have pick:∀b,∃o',(S b/\∃u ob,VG u=true/\H b=some u/\o'=some (.frz ob u)/\s.heap.get? b=some ob)\/(o'=H b/\(S b->∀u,VG u=true->H b≠some u)):=λb=>by
  by_cases hS:S b
  .cases q:H b with
   |none=>exact⟨none,.inr ⟨rfl,λ_ u _ z=>nomatch z⟩⟩
   |some o=>
    obtain⟨ob,e⟩:=(I.hok b o q).there;by_cases h1:VG o=true
    .exact⟨_,.inl ⟨hS,o,ob,h1,rfl,rfl,e⟩⟩
    .exact⟨_,.inr ⟨rfl,λ_ u z w=>h1 (by rw[AZ w];exact z)⟩⟩
  .exact⟨_,.inr ⟨rfl,λz=>absurd z hS⟩⟩
 obtain⟨H',hH⟩:=Classical.axiomOfChoice pick
 have fz:Sw S H H':=λb=>by
  rcases hH b with⟨hS,u,ob,z,q,q',_⟩|h
  .exact .inl ⟨hS,u,ob,z,q,q'⟩
  .exact .inr h
 refine ⟨H',fz,I.step (ch:=[]) (λ_ z=>nomatch z) (λb o _ _ _ q _=>q) (λb o _ _ _ q _=>⟨o.slots,q⟩)
   (λb o _ q n=>fz.none n) (λb o _ q=>⟨o,q⟩) (λb xs q=>fz.same q) (λb o u q=>fz.same q) (λb ps q=>⟨#[],by rw [fz.same q];simp⟩) (λm hm=>hm) (λb u q=>?_) I.bare⟩
 have st:∀{u:HO},CK X.prog X.w H s.heap b u->CK X.prog X.w H' s.heap b u:=λx=>x.stay (λ_ _ _ q=>q) (λc q=>fz.same q) λc xs q=>fz.same q;rcases hH b with⟨hS,v,ob,_,e,e',g⟩|⟨e,_⟩
 .rw[e']at q;cases q;exact⟨g,st (I.hok b _ e)⟩
 .rw[e]at q;exact st (I.hok b u q)
def Un.kp (u:Un fs ex H H' h h'):Kp H H':=⟨u.tups,u.frzs⟩
def Zlz (F:FnOk X.prog X.w X.K X.mg X.base (Kr X.prog X.w) k f fd ps sp)(hr:Db k X.A)(hg:Gl X x)(hm:X.mg x=some (.ref f))(hk:Fc X.K (.ref f)=true)(hb:HF X.K fd ps [])
  (ha:PA X.nox (e::es) t) (hdb:autoParam 'j' Gy) (he:autoParam (Ap (e::es) X.env=(false,eval e X.env)::Ap es X.env) BV) (hpl:autoParam ((B5 pos (Ap es X.env)).any (·.1)=false) BV) :
  Wi X (.Call (.Name x p) (e::es) [] pos) (λU H Q E=>t U H λvs H1=>∃S,∀H2,Sw S H1 H2->sp vs H2 Q (λc n H3=>Kp H2 H3->E c n H3)):=by
 intro Ad s U H Q E I h;refine Cb (Xu I hg hm ?_ hdb);refine KP I.ok.mod.kin hk (Bw (ha pos Ad s U H _ (I.wish _) h) (λus s1 e=>e.el λvs H1 I1 r ⟨S,q⟩=>⟨I1.kIn,?_⟩) λ_ _ z=>z.elim) he hpl;obtain⟨H2,fz,I2⟩:=I1.unwish.frz S;have q:=q H2 fz;have hl:us.length=ps.length:=by rw[<- r.length];exact F.len _ _ _ _ q
 have hb':=hb s1 us I2.kIn (by rw[Cc];exact hl);rw[Cc]at hb';refine NS (FO (F.run X.A X.stack s1 H2 ⟨us,[]⟩ us vs Q _ hr I2.env0 hb' r q) λrr s' hq=>?_);cases rr with
 |error e=>obtain⟨a,cls,H',e1,e2,e3,e4,e5⟩:_:=hq;exact⟨H2,s1,I2,a,cls,H',e1,e2,e3,e4,e5 e4.un.kp⟩
 |ok fl=>
  cases fl with
  |ret u=>exact I2.after hq
  |next=>exact Cp hq
  |brk=>exact Cp hq
  |cont=>exact Cp hq
end L2
namespace L3
open PySem PySem.Spec PyProof.Rows L2
abbrev RQ:=Str->Mp->Prop
abbrev TC:=List D->Mp->Ef->RQ->Prop
section
variable (K:Ac)(mg:Str->Option Ai)
def UN (E2:RQ)(E:XK):Prop:=∀Z x C H' M',mg x=some (.ref C)->HR K H' M' Z->E2 x M'->E (.ref C) none H'
def Rz (sp:TC):Sp:=λvs H Q E=>∃Z ds M Q2 E2,HR K H M Z/\DH Z vs ds/\sp ds M Q2 E2/\HE K Z Q2 Q/\UN K mg E2 E
end
def XQ (E:RQ):RQ:=λx M=>∃M0,Sub M0 M/\E x M0
def XQ.of (h:E x M):XQ E x M:=⟨M,Sub.refl _,h⟩
def UN.dn {K:Ac}(h:UN K mg E2 E):UN K mg (XQ E2) E:=λZ x C H' M' m hr ⟨M0,s,q⟩=>h Z x C H' M0 m (hr.sub s) q
def jo (K:Ac)(H:Hp)(Z:Zt):Prop:=∀p d,Z p d->KB K Z p d\/(HB H Z p d/\((∃xs,H p=some (.tup xs))\/∃o u,H p=some (.frz o u)))
section
variable {K:Ac}{H H':Hp}{M M':Mp}{Z Z':Zt}
def Rd.frz (f:Sw S H H')(r:Rd H p u):Rd H' p u:=by
 rcases r with r|⟨o,r⟩
 .rcases f p with⟨_,v,ob,_,q,q'⟩|⟨q,_⟩
  .rw[r]at q;cases q;exact .inr ⟨ob,q'⟩
  .exact .inl (q.trans r)
 .exact .inr ⟨o,f.same r⟩
theorem HB.frz (f:Sw S H H')(h:HB H Z p d):HB H' Z p d:=by
 cases d with
 |tup ds=>obtain⟨vs,r,a⟩:=h;exact⟨vs,f.same r,a⟩
 |lst ds=>obtain⟨vs,r,a⟩:=h;exact⟨vs,Rd.frz f r,a⟩
 |dic ds=>obtain⟨vs,r,a⟩:=h;exact⟨vs,Rd.frz f r,a⟩
 |dct ds=>obtain⟨vs,r,a⟩:=h;exact⟨vs,Rd.frz f r,a⟩
 |_=>exact h.elim
def SZ (M:Mp)(Z:Zt):Av->Prop:=λb=>(∃d,Z b d)/\M b=none
theorem HR.frz (h:HR K H M Z)(f:Sw (SZ M Z) H H'):HR K H' M Z/\jo K H' Z:=by
 refine⟨⟨λp d z=>(h.z p d z).imp (λq=>HB.frz f q) id,λp o e=>⟨(h.m p o e).1,?_⟩⟩,λp d z=>?_⟩
 .have nS:¬SZ M Z p:=λq=>by rw[q.2]at e;cases e
  have e':H' p=H p:=by
   rcases f p with⟨q,_⟩|⟨q,_⟩
   .exact absurd q nS
   .exact q
  exact MB.at e' (h.m p o e).2
 .by_cases hM:M p=none
  .rcases h.z p d z with q|q
   .refine .inr ⟨HB.frz f q,?_⟩;have hS:SZ M Z p:=⟨⟨d,z⟩,hM⟩;rcases f p with⟨_,v,ob,_,_,q'⟩|⟨q',n⟩
    .exact .inr ⟨ob,_,q'⟩
    .have n:=n hS
     have go:∀{u:HO},Rd H p u->VG u=true->∃o u,H' p=some (.frz o u):=λr z=>by
      rcases r with r|⟨o,r⟩
      .exact absurd r (n _ z)
      .exact⟨o,_,q'.trans r⟩
     cases d with
     |tup ds=>obtain⟨vs,r,a⟩:=q;exact .inl ⟨vs,q'.trans r⟩
     |lst ds=>obtain⟨vs,r,a⟩:=q;exact .inr (go r rfl)
     |dic ds=>obtain⟨vs,r,a⟩:=q;exact .inr (go r rfl)
     |dct ds=>obtain⟨vs,r,a⟩:=q;exact .inr (go r rfl)
     |_=>exact q.elim
   .exact .inl q
  .cases q:M p with
   |none=>exact absurd q hM
   |some o=>exact .inl ((h.m p o q).1 d z)
def HR.back (h:jo K H Z)(kp:Kp H H')(h':HR K H' M' Z'):∃Z2,Le Z Z2/\HR K H' M' Z2:=by
 have l1:Le Z λp d=>Z p d\/Z' p d:=λ_ _ z=>.inl z;have l2:Le Z' λp d=>Z p d\/Z' p d:=λ_ _ z=>.inr z
 have keep:∀{p u},Rd H p u->((∃xs,H p=some (.tup xs))\/∃o u,H p=some (.frz o u))->Rd H' p u:=λ{p u} r f=>by
  rcases r with r|⟨o,r⟩
  .rcases f with⟨xs,f⟩|⟨o,u',f⟩
   .rw[f]at r;cases r;exact .inl (kp.1 _ _ f)
   .rw[f]at r;cases r;exact .inl (kp.2 _ _ _ f)
  .exact .inr ⟨o,kp.2 _ _ _ r⟩
 refine⟨λp d=>Z p d\/Z' p d,l1,λp d z=>?_,λp o e=>⟨λd z=>?_,MB.mono l2 (h'.m p o e).2⟩⟩
 .rcases z with z|z
  .rcases h p d z with q|⟨q,f⟩
   .exact .inr (KB.mono l1 q)
   .refine .inl (HB.mono l1 ?_);cases d with
    |tup ds=>obtain⟨vs,r,a⟩:=q;exact⟨vs,kp.1 _ _ r,a⟩
    |lst ds=>obtain⟨vs,r,a⟩:=q;exact⟨vs,keep r f,a⟩
    |dic ds=>obtain⟨vs,r,a⟩:=q;exact⟨vs,keep r f,a⟩
    |dct ds=>obtain⟨vs,r,a⟩:=q;exact⟨vs,keep r f,a⟩
    |_=>exact q.elim
  .exact(h'.z p d z).imp (λq=>HB.mono l2 q) λq=>KB.mono l2 q
 .rcases z with z|z
  .rcases h p d z with q|⟨q,f⟩
   .exact KB.mono l1 q
   .exfalso;have mb:=(h'.m p o e).2;have fz:(∃xs,H' p=some (.tup xs))\/∃o u,H' p=some (.frz o u):=f.imp (λ⟨xs,f⟩=>⟨xs,kp.1 _ _ f⟩) λ⟨o,u,f⟩=>⟨o,u,kp.2 _ _ _ f⟩;cases o with
    |lst ds=>obtain⟨vs,r,_⟩:=mb;rcases fz with⟨xs,f⟩ | ⟨o,u,f⟩<;>(rw[f]at r;cases r)
    |dic ds=>obtain⟨vs,r,_⟩:=mb;rcases fz with⟨xs,f⟩ | ⟨o,u,f⟩<;>(rw[f]at r;cases r)
    |dct ds=>obtain⟨vs,r,_⟩:=mb;rcases fz with⟨xs,f⟩ | ⟨o,u,f⟩<;>(rw[f]at r;cases r)
    |obj C fs=>obtain⟨dx,vs,r,_⟩:=mb;rcases fz with⟨xs,f⟩ | ⟨o,u,f⟩<;>(rw[f]at r;cases r)
  .exact KB.mono l2 ((h'.m p o e).1 d z)
end
end L3
namespace L3
open PySem PySem.Spec PyProof.Rows L2
unseal B3 Ij JQ Gd KN Gc Dg
def vH {st:C6}(h:Gc X.nox st t):Gc X st t:=λAd s U H D I hw=>
 Bw (show Au _ _ _ _ _ _ from h Ad s U H D (I.wish _) hw) (λ_ _ q=>q.unwish) λ_ _ z=>Cp z
section
variable {K:Ac}
def CB.okX {st:C6}(F:CB K x qual st f fd)(S:EA N ps (Ig st))(len:∀ds M Q E,sp ds M Q E->ds.length=ps.length)
  (hbody:∀ cdv A outer s H E ds M Q E2,Db k (A.deeper (FN qual (Ig st) s.heap.objs.size f cdv))->UN K mg (XQ E2) E->sp ds M Q E2 ->
   ∃ t,Dg (FZ (Kr P w) P w K mg base N qual (Ig st) f cdv A outer s H E) (NL st) t/\t { nx:=λ_ M'=>Dn Q .non M',rt:=Dn Q } (Et N ds) M):FnOk P w K mg base (Kr P w) (k+1) f fd ps (Rz K mg sp):=by
 obtain⟨oc,od,kV,doc,pm,an,cdv,ct,osl,rfl,lk,hcd⟩:=F.ex;refine uB lk hcd S (λvs H Q E h=>?_) λA outer s H vs Q E hr h=>?_
 .obtain⟨Z,ds,M,Q2,E2,_,a,h,_⟩:_:=h;rw[a.length];exact len ds M Q2 E2 h
 .obtain⟨Z,ds,M,Q2,E2,hR,a,h,k',hE⟩:_:=h;obtain⟨t,ht,q⟩:=hbody cdv A outer s H E ds M Q2 E2 hr hE.dn h;have hpl:ps.length<=N.length:=by have:=congrArg DC S.pre;rw[A3]at this;ext
  rw[gX (by rw[len ds M Q2 E2 h];exact hpl)]at q;refine⟨_,ht,Z,Jd N ds,M,_,ca a,hR,q,?_⟩;refine⟨λZ1 U τ H1 M1 l1 s1 h1 q1=>?_,k'.dn,λ_ _ _ _ _ _ _ _ q=>q.elim,λ_ _ _ _ _ _ _ _ q=>q.elim⟩;exact(k'.dn.le l1).n h1 q1
def Zz {N:List Str}{qual:Str}{scope:KG}{f:Av}{cd:Ai}{A:CH}{outer:List Env}{s:As}{H:Hp}{E:XK} :
  Hx (Kr P w) (FZ (Kr P w) P w K mg base N qual scope f cd A outer s H E) E:=λAd U H1 s1 e s' I c=>Zkv I rfl rfl rfl c
end
def Vg (sp:TC)(E2:RQ)(t:Ka):DZ:=λτ M Q=>t τ M λxs M1=>sp xs M1 Q E2
def Vv {st:C6}(d:Df X.K X.mg x st ps f fd)(G:FnOk X.prog X.w X.K X.mg X.base (Kr X.prog X.w) k f fd ps (Rz X.K X.mg sp))(hr:Db k X.A)(hp:Hx (Kr X.prog X.w) X E)(hE:UN X.K X.mg E2 E)(ha:Gd X (e::es) t)
  (hg:autoParam (Gl X x) BV) (hdb:autoParam 'j' Gy) (he:autoParam (Ap (e::es) X.env=(false,eval e X.env)::Ap es X.env) BV) (hpl:autoParam ((B5 pos (Ap es X.env)).any (·.1)=false) BV) :
  B3 X (.Call (.Name x p) (e::es) [] pos) (Vg sp E2 t):=PE.mono (yS G hr hg d.m d.F.kp d.b .nil hp ha hdb he hpl) (by
 intro U H Q;ext1⟨Z,τ,M,Q2,st,hr,h,k⟩;refine ⟨Z,τ,M,_,st,hr,h,λZ1 vs ds H1 M1 l1 h1 a1 q1=>?_⟩;show Rz X.K X.mg sp (vs++[]) H1 Q E;rw [Cc];exact ⟨Z1,ds,M1,Q2,E2,h1,a1,q1,k.le l1,hE⟩)
abbrev iP:=GK->Mp->(Mp->Prop)->Prop
def j8 (K:Ac)(t:iP):TM:=λU H Q=>∃Z τ M Q2,GJ Z U τ/\HR K H M Z/\t τ M Q2/\∀Z' H' M',Le Z Z'->HR K H' M' Z'->Q2 M'->Q H'
def rQ (X:Cx)(e:BY)(t:iP):Prop:=∀(Ad:List (Av×Obj)) (s:As) (U:St) (H:Hp) (Q:Hp->Prop),AX X Ad U H s->j8 X.K t U H Q->Au 'd' X.A (eval e X.env) (λv s'=>∃z tk H',v=.str z tk/\AX X Ad U H' s'/\Q H') X.xe s
def jp:iP:=λ_ M Q=>Q M
def rg :rQ X (.Constant (.str x) j pos) jp:=λAd s U H Q I ⟨Z,τ,M,Q2,st,hr,h,k⟩=>PD ⟨x,_,H,rfl,I.tok _,k Z H M (Le.refl _) hr h⟩
def Q9 (x:Str)(E2:RQ)(tm:iP):Hw:=λ_ τ M=>tm τ M λM1=>E2 x M1
section
variable {K:Ac}
def zy (hE:UN K mg E2 E)(hm:mg x=some (.ref C))(hC:Wr K C)(hmsg:rQ (FZ (Kr P w) P w K mg base N qual scope f cd A outer s H E) msg tm)
  (hg:autoParam (Gl (FZ (Kr P w) P w K mg base N qual scope f cd A outer s H E) x) BV) (hd:autoParam 'j' Gy) (hs:autoParam (Ap [msg] (FZ (Kr P w) P w K mg base N qual scope f cd A outer s H E).env=[(false,eval msg (FZ (Kr P w) P w K mg base N qual scope f cd A outer s H E).env)]) BV) :
  Gc (FZ (Kr P w) P w K mg base N qual scope f cd A outer s H E) (.Raise (some (.Call (.Name x np) [msg] [] cpos)) none pos) (Q9 x E2 tm):=
 PS.mono (zu rfl rfl rfl rfl rfl hm hC hmsg hg hd hs) λD U H1 ⟨Z,τ,M,D2,st,hr,h,er⟩=>
  ⟨Z,τ,M,_,st,hr,h,λZ1 H2 M1 l1 h1 q1=>hE Z1 x C H2 M1 hm h1 q1⟩
end
abbrev RT:=GK->Mp->Ef->RQ->Prop
abbrev RS:=Kq->RQ->GK->Mp->Prop
def j5 (K:Ac)(mg:Str->Option Ai)(t:RT):jf:=λU H Q E=>∃Z τ M Q2 E2,GJ Z U τ/\HR K H M Z/\t τ M Q2 E2/\HE K Z Q2 Q/\∀Z' x C H' M',Le Z Z'->mg x=some (.ref C)->HR K H' M' Z'->E2 x M'->E (.ref C) none H'
def bP (X:Cx)(e:BY)(t:RT):Prop:=Wi X e (j5 X.K X.mg t)
def j4 (K:Ac)(mg:Str->Option Ai)(t:RS):je:=λD E U H=>∃Z τ M D2 E2,GJ Z U τ/\HR K H M Z/\t D2 E2 τ M/\ER K Z D2 D/\∀Z' x C H' M',Le Z Z'->mg x=some (.ref C)->HR K H' M' Z'->E2 x M'->E (.ref C) none H'
def Wg (X:Cx)(st:C6)(t:RS):Prop:=Wh X st (j4 X.K X.mg t)
def Vd (sp:TC)(t:Ka):RT:=λτ M Q E=>t τ M λxs M1=>sp xs M1 Q E
def Yx (i:Nat)(t:RT):RS:=λD E τ M=>t τ M (λd M1=>D.nx (τ.set i (some d)) M1) E
def wz {st:C6}(d:Df X.K X.mg x st ps f fd)(G:FnOk X.prog X.w X.K X.mg X.base (Kr X.prog X.w) k f fd ps (Rz X.K X.mg sp))(hr:Db k X.A)(ha:Gd X.nox (e::es) t)
  (hg:autoParam (Gl X x) BV) (hdb:autoParam 'j' Gy) (he:autoParam (Ap (e::es) X.env=(false,eval e X.env)::Ap es X.env) BV) (hpl:autoParam ((B5 pos (Ap es X.env)).any (·.1)=false) BV) :
  bP X (.Call (.Name x p) (e::es) [] pos) (Vd sp t):=Wi.mono (Zlz G hr hg d.m d.F.kp d.b ha hdb he hpl) (by
 intro U H Q E;ext1⟨Z,τ,M,Q2,E2,st,hr,h,k,kx⟩;refine ⟨Z,τ,M,_,st,hr,h,λZ1 vs ds H1 M1 l1 h1 a1 q1=>⟨SZ M1 Z1,λH2 fz=>?_⟩⟩;obtain ⟨g1,g2⟩:=HR.frz h1 fz;refine ⟨Z1,ds,M1,Q2,E2,g1,a1,q1,k.le l1,λZ2 x C H3 M3 hm h3 q3 kp=>?_⟩;obtain ⟨Z4,l4,h4⟩:=HR.back g2 kp h3;exact kx Z4 x C H3 M3 (l1.trans l4) hm h4 q3)
def w4 (hN:X.N.Nodup)(hx:X.env.scope.names.lookup x=some .local)(he:bP X e te)(hi:autoParam (X.N[i]? = some x) BV)(hs:autoParam (C0 e (some (.Name x pos')) pos.line X.env=pure false) BV) :
  Wg X (.Assign [.Name x pos'] e pos) (Yx i te):=Wh.mono (wu hN hi hx he hs) (by
 intro D E U H;ext1⟨Z,τ,M,D2,E2,st,hr,h,er,kx⟩;exact ⟨Z,τ,M,_,E2,st,hr,h,λZ1 v d H1 M1 l1 h1 a1 q1=>er.nx Z1 _ _ H1 M1 l1 (GJ.set a1 i (st.mono l1)) h1 q1,kx⟩)
def bY (K:Ac)(mg:Str->Option Ai)(cB:Ai)(xs:List Str):Prop:=∀x∈xs,∀C,mg x=some (.ref C)->HY K (.ref C) cB=some true
def Yz (xs:List Str)(tb:RS)(th:Hw):Hw:=λD τ M=>tb D (λx M1=>x∈xs/\th D τ M1) τ M
def rf {st b0:C6}(hex:X.ex=[])(hst:X.stack=X.env::X.outer)(hfr:X.env.frame=some X.env.locals)(hB:TK X B cB)(hxs:bY X.K X.mg cB xs)(hb:Wg X st tb)
  (hh:∀a oe,Dg (X.hdl a oe) (b0::bs) th) :
  Gc X (.Try [st] [.ExceptHandler (some (.Name B bp)) none (b0::bs) hp] [] [] pos) (Yz xs tb th):=PS.mono (ug (th:=lS X.K th) hex hst hfr hB hb λa oe=>hh a oe) (by
 intro D U H;ext1⟨Z,τ,M,D2,st,hr,h,er⟩;exact ⟨Z,τ,M,D2,_,st,hr,h,er,λZ1 x C H1 M1 l1 hm h1 ⟨q0,q1⟩=>⟨hxs x q0 C hm,Z1,τ,M1,D2,st.mono l1,h1,q1,er.le l1⟩⟩)
noncomputable def Uu (x c:Str):Bool:=x == c || c == ("BeatError":Str) || c == ("ValueError":Str)
def TL (mg:Str->Option Ai)(cn:Str)(c:Ai):Prop:=mg cn=some c\/(mg cn=none/\CM cn=some c/\cn≠"__name__")
def rS (K:Ac)(mg:Str->Option Ai)(x:Str)(C:Av)(CS:List Str):Prop:=bX K C=true/\∀cn∈CS,∃c,TL mg cn c/\CU K (.ref C) c=some (Uu x cn)
structure TN (K:Ac)(mg:Str->Option Ai)(B:Str)(XS CS:List Str):Prop where
 ex:∃cB,TL mg B cB/\∀x∈XS,∃C,mg x=some (.ref C)/\HY K (.ref C) cB=some true/\Wr K C/\rS K mg x C CS
noncomputable def MA (K:Ac)(cn:Str):Option Ai:=match Md K BF cn with
 |some (some c)=>some c
 |some none=>if cn == ("__name__":Str)then none else CM cn
 |none=>none
noncomputable def VF (K:Ac)(x:Str)(C:Av)(CS:List Str):Bool:=CS.all λcn=>match MA K cn with
 |some c=>CU K (.ref C) c == some (Uu x cn)
 |none=>false
noncomputable def allChk (K:Ac)(B:Str)(XS CS:List Str):Bool:=match MA K B with
 |some cB=>XS.all λx=>match Md K BF x with
  |some (some (.ref C))=>HY K (.ref C) cB == some true && (bX K C && (IL K C Yw "ValueError.__new__" && VF K x C CS))
  |_=>false
 |none=>false
def xU {K:Ac}(X:K.In h)(G:h.Ns BF mg)(e:MA K cn=some c):TL mg cn c:=by
 unfold MA at e;split at e
 .next c' q=>cases e;exact .inl (R6 X G q)
 .next q=>
  split at e
  .cases e
  .next n=>exact .inr ⟨PySem.W.mg_none_of X G q,e,λz=>n (beq_iff_eq.mpr z)⟩
 .cases e
def allC_of {K:Ac}(X:K.In h)(G:h.Ns BF mg)(q:allChk K B XS CS=true):TN K mg B XS CS:=by
 unfold allChk at q;split at q
 .next cB e=>
  refine⟨cB,xU X G e,λx hx=>?_⟩;have q1:=Ca.mp q x hx;split at q1
  .next C e1=>
   simp only[Br,beq_iff_eq]at q1;obtain⟨q2,q3,q4,q5⟩:=q1;refine⟨C,R6 X G e1,q2,q4,q3,λcn hc=>?_⟩;have q6:=Ca.mp q5 cn hc;split at q6
   .next c e2=>exact⟨c,xU X G e2,beq_iff_eq.mp q6⟩
   .cases q6
  .cases q1
 .cases q
section
variable {K:Ac}
def Zlv (hE:UN K mg E2 E)(ax:TN K mg B XS CS)(hmsg:rQ (FZ (Kr P w) P w K mg base N qual scope f cd A outer s H E) msg tm)
  (hx:x∈XS:=by nofun) (hg:autoParam (Gl (FZ (Kr P w) P w K mg base N qual scope f cd A outer s H E) x) BV) (hd:autoParam 'j' Gy) (hs:autoParam (Ap [msg] (FZ (Kr P w) P w K mg base N qual scope f cd A outer s H E).env=[(false,eval msg (FZ (Kr P w) P w K mg base N qual scope f cd A outer s H E).env)]) BV) :
  Gc (FZ (Kr P w) P w K mg base N qual scope f cd A outer s H E) (.Raise (some (.Call (.Name x np) [msg] [] cpos)) none pos) (Q9 x E2 tm):=by
 obtain⟨cB,_,h⟩:=ax.ex;obtain⟨C,hm,_,hC,_⟩:=h x hx;exact zy hE hm hC hmsg hg hd hs
end
def qi (h:TL X.mg x c)(hg:Gl X x)(hd:(x == ("__debug__":Str))=false):TK X x c:=⟨hg,hd,h⟩
def ww {st b0:C6}(ax:TN X.K X.mg B XS CS)(hex:X.ex=[])(hst:X.stack=X.env::X.outer)(hfr:X.env.frame=some X.env.locals)(hb:Wg X st tb)
  (hh:∀a oe,Dg (X.hdl a oe) (b0::bs) th) (hg:autoParam (Gl X B) BV) (hd:autoParam ((B == ("__debug__":Str))=false) Gy) :
  Gc X (.Try [st] [.ExceptHandler (some (.Name B bp)) none (b0::bs) hp] [] [] pos) (Yz XS tb th):=by
 obtain⟨cB,hB,h⟩:=ax.ex;refine rf hex hst hfr (qi hB hg hd) (λx hx C hm=>?_) hb hh;obtain⟨C',hm',e,_⟩:=h x hx;rw[hm]at hm';cases hm';exact e
section
variable {τ:GK}{M:Mp}   {D:Kq}{E:RQ}     {tx:RT}{tb:RS}{th:Hw}   {x:Str}{xs:List Str}
end
end L3
namespace L2
open PySem PySem.Spec PyProof.Rows
section
variable {X:Cx}{e:BY}
end
end L2
namespace L3
open PySem PySem.Spec PyProof.Rows L2
unseal B3
end L3
namespace L3
open PySem PySem.Spec PyProof.Rows L2
section
unseal Dg
def Ev.filt {ks:List α}(hz:ks.length<=An)(hS:S M)(ht:∀k∈ks,∀R:Bool->Mp->Prop,R (pr k) M->tt (MC τ caps (some (g k))) M R)(h:∀k∈ks,∀R,R (f k) M->te (MC τ caps (some (g k))) M R)(q:Q ((ks.filter pr).map f) M):Ev (ks.map g) S caps tt te τ M Q:=by
 refine⟨by rw[Ab];exact hz,λi ys M'=>M'=M/\ys=((ks.take i).filter pr).map f,⟨rfl,rfl⟩,?_,?_,?_⟩
 .rintro i ys M' ⟨rfl,rfl⟩;exact⟨hS,by rw[Ab];exact A4 (CF _ _) (by rw[A3];ext)⟩
 .rintro i x ys M' hx ⟨rfl,rfl⟩;rw[AI]at hx;cases e:ks[i]? with
  |none=>rw[e]at hx;cases hx
  |some k=>
   rw[e]at hx;cases hx;refine ht k (AB e) _ ?_;dsimp only;cases c:pr k with
   |true=>rw[if_pos rfl];exact h k (AB e) _ ⟨rfl,by rw[Bb,e,C5,AJ];simp[c]⟩
   |false=>rw[if_neg 'g'];exact⟨rfl,by rw[Bb,e,C5,AJ];simp[c]⟩
 .rintro ys M' ⟨rfl,rfl⟩;rw[Ab,Bm];exact q
end
section
unseal EX B3 Gd
end
unseal Cq
end L3
namespace L3
open PySem PySem.Spec PyProof.Rows L2
unseal Cq
section
unseal Dg
unseal B3
unseal HP
unseal Gc
end
end L3
namespace L2
open PySem PySem.Spec PyProof.Rows
end L2
namespace L3
open PySem PySem.Spec PyProof.Rows L2
section
unseal B3
unseal HP
unseal Gc
end
end L3
namespace L2
open PySem PySem.Spec PyProof.Rows
section
variable {st:BY}  {lo:Option BY}
end
end L2
namespace L3
open PySem PySem.Spec PyProof.Rows L2
unseal B3 Ij JQ Gd KN Gc Dg Cq Gb BW F0 Gz Ll HP EX
section
variable {st:BY}  {lo:Option BY}
noncomputable def Uv:D->Bool
 |.non=>true
 |_=>false
def ut (ax:At Z x dx):decide (x=V.non)=Uv dx:=by
 cases dx with
 |tup xs=>obtain⟨p,rfl,_⟩:=ax;rfl
 |lst xs=>obtain⟨p,rfl,_⟩:=ax;rfl
 |dic xs=>obtain⟨p,rfl,_⟩:=ax;rfl
 |dct xs=>obtain⟨p,rfl,_⟩:=ax;rfl
 |_=>cases ax;rfl
def wV:Cq X (Bc .IsNot) (λx y M Q=>y=.non/\Q (.bl (!Uv x)) M):=Gf.mono xn (by
 intro x y H Q;ext1⟨Z,dx,dy,M,Q2,hr,ax,ay,h,k⟩;obtain ⟨rfl,q⟩:=h;cases (show y=V.non from ay);refine ⟨rfl,?_⟩;rw [ut ax];exact k Z (.bl _) (.bl _) H M (Le.refl _) hr rfl q)
end
end L3
namespace L3
open PySem PySem.Spec PyProof.Rows L2
section
unseal BW
end
end L3
namespace L2
open PySem PySem.Spec PyProof.Rows
def YX (j:Nat)(t:TI->TE):TE:=λU H Q=>∃a ks,U[j]? = some (some (.ref a))/\Rd H a (.dK ks)/\∀ob,t (λ_ H R=>R (Wq ks) H) U (CI H a (.frz ob (.dK ks))) Q
def wC (B:DX X scope x caps):DX (X.fr f) scope x caps:={B with}
def Η (B:DX X scope x caps)(hc:X.calm=true)(hl:∀f,PE (X.fr f) (.Name y py) (PK j))
  (he:∀f cl C fp pn s H,PE (GI (X.fr f) scope cl C (x::caps.map (·.1)) fp pn s H) elt te) (hif:∀f cl C fp pn s H,Hy (GI (X.fr f) scope cl C (x::caps.map (·.1)) fp pn s H) ifs tt)
  (hs:∀x,Bn (.Name y py) X.env x=pure x):PE X (.ListComp elt [⟨.Name x px,.Name y py,ifs,0⟩] scope pos) (YX j λwi=>IN wi caps tt te):=by
 intro Ad s U H Q I ⟨a,ks,e,rd,h⟩;obtain⟨ob,I1⟩:=I.freeze rd;have z:=fZ (X:=X.fr (a,ob,.dK ks)) (pos:=pos) (px:=px) (wi:=λU H R=>PK j U H λv H1=>v=.ref a/\R (Wq ks) H1) (wC B) hc (vG (hl _) (Aw)) (he _) (hif _) hs Ad s U _ Q I1 ⟨_,e,rfl,h ob⟩;refine Bw z (λu s' q=>?_) λ_ _ q=>q;obtain⟨v,H1,J,r,q⟩:=q;exact⟨v,H1,J.unfr,r,q⟩
def YQ (j:Nat)(t:TI->TS):TS:=λD U H=>∃a ks,U[j]? = some (some (.ref a))/\Rd H a (.dK ks)/\∀ob,t (λ_ H R=>R (Wq ks) H) D U (CI H a (.frz ob (.dK ks)))
def zt (hN:X.N.Nodup)(hi0:X.N[i]? = some z)(hy:X.env.scope.names.lookup z=some .local)(B:DX X scope x caps)(hc:X.calm=true)(hl:∀f,PE (X.fr f) (.Name y py) (PK j))
  (he:∀f cl C fp pn s H,PE (GI (X.fr f) scope cl C (x::caps.map (·.1)) fp pn s H) elt te) (hif:∀f cl C fp pn s H,Hy (GI (X.fr f) scope cl C (x::caps.map (·.1)) fp pn s H) ifs tt)
  (hsw:C0 (.ListComp elt [⟨.Name x px,.Name y py,ifs,0⟩] scope pos) (some (.Name z pz)) spos.line X.env=pure true)
  (hs:∀x,Bn (.Name y py) X.env x=pure x):PS X (.Assign [.Name z pz] (.ListComp elt [⟨.Name x px,.Name y py,ifs,0⟩] scope pos) spos) (YQ j λwi=>Ng (IN wi caps tt te) (JK i)):=by
 intro Ad s U H D I ⟨a,ks,e,rd,h⟩;obtain⟨ob,I1⟩:=I.freeze rd;have w:=gB (X:=X.fr (a,ob,.dK ks)) (pos:=pos) (px:=px) (py:=pz) (spos:=spos) (wi:=λU H R=>PK j U H λv H1=>v=.ref a/\R (Wq ks) H1) hN hi0 hy (wC B) hc (vG (hl _) (Aw)) (he _) (hif _) hsw hs Ad s U _ D I1 ⟨_,e,rfl,h ob⟩;refine Bw w (λf s' q=>?_) λ_ _ q=>q;cases f with
 |next=>obtain⟨U',H',J,q⟩:=q;exact⟨U',H',J.unfr,q⟩
 |brk=>obtain⟨U',H',J,q⟩:=q;exact⟨U',H',J.unfr,q⟩
 |cont=>obtain⟨U',H',J,q⟩:=q;exact⟨U',H',J.unfr,q⟩
 |ret u=>obtain⟨v,U',H',J,q⟩:=q;exact⟨v,U',H',J.unfr,q⟩
end L2
namespace L3
open PySem PySem.Spec PyProof.Rows L2
unseal B3 Ij JQ Gd KN Gc Dg Cq Gb BW F0 Gz Ll HP EX
def ZmD {K:Ac}(st:GJ Z U τ)(h1:HR K H M Z)(jk:bT K J xs S Z)(h:Ev xs S caps tt te τ M QL)
  (ht:∀U H Q,lT K tt U H Q->tt1 U H Q)
  (k:∀Z1 H1 M1 vs ds,Le Z Z1->HR K H1 M1 Z1->DH Z1 vs ds->QL ds M1->∀p,H1 p=none->Q (.ref p) (CI H1 p (.lst vs))):IN (λ_ H R=>R J H) caps tt1 (lE K te) U H Q:=by
 obtain⟨hz,W,w0,stay,turn,done⟩:=h;refine⟨xs.length,λi vs H=>i<=xs.length/\∃Z2 M2 ds,Le Z Z2/\HR K H M2 Z2/\DH Z2 vs ds/\W i ds M2,⟨Ej _,Z,M,[],Le.refl _,h1,.nil,w0⟩,?_⟩;intro i vs H2;ext1⟨hi,Z2,M2,ds,l2,h2,a2,w2⟩;obtain⟨s2,hl⟩:=stay i ds M2 w2;obtain⟨go,stop⟩:=jk i H2 M2 Z2 l2 h2 s2;have la:=a2.length;by_cases hlt:i<xs.length
 .obtain⟨g1,g2⟩:=go _ (Af hlt);refine .inr ⟨g1,hlt,by ext,λx H' y=>?_⟩;obtain⟨Z5,l5,h5,a⟩:=g2 x H' y;have tk:=turn i _ ds M2 (Af hlt) w2;have l2:=l2.trans l5;have a2:=a2.mono l5;refine ht _ _ _ (lT.bind ((st.mono l2).cap caps a) h5 tk λZ3 b H3 M3 l3 h3 q3=>?_);cases b with
  |false=>rw[if_neg Ak]at q3 ⊢;exact⟨hlt,Z3,M3,ds,l2.trans l3,h3,a2.mono l3,q3⟩
  |true=>rw[if_pos rfl]at q3 ⊢;refine lE.bind (((st.mono l2).cap caps a).mono l3) h3 q3 λZ4 z dz H4 M4 l4 h4 a4 q4=>?_;exact⟨hlt,Z4,M4,ds++[dz],l2.trans (l3.trans l4),h4,(a2.mono (l3.trans l4)).append (.cons a4 .nil),q4⟩
 .have e:i=xs.length:=by ext
  subst e;exact .inl ⟨stop (AL _),by ext,k Z2 H2 M2 vs ds l2 h2 a2 (done ds M2 w2)⟩
def RB {K:Ac}(ht:∀U H Q,lT K tt U H Q->tt1 U H Q):∀U H Q,lE K (GQ (Q8 (Gw j)) caps tt te) U H Q->YX j (λwi=>IN wi caps tt1 (lE K te)) U H Q:=by
 intro U H Q;ext1⟨Z,τ,M,Q2,st,hr,h,k⟩;obtain⟨d,e,q⟩:=Cm h;obtain⟨AG,e2,q⟩:=Cm q;obtain⟨v,e1,a⟩:=st.get (E5.mp e);cases d with
 |dic ds=>
  cases e2;obtain⟨p,rfl,z⟩:=a;rcases hr.z p _ z with⟨ks,rd,ka⟩|k
  .refine⟨p,ks,e1,rd,λob=>?_⟩;exact ZmD st (hr.frzH z rd) (ο ka) q ht λZ1 H1 M1 vs ds l1 h1 a1 q p hp=>(k.le l1).f h1 hp a1 q
  .exact k.elim
 |_=>cases e2
def S5 (B:DX X scope x caps)(hc:X.calm=true)(hN:X.N[j]? = some y)(hv:XM X.env.scope y)(hd:(y == ("__debug__":Str))=false)(hcd:(y == ("__classdict__":Str))=false)(he:∀f cl C fp pn s H,B3 (GI (X.fr f) scope cl C (x::caps.map (·.1)) fp pn s H) elt te)
  (hs:autoParam (∀x,Bn (.Name y py) X.env x=pure x) NM):B3 X (.ListComp elt [⟨.Name x px,.Name y py,[],0⟩] scope pos) (GQ (Q8 (Gw j)) caps HA te):=PE.mono (Η (te:=lE X.K te) B hc (λf=>oO (X:=X.fr f) hN hv hd hcd) he (λ_ _ _ _ _ _ _=>Hy.nil) hs) (RB LV)
def ZG {K:Ac}(ht:∀U H Q,lT K tt U H Q->tt1 U H Q):∀D U H,lS K (Fy i (GQ (Q8 (Gw j)) caps tt te)) D U H->YQ j (λwi=>Ng (IN wi caps tt1 (lE K te)) (JK i)) D U H:=by
 intro D U H;ext1⟨Z,τ,M,D2,st,hr,h,er⟩;exact RB ht _ _ _ (lE.bind st hr h λZ1 x dx H1 M1 l1 h1 a1 q1=>lS.nx (er.le l1) ((st.mono l1).set a1 i) h1 q1)
end L3
namespace L2
open PySem PySem.Spec PyProof.Rows L3
end L2
namespace L3
open PySem PySem.Spec PyProof.Rows L2
unseal B3 Ij JQ Gd KN Gc Dg Cq Gb BW F0 Gz Ll HP EX
section
variable {X:Cx}
def DH.rev (h:DH Z vs ds):DH Z vs.reverse ds.reverse:=by
 induction h with
 |nil=>exact .nil
 |cons a _ ih=>rw[G4,G4];exact ih.append (.cons a .nil)
def Y6:D->List D->Mp->Ef->Prop:=λx xs M Q=>Ko x λp=>xs=[]/\OF (M p) λys=>Q .non (put M p (.lst ys.reverse))
def Zm2:EX X "list.reverse" Y6:=NQ.mono Zko (by
 intro x xs H Q;ext1⟨Z,d,ds,M,Q2,hr,a,as,h,k⟩;obtain ⟨p,rfl,rfl,h1⟩:=IG h;cases (show x=V.ref p from a);cases as;obtain ⟨ys,e,q⟩:=nQ h1;obtain ⟨vs,r,a2⟩:=hr.rdM e;exact ⟨p,vs,rfl,rfl,r,k Z .non .non _ _ (Le.refl _) (hr.chgL e a2.rev) rfl q⟩)
noncomputable def Ri (ss:List Str):List Str:=ss.mergeSort PX
def γ (h1:ys.Perm xs)(h2:Lq ys=true):ys=Ri xs:=
 Hq (λa b _ _ p q=>gO p q) (b9 _ h2) (Du V8 XB _) (h1.trans (D5 _ _).symm)
def ar {K:Ac}{f:List Str->Mp->Ef->Prop}(hK:X.K=K)(hf:∀{Z:Zt}{H:Hp}{M:Mp}{Q2:Ef}{Q:VK}{ys:List Str}{a:Av},HE K Z Q2 Q->HR K H M Z->H a=none->f ys M Q2->Q (.ref a) (CI H a (.lst (ys.map V.str)))):BW X (.builtin "sorted") (λxs M Q=>GH xs λx=>Cw (Bg M x) λds=>Cw (EG ds) λss=>ss.length<64/\f (Ri ss) M Q):=by
 subst hK;intro Ad s U H xs us Q I r;ext1⟨Z,ds,M,Q2,hr,a,h,k⟩;obtain⟨x,rfl,h1⟩:=GV h;obtain⟨zs,e,h2⟩:=Cm h1;obtain⟨ss,e2,h64,q⟩:=Cm h2;obtain⟨v,rfl,av⟩:=II a;obtain⟨p,ws,rfl,hs,a2⟩:=hr.rdL e av;obtain⟨u,rfl,ru⟩:=Ha r;cases(show u=AE p from ru);have e3:=XC e2;subst e3;have e4:=L2.ats_strs a2;subst e4;obtain⟨Bi,rv,pl,hz⟩:=I.list hs;have l1:=rv.length;rw[Ab]at l1;refine sorted_strs pl.isList (ZgO rv) (by ext) λout ss' b1 b2 b3=>?_;obtain⟨c,hc⟩:=sortedAll_at s.heap Bi out;have e5:=γ b2 b3;rw[<- e5]at q;refine⟨.ref _,_,I.laid (λ_ _=>sortedAll_old) (Kc _) ?_,rfl,hf k hr (I.hok.fresh (Kc _)) q⟩;refine⟨?_,out.toList,c,rB b1,hc⟩;rw[Ab,b2.length_eq];have:(64:Nat)<=An:=by decide
 ext
def az:BW X (.builtin "sorted") (λxs M Q=>GH xs λx=>Cw (Bg M x) λds=>Cw (EG ds) λss=>ss.length<64/\Q (.lst ((Ri ss).map D.str)) M):=ar rfl λk hr ha q=>k.f hr ha (bA _) q
def ZmL:BW X (.builtin "sorted") (λxs M Q=>GH xs λx=>Cw (Bg M x) λds=>Cw (EG ds) λss=>ss.length<64/\∀p,M p=none->Q (.ref p) (put M p (.lst ((Ri ss).map D.str)))):=ar rfl λk hr ha q=>k.l hr ha (bA _) q
end
end L3
end Internal
namespace PySem
open Sem (wp)
section
variable {prog:Bs}{w:BK}{A:CH}{E:Ai->As->Prop}{s:As}{d it:Av}{es:Array F6}{i ep:Nat}
end
end PySem
namespace Internal
namespace L3
open PySem PySem.Spec PyProof.Rows L2
unseal B3 Ij JQ Gd KN Gc Dg Cq Gb BW F0 Gz Ll HP EX
noncomputable def GR (ks:List Ck):D:=.tup (ks.map kD)
section
variable {K:Ac}{H:Hp}{M:Mp}{Z:Zt}
end
section
variable {X:Cx}{pos pos':Pos}{o i value:BY}{td ty tv:DZ}
end
structure Mf (K:Ac)(C:Av)(m qual:Str)(st:C6)(ps:List Str)(f:Av)(fd:Dy):Prop where
 F:CB K m qual st f fd
 b:HF K fd ps []
 m:TH K C m f
def OE (C:Av)(o:Option MO)(k:List (Str×D)->Prop):Prop:=∃fs,o=some (.obj C fs)/\k fs
def G1 :OE C (some (.obj C fs)) k=k fs:=propext ⟨λ⟨fs',e,h⟩=>by cases e;exact h,λh=>⟨fs,rfl,h⟩⟩
noncomputable def putO (f:Str)(v:D):List (Str×D)->List (Str×D)
 |[]=>[(f,v)]
 |p::r=>if p.1=f then(p.1,v)::r else p::putO f v r
section
variable {K:Ac}   {Z:Zt}{f:Str}{vs:List (Str×V)}{ds:List (Str×D)}
theorem C7.putO (a:At Z v d)(h:C7 Z vs ds):C7 Z (HL f v vs) (L3.putO f d ds):=by
 induction h with
 |nil=>exact .cons ⟨rfl,a⟩ .nil
 | @cons p q vs ds r t ih=>
  unfold HL L3.putO;have e:=r.1;by_cases c:p.1=f
  .rw[if_pos c,if_pos (by rw[<- e];exact c)];exact .cons ⟨e,a⟩ t
  .rw[if_neg c,if_neg (by rw[<- e];exact c)];exact .cons r ih
def C7.look (h:C7 Z vs ds):(ds.lookup f=none/\vs.lookup f=none)\/∃d v,ds.lookup f=some d/\vs.lookup f=some v/\At Z v d:=by
 induction h with
 |nil=>exact .inl ⟨rfl,rfl⟩
 | @cons p q vs ds r t ih=>
  have e:=r.1;rw[BL,BL,e];cases c:f == q.1 with
  |true=>exact .inr ⟨_,_,rfl,rfl,r.2⟩
  |false=>exact ih
def HR.newO (h:HR K H M Z)(e1:H x=none)(e2:H dx=none)(ne:dx≠x):HR K (CI (CI H dx (.own x)) x (.ins C dx [])) (put M x (.obj C [])) Z:=by
 obtain⟨h1,h2⟩:=h.lay e2 (.own x);exact HR.newM ⟨h1,h2⟩ (by rw[Iq (Bk ne)];exact e1) ⟨dx,[],MX,.nil⟩
end
section
variable {m x:Str}
def YL (C:Av)(f:Str)(ta:DZ):DZ:=λτ M Q=>ta τ M λx M1=>Ko x λp=>OE C (M1 p) λfs=>Cw (fs.lookup f) λd=>Q d M1
def Hs (c:OW X.K C)(n:Eb X.K C f)(he:B3 X e ta)(hb:autoParam (CL e f X.env (eval e X.env)=eval e X.env) BV):B3 X (.Attribute e f pos) (YL C f ta):=PE.mono (su he hb) (by
 intro U H Q;ext1⟨Z,τ,M,Q2,st,hr,h,k⟩;refine lE.bind st hr h λZ1 x dx H1 M1 l1 h1 a1 q1=>?_;obtain⟨p,rfl,fs,hm,q2⟩:=IG q1;obtain⟨d,hd,q⟩:=Cm q2;obtain⟨ix,vs,hv,ka⟩:=h1.rdMO hm;rcases ka.look with⟨e1,_⟩|⟨d',v,e1,e2,a⟩
 .rw[hd]at e1;cases e1
 .rw [hd] at e1;cases e1;exact ⟨p,C,ix,vs,v,a1,hv,c,n,e2,k Z1 v d H1 M1 l1 h1 a q⟩)
def T6 (C:Av)(f:Str)(ta tv:DZ):Hw:=λE τ M=>tv τ M λy M1=>ta τ M1 λx M2=>Ko x λp=>OE C (M2 p) λfs=>fs.length<1000/\E.nx τ (put M2 p (.obj C (putO f y fs)))
def oH (c:OW X.K C)(n:Eb X.K C f)(ha:B3 X o ta)(hv:B3 X value tv)(hs:autoParam (C0 value (some (.Attribute o f pos')) pos.line X.env=pure false) BV):Gc X (.Assign [.Attribute o f pos'] value pos) (T6 C f ta tv):=PS.mono (uc ha hv hs) (by
 intro D U H;ext1⟨Z,τ,M,D2,st,hr,h,er⟩;refine lE.bind st hr h λZ1 y dy H1 M1 l1 h1 a1 q1=>lE.bind (st.mono l1) h1 q1 λZ2 x dx H2 M2 l2 h2 a2 q2=>?_;obtain ⟨p,rfl,fs,hm,hl,q⟩:=IG q2;obtain ⟨ix,vs,hv,ka⟩:=h2.rdMO hm;refine ⟨p,C,ix,vs,a2,hv,c,n,by rw [D9 ka];exact hl,?_⟩;exact er.nx Z2 U τ _ _ (l1.trans l2) (st.mono (l1.trans l2)) (h2.chg (u':=.obj C (putO f dy fs)) hm ⟨ix,_,MX,ka.putO (a1.mono l2)⟩) q)
def Pd (C:Av)(m:Str)(sp:DL)(ta:DZ)(t:Ka):DZ:=λτ M Q=>ta τ M λx M1=>Ko x λp=>OE C (M1 p) λfs=>fs.lookup m=none/\t τ M1 λxs M2=>sp (.ref p::xs) M2 Q
def ZH {K:Ac} :∀U H Q,lE K (Pd C m sp ta t) U H Q->Rf C m (lSp K sp) [] E0 (lE K ta) (lA K t) U H Q:=by
 intro U H Q;ext1⟨Z,τ,M,Q2,st,hr,h,k⟩;refine lE.bind st hr h λZ1 x dx H1 M1 l1 h1 a1 q1=>?_;obtain⟨p,rfl,fs,hm,hn,q⟩:=IG q1;obtain⟨ix,vs,hv,ka⟩:=h1.rdMO hm;have a1:=a1;subst a1;refine⟨p,ix,vs,rfl,hv,?_,Z1,τ,M1,_,st.mono l1,h1,q,λZ2 ws ds H2 M2 l2 h2 a2 q2=>?_⟩
 .rcases ka.look with⟨_,e2⟩|⟨d',v,e1,_,_⟩
  .exact e2
  .rw[hn]at e1;cases e1
 .show lSp K sp (V.ref p::(ws++[])) H2 Q E0;rw[Cc];exact⟨Z2,.ref p::ds,M2,Q2,h2,.cons rfl a2,q2,k.le (l1.trans l2)⟩
def Fz {st:C6}(c:OW X.K C)(d:Mf X.K C m qual st ps g fd)(G:FnOk X.prog X.w X.K X.mg X.base CX0 k g fd ps (lSp X.K sp))(hr:Db k X.A)(ho:B3 X o ta)(ha:Gd X (e::es) t)
  (hst:autoParam (Ap (e::es) X.env=(false,eval e X.env)::Ap es X.env) BV) (hpl:autoParam ((B5 pos (Ap es X.env)).any (·.1)=false) BV)
  (ht:autoParam (eval (.Call (.Attribute o m apos) (e::es) [] pos) X.env=(do
   let ov <- eval o X.env
   Nw apos.atName
   let (f,first) <- G6 [ov] (Kd ov m pl)
   SA pos f first (B5 pos (Ap (e::es) X.env)) (FP pos (DQ [] X.env)))) BV) :
  B3 X (.Call (.Attribute o m apos) (e::es) [] pos) (Pd C m sp ta t):=PE.mono (xz ho c d.m G hr d.b .nil Pf ha hst hpl ht) ZH
def KY {st:C6}(c:OW X.K C)(d:Mf X.K C m qual st ps g fd)(G:FnOk X.prog X.w X.K X.mg X.base CX0 k g fd ps (lSp X.K sp))(hr:Db k X.A)(ho:B3 X o ta)
  (ht:autoParam (eval (.Call (.Attribute o m apos) [] [] pos) X.env=(do
   let ov <- eval o X.env
   Nw apos.atName
   let (f,first) <- G6 [ov] (Kd ov m pl)
   SA pos f first (B5 pos (Ap [] X.env)) (FP pos (DQ [] X.env)))) BV) :
  B3 X (.Call (.Attribute o m apos) [] [] pos) (Pd C m sp ta Vf):=PE.mono (zp ho c d.m G hr d.b .nil Pf ht) (by
 intro U H Q;ext1⟨Z,τ,M,Q2,st,hr,h,k⟩;refine lE.bind st hr h λZ1 x dx H1 M1 l1 h1 a1 q1=>?_;obtain⟨p,rfl,fs,hm,hn,q⟩:=IG q1;obtain⟨ix,vs,hv,ka⟩:=h1.rdMO hm;have a1:=a1;subst a1;refine⟨p,ix,vs,rfl,hv,?_,⟨Z1,[.ref p],M1,Q2,h1,.cons rfl .nil,q,k.le l1⟩⟩;rcases ka.look with⟨_,e2⟩|⟨d',v,e1,_,_⟩
 .exact e2
 .rw [hn] at e1;cases e1)
def Ua (C:Av)(sp:DL)(t:Ka):DZ:=λτ M Q=>t τ M λxs M1=>∀p,M1 p=none->sp (.ref p::xs) (put M1 p (.obj C [])) λv M2=>v=.non/\Q (.ref p) M2
def ve {K:Ac}{M1:Mp}(l1:Le Z Z1)(h1:HR K H1 M1 Z1)(a1:DH Z1 vs ds)(k:HE K Z Q2 Q)(q1:∀p,M1 p=none->sp (.ref p::ds) (put M1 p (.obj C [])) λv M2=>v=.non/\Q2 (.ref p) M2) :
  ∀x dx,H1 x=none->H1 dx=none->dx≠x->lSp K sp (.ref x::(vs++[])) (CI (CI H1 dx (.own x)) x (.ins C dx [])) (λv H2=>v=.non/\Q (.ref x) H2) E0:=λx dx e1 e2 ne=>by
 rw[Cc];refine⟨Z1,.ref x::ds,_,_,h1.newO e1 e2 ne,.cons rfl a1,q1 x (h1.fresh e1),λZ2 v d H2 M2 l2 h2 a2 q2=>?_⟩;obtain⟨rfl,q⟩:=q2;exact⟨a2,k Z2 (.ref x) (.ref x) H2 M2 (l1.trans l2) h2 rfl q⟩
def Zr {st:C6}(mk:Mk X.K C g)(d:Mf X.K C "__init__" qual st ps g fd)(G:FnOk X.prog X.w X.K X.mg X.base CX0 k g fd ps (lSp X.K sp))(hr:Db (k+1) X.A)(hm:X.mg x=some (.ref C))(ha:Gd X (e::es) t)(hg:autoParam (Gl X x) BV)(hdb:autoParam 'j' Gy)
  (he:autoParam (Ap (e::es) X.env=(false,eval e X.env)::Ap es X.env) BV) (hpl:autoParam ((B5 pos (Ap es X.env)).any (·.1)=false) BV) :
  B3 X (.Call (.Name x p) (e::es) [] pos) (Ua C sp t):=PE.mono (xy mk G hr hg hm d.b .nil Pf ha hdb he hpl) (by
 intro U H Q;ext1⟨Z,τ,M,Q2,st,hr,h,k⟩;exact ⟨Z,τ,M,_,st,hr,h,λZ1 vs ds H1 M1 l1 h1 a1 q1=>ve l1 h1 a1 k q1⟩)
theorem mf :YL C f ta τ M Q=ta τ M λx M1=>Ko x λp=>OE C (M1 p) λfs=>Cw (fs.lookup f) λd=>Q d M1:=rfl
theorem uo :T6 C f ta tv E τ M=tv τ M λy M1=>ta τ M1 λx M2=>Ko x λp=>OE C (M2 p) λfs=>fs.length<1000/\E.nx τ (put M2 p (.obj C (putO f y fs))):=rfl
theorem r9 :Pd C m sp ta t τ M Q=ta τ M λx M1=>Ko x λp=>OE C (M1 p) λfs=>fs.lookup m=none/\t τ M1 λxs M2=>sp (.ref p::xs) M2 Q:=rfl
theorem r6 :Ua C sp t τ M Q=t τ M λxs M1=>∀p,M1 p=none->sp (.ref p::xs) (put M1 p (.obj C [])) λv M2=>v=.non/\Q (.ref p) M2:=rfl
end
end L3
end Internal
namespace PySem
open Sem (wp)
end PySem
namespace Internal
namespace L2
open PySem PySem.Spec PyProof.Rows L3
end L2
namespace L3
open PySem PySem.Spec PyProof.Rows L2
unseal B3 Ij JQ Gd KN Gc Dg Cq Gb BW F0 Gz Ll HP EX
end L3
namespace L2
open PySem PySem.Spec PyProof.Rows L3
end L2
namespace L3
open PySem PySem.Spec PyProof.Rows L2
unseal B3 Ij JQ Gd KN Gc Dg Cq Gb BW F0 Gz Ll HP EX
end L3
namespace L2
open PySem PySem.Spec PyProof.Rows L3
noncomputable def JF (c:Nat)(n:Int):Str:=⟨(Az n.toNat c).toArray⟩
theorem Zki:Gf X (Bz .Mult) (λx y H Q=>∃c n,x=.str ⟨#[c]⟩/\y=.int n/\(0<=n/\n<=100)/\Q (.str (JF c n)) H):=by
 intro Ad s U H x y v u Q I rx ry;ext1⟨c,n,e1',e2',⟨h0,h1⟩,q⟩;obtain⟨t,rfl⟩:=(show∃t,v=Ds ⟨#[c]⟩ t from rx);obtain⟨t',rfl⟩:=(show∃t,u=DS n t from ry);have hz:(⟨#[c]⟩:Str).length=1:=rfl;have fin:∀r tk tk',r=JF c n->EP X Ad U Q (.str r tk) {s with toks:=tk' }:=λr tk tk' hr=>⟨.str r,H,I.tok _,⟨tk,rfl⟩,by rw[hr];exact q⟩;refine P.mul_str ?_ ?_ ?_ ?_
 .rw[decide_eq_false (by ext),decide_eq_false (by ext)];rfl
 .intro h3 _ h4
  have:(1000:Int)<(2^63-1) / n:=by
   have:(92233720368547758:Int)<=(2^63-1) / n:=Int.le_ediv_of_mul_le (by ext) (by ext);ext
  rw[hz]at h4;ext
 .intro h3 _;unfold jH;exact decide_eq_false (by rw[HU,hz];ext)
 .split
  .next h3=>
   refine⟨by show LD _<=_;decide,fin _ _ _ ?_⟩;have e:n.toNat=0:=by ext
   unfold JF;rw[e];rfl
  .split
   .next h3 h4=>
    refine fin _ _ s.toks ?_;rcases(by simpa using h4:n=1\/(⟨#[c]⟩:Str).length=0)with h|h
    .rw[h];rfl
    .rw[hz]at h;ext
   .have hl:∀k a,(Az k (#[c]:Array Nat)).foldl (·++·) a=a++(Az k c).toArray:=by
     intro k;induction k with
     |zero=>intro a;simp
     |succ k ih=>intro a;rw[C8,DY,ih,C8];apply Array.toList_inj.mp;simp
    have e:(Az n.toNat (#[c]:Array Nat)).foldl (·++·) #[]=(Az n.toNat c).toArray:=by rw[hl];simp
    refine⟨?_,fin _ _ _ ?_⟩
    .rw[e];show(Az n.toNat c).toArray.size<=_;rw[AW,Bu,HU];ext
    .unfold JF;rw[e]
end L2
namespace L3
open PySem PySem.Spec PyProof.Rows L2
unseal B3 Ij JQ Gd KN Gc Dg Cq Gb BW F0 Gz Ll HP EX
def Ul:LM:=λx y M Q=>Fb y λn=>∃c,x=.str ⟨#[c]⟩/\(0<=n/\n<=100)/\Q (.str (JF c n)) M
def hU:Cq X (Bz .Mult) Ul:=Gf.mono Zki (by
 intro x y H Q;ext1⟨Z,dx,dy,M,Q2,hr,ax,ay,h,k⟩;obtain ⟨n,rfl,c,rfl,hz,q⟩:=C3 h;exact ⟨c,n,ax,ay,hz,k.s hr q⟩)
def fG (h:0<=n/\n<=100)(q:Q (.str (JF c n)) M):Ul (.str ⟨#[c]⟩) (.int n) M Q:=⟨c,rfl,h,q⟩
end L3
end Internal
namespace PySem
open Sem (wp)
end PySem
namespace Internal
namespace L2
open PySem PySem.Spec PyProof.Rows L3
end L2
namespace L3
open PySem PySem.Spec PyProof.Rows L2
unseal B3 Ij JQ Gd KN Gc Dg Cq Gb BW F0 Gz Ll HP EX
end L3
namespace L2
open PySem PySem.Spec PyProof.Rows L3
noncomputable def bU (K:Ac)(a:Av):It:=
  ⟨λi H=>∃ xs x,F4 K H a xs/\xs[i]? = some x,
   λi H v H'=>∃p x,v=.ref p/\H p=none/\H'=CI H p (.tup [.int i,x])/\∀xs,F4 K H a xs->xs[i]? = some x,
   λi H=>∃ xs,F4 K H a xs/\xs.length<=i⟩
structure rT (e it a:Av)(i:Nat)(h:CN):Prop where
 n1:e≠it
 n2:a≠e/\a≠it
 he:∃old,IsEnum h e it i old
 hi:h.IsListIter it a i
def yx {K:Ac}(e it a):MF P w K F (.Tuple es k pos) (bU K a) [e,it] e (rT e it a) where
 mem:=by simp
 obj:=λi h st c hc=>by
  obtain⟨old,he⟩:=st.he;obtain⟨o,ho,-,d⟩:=st.hi;simp only[BD,AT,or_false]at hc;rcases hc with rfl|rfl
  .exact⟨_,he,λv q=>by cases q⟩
  .exact⟨_,ho,λv q=>by rw[d]at q;cases q⟩
 keep:=λi h h' st k=>by
  obtain⟨old,he⟩:=st.he;obtain⟨o,ho,r⟩:=st.hi;exact{st with he:=⟨old,k e 'f' _ he⟩,hi:=⟨o,k it 'f' _ ho,r⟩}
 item:=by
  intro X hP hw hK hF hc i Ad s U H E I hf st hg;subst hP hw hK;obtain⟨xs,x,hx,ex⟩:=hg;obtain⟨Bi,rv,pl,hzz⟩:=I.list hx;obtain⟨u,hu,ru⟩:=rv.get ex;obtain⟨old,he⟩:=st.he;refine wpAny_pyNext_enum_item he st.hi pl.isList (by simpa using hu) st.n1 λh' e1 i1 t1 z1 old1=>?_;refine⟨_,rfl,wpAny_letOwnedTupleGo_enum e1 λh2 e2 sb=>?_⟩
  have ne:∀q∈[e,it],q≠s.heap.objs.size:=λq hq eq=>by
   have hob:∃o,s.heap.get? q=some o:=by
    obtain⟨o,ho,-⟩:=st.hi;simp only[BD,AT,or_false]at hq;rcases hq with rfl|rfl
    .exact⟨_,he⟩
    .exact⟨_,ho⟩
   obtain⟨o,e'⟩:=hob;rw[eq]at e';exact absurd (Ar e') (EC _)
  have I1:AX X Ad U H {s with heap:=h2,toks:=s.toks+1}:=I.turnedN hf λq o hq e'=>by
   simp only[BD,AT,or_false,not_or]at hq;exact(sb.2 q hq.1).trans (old1 q o hq.1 hq.2 e')
  have freshT:=I.fresh;have tp2:=(sb.2 _ (λe'=>ne e 'f' e'.symm)).trans t1;have I2:AX X Ad U (CI H s.heap.objs.size (.tup [.int i,x])) {s with heap:=h2,toks:=s.toks+1}:=I1.track (I.fpOk (AL _) freshT) ⟨FK (BU 'f'),[.int i s.toks,u],.cons ⟨_,rfl⟩ (.cons ru .nil),_,tp2,rfl,_,rfl,rfl⟩;refine⟨.ref s.heap.objs.size,_,I2,rfl,⟨_,x,rfl,freshT,rfl,λzs hz=>by rw[I.list_inj hz hx];exact ex⟩,?_,λq hq=>?_⟩
  .obtain⟨o,ho,r⟩:=i1;exact{st with he:=⟨u,e2⟩,hi:=⟨o,(sb.2 it (Bk st.n1)).trans ho,r⟩}
  .rw[Iq (ne q hq)];exact(hf q hq).1
 done:=by
  intro X hP hw hK hF hc i Ad s U H E I hf st hg;subst hP hw hK;obtain⟨xs,hx,hl⟩:=hg;obtain⟨Bi,rv,pl,_⟩:=I.list hx;obtain⟨old,he⟩:=st.he;have e1:=rv.length;refine wpAny_pyNext_enum_end (I.ok.hd hc) he st.hi pl.isList (by simp;ext) λh' eb=>⟨rfl,I.turnedN hf λq o hq e'=>?_⟩;simp only[BD,AT,or_false,not_or]at hq;exact eb q o hq.2 e'
 self:=λ_ _ _ _ _ st h=>by
  obtain⟨old,he⟩:=st.he;exact Ww he h
def ln {X:Cx}{es:List BY}{k:Nat}{tp:Pos}{a:BY}{ta:TA}{p pos:Pos}(hg:Gl X "enumerate")(hm:X.mg "enumerate" = none)(ha:PA X [a] ta)(hs:autoParam (Ap [a] X.env=[(false,eval a X.env)]) BV) :
  PI X (.Tuple es k tp) (.Call (.Name "enumerate" p) [a] [] pos) (λU H R=>ta U H λvs H1=>∃a xs,vs=[.ref a]/\F4 X.K H1 a xs/\R (bU X.K a) H1):=by
 intro Ad s U H R I h;refine Call_ (P4 I hg hm boot_enumerate (BG (Dp (ha pos Ad s U H _ I h) λus s1 e=>e.el λvs H1 I1 r1 q1=>?_) (by rw[hs];rfl) (by first | rfl | simp[Ap])));obtain⟨a,xs,e,hx,q⟩:=q1;subst e;cases r1 with
 |cons r rr=>
  cases rr;cases(show _=AE a from r);obtain⟨Bi,rv,pl,_⟩:=I1.list hx;refine call_enumerate_list pl.isList λh' e1 i1 z1 old=>?_;have I2:AX X Ad U H1 {s1 with heap:=h' }:=I1.kept λb o e=>old b o e;have la:a<s1.heap.objs.size:=by obtain⟨o,ho,-⟩:=pl.isList;exact Ar ho
  refine Ww e1 ?_;refine⟨_,[s1.heap.objs.size+1,s1.heap.objs.size],_,_,H1,rfl,I2,yx _ _ a,⟨SI _,⟨A6 (EB la),A6 la⟩,⟨_,e1⟩,i1⟩,λc hc=>?_,q⟩
  have hge:s1.heap.objs.size<=c:=by
   simp only[BD,AT,or_false]at hc;rcases hc with rfl|rfl
   .exact G5 _ _
   .exact AL _
  exact I1.fpOk hge (I1.hok.fresh hge)
end L2
namespace L3
open PySem PySem.Spec PyProof.Rows L2
unseal B3 Ij JQ Gd KN Gc Dg Cq Gb BW F0 Gz Ll HP EX
noncomputable def VH (n:Nat):List D->List D
 |[]=>[]
 |x::r=>.tup [.int n,x]::VH (n+1) r
theorem pA:∀{n i:Nat}{xs:List D}{d:D},(VH n xs)[i]? = some d->∃x,xs[i]? = some x/\d=.tup [.int (n+i:Nat),x]
 |_,_,[],_,h=>nomatch h
 |n,0,x::r,d,h=>by cases h;exact⟨x,rfl,rfl⟩
 |n,i+1,x::r,d,h=>by
  obtain⟨y,h1,h2⟩:=pA (xs:=r) h;exact⟨y,h1,by rw[h2,show n+1+i=n+(i+1) by ext]⟩
theorem pB:∀{n:Nat}{xs:List D},(VH n xs).length=xs.length
 |_,[]=>rfl
 |n,x::r=>by rw[VH,AO,pB,AO]
def rZ (t:Ka):NP:=λτ M R=>t τ M λds M1=>GH ds λx=>Cw (Bg M1 x) λxs=>R (VH 0 xs) (λM=>Bg M x=some xs) M1
def lv (hm:X.mg "enumerate" = none)(ha:Gd X [a] ta)(hg:autoParam (Gl X "enumerate") BV)(hs:autoParam (Ap [a] X.env=[(false,eval a X.env)]) BV) :
  HP X (.Tuple es n tp) (.Call (.Name "enumerate" p) [a] [] pos) (rZ ta):=PI.mono (ln hg hm ha hs) (by
 intro U H R;ext1⟨Z,τ,M,R2,st,hr,h,k⟩;refine ⟨Z,τ,M,_,st,hr,h,λZ1 vs ds H1 M1 l1 h1 a1 q1=>?_⟩;obtain ⟨x,rfl,q0⟩:=GV q1;obtain ⟨xs,ex,q⟩:=Cm q0;obtain ⟨v,rfl,a2⟩:=II a1;obtain ⟨p,ws,rfl,hs,b2⟩:=h1.rdL ex a2;refine ⟨p,ws,rfl,hs,k Z1 _ (VH 0 xs) _ H1 M1 l1 h1 (λi H M Z' l hr s=>?_) q⟩;obtain ⟨q,us,e2,hu,c2⟩:=hr.rdL s (a2.mono l);cases e2;have lu:=c2.length;refine ⟨λd hd=>?_,λhi=>⟨us,hu,by rw [pB] at hi;ext⟩⟩;obtain ⟨d1,g1,rfl⟩:=pA hd;obtain ⟨v1,hv1,av1⟩:=c2.get g1;refine ⟨⟨us,v1,hu,hv1⟩,λz H' yl=>?_⟩;obtain ⟨r,x',rfl,hn,rfl,f1⟩:=yl;have z1:=f1 us hu;rw [hv1] at z1;cases z1;exact ⟨_,Le.ext,hr.newT hn (.cons (show At Z' (V.int (i:Int)) (D.int ((0+i:Nat):Int)) by rw [ES];exact rfl) (.cons av1 .nil)),⟨r,rfl,.inr ⟨rfl,rfl⟩⟩⟩)
theorem qa :rZ t τ M R=t τ M λds M1=>GH ds λx=>Cw (Bg M1 x) λxs=>R (VH 0 xs) (λM=>Bg M x=some xs) M1:=rfl
def Zkg (hN:X.N.Nodup)(hi0:X.N[i]? = some z)(hy:X.env.scope.names.lookup z=some .local)(B:DX X scope x caps)(hc:X.calm=true)(hN2:X.N[j]? = some y)(hv:XM X.env.scope y)(hd:(y == ("__debug__":Str))=false)(hcd:(y == ("__classdict__":Str))=false)(he:∀f cl C fp pn s H,B3 (GI (X.fr f) scope cl C (x::caps.map (·.1)) fp pn s H) elt te)(hif:∀f cl C fp pn s H,Ij (GI (X.fr f) scope cl C (x::caps.map (·.1)) fp pn s H) c tt)
  (hsw:autoParam (C0 (.ListComp elt [⟨.Name x px,.Name y py,[c],0⟩] scope pos) (some (.Name z pz)) spos.line X.env=pure true) BV) (hs:autoParam (∀x,Bn (.Name y py) X.env x=pure x) NM) :
  Gc X (.Assign [.Name z pz] (.ListComp elt [⟨.Name x px,.Name y py,[c],0⟩] scope pos) spos) (Fy i (GQ (Q8 (Gw j)) caps tt te)):=PS.mono (zt (te:=lE X.K te) (tt:=lT X.K tt) hN hi0 hy B hc (λf=>oO (X:=X.fr f) hN2 hv hd hcd) he (λf cl C fp pn s H=>Hy.one (hif f cl C fp pn s H)) hsw hs) (ZG λ_ _ _ h=>h)
def ZmS {Z:Zt}:∀{vs:List V}{ds:List D}(i:Nat),DH Z vs ds->DH Z (vs.eraseIdx i) (ds.eraseIdx i):=λi h=>by
 induction h generalizing i with
 |nil=>exact .nil
 |cons a t ih=>cases i with
  |zero=>exact t
  |succ i=>exact .cons a (ih i)
def Rk:D->List D->Mp->Ef->Prop:=λx xs M Q=>Ko x λp=>GH xs λy=>Fb y λi=>OF (M p) λys=>∃(j:Nat) (d:D),i=j/\j<1000000/\ys[j]? = some d/\Q d (put M p (.lst (ys.eraseIdx j)))
def pi:EX X "list.pop" Rk:=NQ.mono χ (by
 intro x xs H Q;ext1⟨Z,d,ds,M,Q2,hr,a,as,h,k⟩;obtain ⟨p,rfl,h1⟩:=IG h;obtain ⟨y,rfl,h2⟩:=GV h1;obtain ⟨i,rfl,h3⟩:=C3 h2;obtain⟨ys,e,j,dj,e1',hj,hd,q⟩:_:=nQ h3;cases (show x=V.ref p from a);obtain ⟨v,rfl,av⟩:=II as;cases (show v=V.int (j:Int) from av);obtain ⟨vs,r,a2⟩:=hr.rdM e;obtain ⟨u,hu,au⟩:=a2.get hd;have hl:=(Ah.mp hu).1;exact ⟨p,vs,j,j,u,rfl,rfl,r,by ext,by ext,(xJ (by unfold Sk;rw [if_pos (by ext),if_pos (by ext),BH])).1,hu,k Z u dj _ _ (Le.refl _) (hr.chgL e (ZmS j a2)) au q⟩)
def sj :Rk (.ref p) [.int i] M Q=OF (M p) λys=>∃(j:Nat) (d:D),i=j/\j<1000000/\ys[j]? = some d/\Q d (put M p (.lst (ys.eraseIdx j))):=by
 unfold Rk;rw[RK,eJ,uN]
end L3
namespace L3
open PySem PySem.Spec PyProof.Rows L2
unseal Dg
def HR.see {K:Ac}(h:HR K H M Z)(e:M p=some u)(hb:MB H Z p u'):HR K H (put M p u') Z:=by
 refine⟨h.z,λb w q=>?_⟩;by_cases hbp:b=p
 .subst hbp;rw[Di]at q;cases q;exact⟨(h.m b u e).1,hb⟩
 .rw[DJ hbp]at q;exact h.m b w q
def Zmc :∀{f:List (Ck×D)}{ks:List (Ck×V)},C7 Z ks (f++[(k,.ref q)])->C7 (ext Z q (.lst xs)) ks (f++[(k,.lst xs)]):=by
 intro f;induction f with
 |nil=>
  intro ks h;cases h with
  |cons r t=>cases t;exact .cons ⟨r.1,by rw[show _=V.ref q from r.2];exact fW⟩ .nil
 |cons a f ih=>
  intro ks h;cases h with
  |cons r t=>exact .cons ⟨r.1,r.2.mono Le.ext⟩ (ih t)
def jI (j:Nat)(t:Hw):Hw:=λE τ M=>∃p q f k xs,τ[j]? = some (some (.ref p))/\M p=some (.dic (f++[(k,.ref q)]))/\M q=some (.lst xs)/\t E τ (put (J2 M q) p (.dic (f++[(k,.lst xs)])))
def wy (j:Nat)(h:Dg X body t):Dg X body (jI j t):=K9.mono h (by
 intro D U H;ext1⟨Z,τ,M,D2,st,hr,⟨p,q,f,k,xs,e,ep,eq,h⟩,er⟩;have hpq:p≠q:=by rintro rfl;rw[ep]at eq;cases eq
 have h1:=hr.frzL eq;have ep1:J2 M q p=some (.dic (f++[(k,.ref q)])):=by unfold J2;rw[if_neg hpq,ep]
 obtain ⟨_,ks,r,a⟩:=hr.m p _ ep;exact ⟨_,_,_,D2,st.mono (Le.ext),h1.see ep1 (u':=.dic (f++[(k,.lst xs)])) ⟨ks,r,Zmc a⟩,h,er.le Le.ext⟩)
end L3
namespace L2
open PySem PySem.Spec PyProof.Rows
noncomputable def Wp (lo:Int)(n:Nat):It:=⟨λi _=>i<n,λi H x H'=>H'=H/\x=.int (lo+(i:Nat)*(-1:Int)),λi _=>n<=i⟩
def Zin {K:Ac}(it:Av)(lo:Int)(n:Nat):MF P w K F tg (Wp lo n) [it] it (λi h=>MU h it (lo+(i:Nat)*(-1:Int)) ((n:Int)-(i:Nat)) (-1)) where
 mem:=by simp
 obj:=λi h st b hb=>by
  have e:b=it:=by simpa using hb
  subst e
  exact ⟨_,st,λv z=>by
   have z':=z;cases z'⟩
 keep:=λi h h' st k=>k it 'f' _ st
 item:=by
  intro X hP hw hK hF hc i Ad s U H E I hf st hg;subst hP hw hK;obtain⟨f0,f1,f2,f3,f4,f5⟩:=hf it 'f';have W:=WG (prog:=X.prog) (w:=X.w) (I.ok.hd hc) it lo (-1) n;refine W.item i s _ _ hg st λv h' tk hv st' kk=>?_;obtain⟨t,rfl⟩:=hv;have I1:AX X Ad U H {s with heap:=h',toks:=tk}:=I.turned (λb o hb e=>kk b o (by simpa using hb) e) f0 f1 f3 f4 f5;exact⟨_,rfl,Xd (s:={s with heap:=h',toks:=tk}) (n:="range_iterator") st' rfl rfl 'g' ⟨.int (lo+(i:Nat)*(-1:Int)),H,I1,⟨t,rfl⟩,⟨rfl,rfl⟩,st',λb hb=>(hf b hb).1⟩⟩
 done:=by
  intro X hP hw hK hF hc i Ad s U H E I hf st hg;subst hP hw hK;obtain⟨f0,f1,f2,f3,f4,f5⟩:=hf it 'f';exact QI (I.ok.hd hc) st (by have:n<=i:=hg;ext) λh' eb=>⟨rfl,I.turned (t':=s.toks) (λb o hb e=>eb b o hb e) f0 f1 f3 f4 f5⟩
 self:=λ_ _ _ _ _ st h=>QK st h
noncomputable def Qv (lo hi:Int):Nat:=(if hi<lo then lo-hi else 0).toNat
def vn (lo hi:Int):((Qv lo hi:Nat):Int)<=(if hi<lo then lo-hi else 0):=by
 unfold Qv;split<;>ext
def zD {lo hi:Int}:((Qv lo hi:Nat):Int)=EE lo hi (-1):=by
 unfold Qv EE;rw[if_neg (by decide:¬(-1:Int) > 0),show -(-1:Int)=1 from rfl,Ym];by_cases h:hi<lo
 .rw[if_pos h,if_pos h];ext
 .rw[if_neg h,if_neg h];rfl
def ZL (ta:TA):TI:=λU H R=>ta U H λvs H1=>∃i j,vs=[.int i,.int j,.int (-1)]/\(-(2^61)<=i/\i<2^61/\-(2^61)<=j/\j<2^61)/\R (Wp i (Qv i j)) H1
def ZlB (hg:Gl X "range")(hm:X.mg "range" = none)(ha:PA X [a,b,d] ta)(hs:autoParam (Ap [a,b,d] X.env=[(false,eval a X.env),(false,eval b X.env),(false,eval d X.env)]) BV)(hs2:autoParam (Ap [b,d] X.env=[(false,eval b X.env),(false,eval d X.env)]) BV) :
  PI X tg (.Call (.Name "range" p) [a,b,d] [] pos) (ZL ta):=by
 intro Ad s U H R I h;refine Call_ (P4 I hg hm boot_range (BG (Dp (ha pos Ad s U H _ I h) λus s1 e=>e.el λvs H1 I1 r1 q1=>?_) (by rw[hs,hs2]) (by rw[hs2];rfl)));refine Am λkk'=>?_;obtain⟨i,j,e,⟨q1,q2,q3,q4⟩,q⟩:=q1;refine kk' ?_;clear kk';subst e;cases r1 with
 |cons r rr=>
  cases rr with
  |cons r' rr=>
   cases rr with
   |cons r'' rr=>
    cases rr;obtain⟨t,rfl⟩:=r;obtain⟨t',rfl⟩:=r';obtain⟨t'',rfl⟩:=r'';refine call_range_3 (by ext) ?_ (.inl ?_)
    .have hsm:Lc i j (-1)=true:=by
      unfold Lc;rw[<- zD,if_neg 'g'];simp only[Br,IW];have:=vn i j;exact⟨⟨⟨⟨bG (by ext) (by ext),bG (by ext) (by ext)⟩,bG (by ext) (by ext)⟩,bG (by ext) (by ext)⟩,.inr (bG (by ext) (by ext))⟩
     refine UR (T0 ..) hsm ?_;have I2:AX X Ad U H1 {s1 with heap:=s1.heap.push {cls:=.type "range",data:=.fields #[.int i t,.int j t',.int (-1) t'']} }:=I1.kept λb o e=>Ag _ e
     refine ⟨(s1.heap.push { cls:=.type "range",data:=.fields #[.int i t,.int j t',.int (-1) t''] }).objs.size,[(s1.heap.push { cls:=.type "range",data:=.fields #[.int i t,.int j t',.int (-1) t''] }).objs.size],_,_,H1,rfl,
      I2.kept λb o e=>Ag _ e,Zin _ i (Qv i j),?_,λb hb=>?_,q⟩
     .have e1:i+((0:Nat):Int)*(-1:Int)=i:=by simp
      have e2:((Qv i j:Nat):Int)-((0:Nat):Int)=EE i j (-1):=by rw[zD];ext
      show MU _ _ (i+((0:Nat):Int)*(-1:Int)) (((Qv i j:Nat):Int)-((0:Nat):Int)) (-1);rw[e1,e2];exact AC _ rfl
     .have e:b=(s1.heap.push {cls:=.type "range",data:=.fields #[.int i t,.int j t',.int (-1) t'']}).objs.size:=by simpa using hb
      subst e;exact I2.fpOk (AL _) (I2.hok.fresh (AL _))
    .exact PyProof.noPylong_of_log2 'g'
end L2
namespace L3
open PySem PySem.Spec PyProof.Rows L2
unseal B3 Ij JQ Gd KN Gc Dg Cq Gb BW F0 Gz Ll HP EX
noncomputable def Nh (lo:Int)(n:Nat):List D:=(Bx n).map λk=>.int (lo+(k:Nat)*(-1:Int))
def zz {lo:Int}(h:(Nh lo n)[i]? = some d):i<n/\d=.int (lo+(i:Nat)*(-1:Int)):=by
 unfold Nh at h;rw[AI]at h;by_cases hi:i<n
 .rw[ET hi]at h;exact⟨hi,(AZ h).symm⟩
 .rw[BA (by simp;ext)]at h;cases h
def z5 (lo)(n):(Nh lo n).length=n:=by unfold Nh;rw[Ab,Ch]
def Zky {K:Ac}(lo:Int)(n:Nat):bT K (Wp lo n) (Nh lo n) (λ_=>True) Z:=λi H M Z' l hr s=>by
 refine⟨λd hd=>?_,λhi=>by rw[z5]at hi;exact hi⟩;obtain⟨hi,rfl⟩:=zz hd;refine⟨hi,λx H' y=>?_⟩;obtain⟨rfl,rfl⟩:=y;exact⟨Z',Le.refl _,hr,rfl⟩
def T3 (t:Ka):NP:=λτ M R=>t τ M λxs M1=>Js xs λx y z=>Fb x λi=>Fb y λj=>z=.int (-1)/\(-(2^61)<=i/\i<2^61/\-(2^61)<=j/\j<2^61)/\R (Nh i (Qv i j)) (λ_=>True) M1
def Zlx (hm:X.mg "range" = none)(ha:Gd X [a,b,d] ta)(hg:autoParam (Gl X "range") BV)(hs:autoParam (Ap [a,b,d] X.env=[(false,eval a X.env),(false,eval b X.env),(false,eval d X.env)]) BV)(hs2:autoParam (Ap [b,d] X.env=[(false,eval b X.env),(false,eval d X.env)]) BV) :
  HP X tg (.Call (.Name "range" p) [a,b,d] [] pos) (T3 ta):=PI.mono (ZlB hg hm ha hs hs2) (by
 intro U H R;ext1⟨Z,τ,M,R2,st,hr,h,k⟩;refine ⟨Z,τ,M,_,st,hr,h,λZ1 vs ds H1 M1 l1 h1 a1 q1=>?_⟩;obtain ⟨x,y,z,rfl,q⟩:=Tb q1;obtain ⟨i,rfl,q2⟩:=C3 q;obtain ⟨j,rfl,rfl,b,q4⟩:=C3 q2;obtain⟨v,w,u,e1',a2,a3,a4⟩:_:=mP a1;cases (show v=V.int i from a2);cases (show w=V.int j from a3);cases (show u=V.int (-1) from a4);exact ⟨i,j,rfl,b,k Z1 _ _ _ H1 M1 l1 h1 (Zky _ _) q4⟩)
theorem xg :T3 tA τ M R=tA τ M λxs M1=>Js xs λx y z=>Fb x λi=>Fb y λj=>z=.int (-1)/\(-(2^61)<=i/\i<2^61/\-(2^61)<=j/\j<2^61)/\R (Nh i (Qv i j)) (λ_=>True) M1:=rfl
end L3
end Internal
namespace PySem
namespace SetTable
noncomputable def mE (m i:Nat):Nat:=(i*5+1)%m
noncomputable def Ms (m:Nat):Nat->Nat->Nat
 |0,i=>i
 |k+1,i=>Ms m k (mE m i)
theorem gN :∀a b i,Ms m (a+b) i=Ms m b (Ms m a i)
 |0,b,i=>by rw[ES];rfl
 |a+1,b,i=>by rw[Q0];exact gN a b (mE m i)
def Mk (m:Nat):Prop:=m=8\/m=32\/m=128\/m=512
def Mw (m:Nat):Prop:=Mk m\/m=16
noncomputable def lY (m:Nat):Nat->Nat->List Nat
 |0,_=>[]
 |k+1,i=>i::lY m k (mE m i)
theorem pT :∀{k i j:Nat},j∈lY m k i->∃r,r<k/\Ms m r i=j
 |k+1,i,j,h=>by
  rcases AR.mp h with rfl|h
  .exact⟨0,NV _,rfl⟩
  .obtain⟨r,h1,h2⟩:=pT h;exact⟨r+1,HG h1,h2⟩
def xo (h:Mw m):((Bx m).all λj=>(lY m m 0).contains j)=true/\Ms m m 0=0:=by
 rcases h with(rfl|rfl|rfl|rfl)|rfl<;>nofun
def u9 (h:Mw m)(hi:i<m)(hj:j<m):∃r,r<m/\Ms m r i=j:=by
 obtain⟨h1,h2⟩:=xo h;rw[Ca]at h1;obtain⟨a,a1,a2⟩:=pT (Oc.mp (h1 i (CG.mpr hi)));obtain⟨b,b1,b2⟩:=pT (Oc.mp (h1 j (CG.mpr hj)));rcases Nat.le_total a b with c|c
 .refine⟨b-a,by ext,?_⟩;rw[<- a2,<- gN,show a+(b-a)=b by ext,b2]
 .refine⟨(m-a+b)%m,QU _ (by ext),?_⟩;by_cases e:a=b
  .subst e;rw[show m-a+a=m by ext,Nat.mod_self,<- a2,b2];rfl
  .rw[Nat.mod_eq_of_lt (by ext),gN];have:Ms m (m-a) i=0:=by rw[<- a2,<- gN,show a+(m-a)=m by ext,h2]
   rw[this,b2]
noncomputable def Ga (mask:Nat):Nat->Nat×Nat->Nat×Nat
 |0,p=>p
 |k+1,p=>Ga mask k (leap mask p.1 p.2)
theorem bw {mask:Nat}:∀a b p,Ga mask (a+b) p=Ga mask b (Ga mask a p)
 |0,b,p=>by rw[ES];rfl
 |a+1,b,p=>by rw[Q0];exact bw a b _
theorem c7 {mask:Nat}:∀k p,(Ga mask k p).2=p.2 / 32^k
 |0,p=>by rw[Nat.pow_zero,dA];rfl
 |k+1,p=>by
  show(Ga mask k (leap mask p.1 p.2)).2=_;rw[c7 k,Nat.pow_succ',<- Nat.div_div_eq_div_mul];rfl
theorem bz (hm:0<m):∀k i,(Ga (m-1) k (i,0))=(Ms m k i,0)
 |0,i=>rfl
 |k+1,i=>by
  show Ga (m-1) k ((i*5+1+0 / 32)%(m-1+1),0 / 32)=_;rw[show m-1+1=m by ext,Nat.zero_div,bz hm k];rfl
theorem zW {mask:Nat}:∀k p,p.1<=mask->(Ga mask k p).1<=mask
 |0,p,h=>h
 |k+1,p,h=>zW k _ (Nat.le_of_lt_succ (QU _ (NV _)))
def Zm7 {m:Nat}(h:Mw m){i pert j:Nat}(hp:pert<2^64)(hi:i<m)(hj:j<m):∃k,k<m+13/\(Ga (m-1) k (i,pert)).1=j:=by
 have e:(Ga (m-1) 13 (i,pert)).2=0:=by
  rw[c7];exact Nat.div_eq_of_lt (Bj hp 'g')
 have l:=zW (mask:=m-1) 13 (i,pert) (by show i<=_;ext);obtain⟨r,r1,r2⟩:=u9 h (i:=(Ga (m-1) 13 (i,pert)).1) (by ext) hj;refine⟨13+r,by ext,?_⟩;rw[bw,show Ga (m-1) 13 (i,pert)=((Ga (m-1) 13 (i,pert)).1,0)from TY rfl e,bz (by ext),r2]
theorem zC :∀{l:List (Option α)}{j:Nat},l[j]? = some none->((l.set j (some k)).filterMap id).length=(l.filterMap id).length+1
 |x::l,0,h=>by
  cases h;rfl
 |x::l,j+1,h=>by
  rw[Ba,Bq,Bq];have ih:=zC (k:=k) (l:=l) (j:=j) h;cases x with
  |none=>exact ih
  |some y=>exact congrArg (·+1) ih
theorem zB :∀{l:List (Option α)}{j:Nat},l[j]? = some none->((l.set j (some k)).filterMap id).Perm (k::l.filterMap id)
 |x::l,0,h=>by
  cases h;exact Eg _
 |x::l,j+1,h=>by
  rw[Ba,Bq,Bq];have ih:=zB (k:=k) (l:=l) (j:=j) h;cases x with
  |none=>exact ih
  |some y=>exact(ih.cons y).trans (PC k y _)
theorem bj :∀{l:List (Option α)},(l.filterMap id).length<l.length->∃j:Nat,l[j]? = some none
 |[],h=>absurd h (TZ _)
 |none::l,_=>⟨0,rfl⟩
 |some x::l,h=>by
  obtain⟨j,hj⟩:=bj (Dw h);exact⟨j+1,hj⟩
theorem bc {mask:Nat}(h0:(owner.getD j0 (some 0)).isNone=true):∀fuel r i pert,r<fuel->(Ga mask r (i,pert)).1=j0->∃j,layClean.free mask owner fuel i pert=some j/\(owner.getD j (some 0)).isNone=true
 |0,r,_,_,h,_=>absurd h (TZ _)
 |fuel+1,r,i,pert,h,e=>by
  unfold layClean.free;split
  .next k hk=>exact⟨i+k,rfl,by have:=List.find?_some hk;exact this⟩
  .next hn=>
   cases r with
   |zero=>exfalso;have:=e;subst this;have:=Fa.mp hn 0 (CG.mpr (by unfold runEnd;split<;>ext));exact this h0
   |succ r=>exact bc h0 fuel r _ _ (Dw h) e
structure TF (mask:Nat)(owner:Array (Option Nat))(k:Nat):Prop where
 s:owner.size=mask+1
 n:(owner.toList.filterMap id).length=k
 v:∀v,some v∈owner.toList->v<k
 p:(owner.toList.filterMap id).Perm (Bx k)
def getD_none {owner:Array (Option Nat)}(h:(owner.getD j (some 0)).isNone=true):owner.toList[j]? = some none:=by
 rw[Dd];rw[F7]at h;cases q:owner[j]? with
 |none=>rw[q]at h;cases h
 |some x=>
  rw[q]at h;cases x with
  |none=>rfl
  |some y=>cases h
theorem zV {mask:Nat}(hm:Mw (mask+1)):∀(hs:List Int) (owner:Array (Option Nat)) (k:Nat),TF mask owner k->k+hs.length<=mask->∃owner',(hs.foldl (λacc h=>acc >>= λx:Array (Option Nat)×Nat=>layClean.free mask x.1 (turns mask) (bits h%(mask+1)) (bits h) >>= λj=>pure (x.1.setIfInBounds j (some x.2),x.2+1)) (some (owner,k)))=some (owner',k+hs.length)/\TF mask owner' (k+hs.length)
 |[],owner,k,ok,_=>⟨owner,rfl,ok⟩
 |h::hs,owner,k,ok,hl=>by
  rw[AO]at hl;obtain⟨j0,hj0⟩:=bj (by rw[ok.n,BI,ok.s];ext);have jl:=(Ah.mp hj0).1;rw[BI,ok.s]at jl;have hb:bits h<2^64:=by unfold bits;ext
  obtain⟨r,r1,r2⟩:=Zm7 hm hb (QU _ (NV _)) jl
  have g0:(owner.getD j0 (some 0)).isNone=true:=by
   rw[Dd]at hj0;rw[F7,hj0];rfl
  obtain⟨j,e1,e2⟩:=bc (mask:=mask) g0 (turns mask) r _ _ (by unfold turns;ext) r2;have ej:=getD_none e2
  have ok':TF mask (owner.setIfInBounds j (some k)) (k+1):=by
   refine⟨by rw[Array.size_setIfInBounds];exact ok.s,?_,λv hv=>?_,?_⟩
   .rw[Gu,zC ej,ok.n]
   .rw[Gu]at hv;rcases List.mem_or_eq_of_mem_set hv with hv|hv
    .exact EB (ok.v v hv)
    .cases hv;exact FI _
   .rw[Gu,SK];exact(zB ej).trans ((ok.p.cons k).trans (List.perm_append_singleton _ _).symm)
  obtain⟨ow,f1,f2⟩:=zV hm hs _ (k+1) ok' (by ext);refine⟨ow,?_,by rw[AO,show k+(hs.length+1)=k+1+hs.length by ext];exact f2⟩;rw[DY,AO,show k+(hs.length+1)=k+1+hs.length by ext,<- f1];congr 1
  show(layClean.free mask owner (turns mask) (bits h%(mask+1)) (bits h) >>= λj=>pure (owner.setIfInBounds j (some k),k+1))=_;rw[e1];rfl
def laid_ok2 {mask finger moves:Nat}{led plain:Bool}(hm:Mw (mask+1))(hl:hs.size<=mask):∃(t:Dx) (order:Array Nat),laid mask finger moves led plain hs=some (t,order)/\t.mask=mask/\t.place.size=hs.size/\t.dummies=#[]/\t.led=led/\t.plain=plain/\order.toList.Perm (Bx hs.size):=by
 have o0:TF mask (Array.replicate (mask+1) none) 0:=by
  refine⟨Array.size_replicate,?_,λv hv=>?_,?_⟩
  .rw[HJ];simp
  .rw[HJ]at hv;cases(E3 hv)
  .rw[HJ];simp
 obtain⟨ow,f1,f2⟩:=zV hm hs.toList _ 0 o0 (by rw[ES,BI];exact hl);rw[ES,BI]at f1 f2
 have lc:layClean mask hs=some ow:=by
  unfold layClean;rw[<- Array.foldl_toList];refine(congrArg (Hz Prod.fst) f1).trans rfl
 unfold laid;rw[lc]
 have e1:((Bx (mask+1)).filterMap λj=>(ow.getD j none).map λx=>(j,x)).map (·.2)=ow.toList.filterMap id:=by
  rw[Qq]
  have:ow.toList=(Bx (mask+1)).map λj=>ow.getD j none:=by
   apply FM;intro j;rw[Dd,AI];rcases Hn j (mask+1)with h|h
   .rw[ET h,AY (by rw[f2.s];exact h)];show _=some (ow.getD j none);rw[F7,AY (by rw[f2.s];exact h)];rfl
   .rw[BA (by rw[Ch];exact h),D1 (by rw[f2.s];exact h)];rfl
  rw[this,JO];congr 1
  funext j;show Hz _ (Hz _ (ow.getD j none))=ow.getD j none;cases ow.getD j none<;>rfl
 have e2:((Bx (mask+1)).filterMap λj=>(ow.getD j none).map λx=>(j,x)).length=hs.size:=by
  have:=congrArg DC e1;rw[Ab,f2.n]at this;exact this
 refine⟨_,_,rfl,rfl,?_,rfl,rfl,rfl,?_⟩
 .show((((Bx (mask+1)).filterMap λj=>(ow.getD j none).map λx=>(j,x)).map (·.1)).toArray).size=_;rw[AW,Ab,e2]
 .show(((Bx (mask+1)).filterMap λj=>(ow.getD j none).map λx=>(j,x)).map (·.2)).Perm _;rw[e1];exact f2.p
end SetTable
end PySem
namespace Internal
namespace L2
open PySem PySem.Spec PyProof.Rows L3
def ZgB:Lw Wz "set.__and__" = some Es.«frozenset.__and__»:=JV (id':="frozenset.__and__") (by kernel_rfl) rfl 'k' (by kernel_rfl)
def ZgA:Lw Wz "set.__xor__" = some Es.«frozenset.__xor__»:=JV (id':="frozenset.__xor__") (by kernel_rfl) rfl 'k' (by kernel_rfl)
def cu (xs:Array α)(i:Nat)(h:i<xs.size):(DG xs i).size=xs.size-1:=by
 unfold DG;rw[MK,IS,IS];ext
def cr (xs:Array α)(i:Nat):(DG xs i).toList=xs.toList.eraseIdx i:=by
 unfold DG;rw[O9,Oj,Oj,List.eraseIdx_eq_take_drop_succ];simp;exact BR 'f'
def Zj7 (xs:Array α)(p:Nat)(x:α):(Jp xs p x).size=xs.size+1:=by
 unfold Jp;rw[MK,Array.size_push,IS,IS];ext
section
variable {prog:Bs}{w:BK}{A:CH}{E:Ai->As->Prop}{s:As}{a:Av}
def zS (ho:s.heap.get? a=some o)(hd:o.data=IM es ep t)(hes:Jm w es.toList)(hsz:es.size<Bh)(hfit:t.fits es.size=true)
  (h:Q (es.toList.findIdx? λe=>(BC prog w).is x e.2) s):Au 'm' A (QQ a (.str x tk) (FL w x)) Q E s:=by
 unfold QQ;generalize hN:(99999:Nat)=N;rw[show(100000:Nat)=99999+1 from rfl,hN];unfold setFindIn;refine Aa (A5 ho hd hfit ?_);dsimp only;rw[if_pos (byScan_of (knd:=BC prog w) (x:=.str x tk) rfl hsz hes.elems)];refine Aa (Hi ?_);refine Aa (XR (knd:=BC prog w) (k:=x) (by simp[BC,Ec]) ho hd hfit hes.elems ?_);cases hr:es.toList.findIdx? λe=>(BC prog w).is x e.2 with
 |none=>rw[hr]at h;exact Ae h
 |some j=>rw[hr]at h;refine Ae ?_;rw[ES];exact h
def Zik (hS:CZ w s.heap a ks led)(h:∀r,r.isSome=decide (x∈ks)->Q r s):Au 'm' A (QQ a (.str x tk) (FL w x)) Q E s:=by
 obtain⟨o,es,ep,tb,ho,hex,hd,hes,hp,hsz,hfit,hled,hpl⟩:_:=hS;refine zS ho hd hes hsz hfit (h _ ?_);by_cases hx:x∈ks
 .obtain⟨j,hj⟩:=qK hes (hp.mem_iff.mpr hx);rw[hj,decide_eq_true hx];rfl
 .rw[qJ hes (λh=>hx (hp.mem_iff.mp h)),decide_eq_false hx];rfl
def Zil (hS:CZ w s.heap a ks led)
  (hQ:∀h',BM a s.heap h'->CZ w h' a (ks.erase x) led->Q (decide (x∈ks)) {s with heap:=h' }):Au 'm' A (L7 a (.str x tk) (FL w x)) Q E s:=by
 obtain⟨o,es,ep,tb,ho,hex,hd,hes,hp,hsz,hfit,hled,hpl⟩:_:=id hS;unfold L7;refine Aa (zS ho hd hes hsz hfit ?_);by_cases hx:x∈ks
 .obtain⟨j,hj⟩:=qK hes (hp.mem_iff.mpr hx);rw[hj];dsimp only;refine Aa (A5 ho hd hfit ?_);dsimp only;obtain⟨hl,hm,-⟩:=List.findIdx?_eq_some_iff_getElem.mp hj;have hl':j<es.size:=by simpa using hl
  have hxj:strOf (es.toList[j]).2=x:=by
   obtain⟨y,t,e⟩:=hes _ (Go hl);rw[e]at hm ⊢;have:y=x:=by simpa[BC,Ec]using hm
   exact this
  have hpe:(x::Hb (DG es j).toList).Perm ks:=by
   have z:=((K0 es.toList j hl).map λe:Int×Ai=>strOf e.2).trans hp;rw[AU,hxj]at z;rw[cr];exact z
  have hok:Jm w (DG es j).toList:=λe he=>by
   rw[cr]at he;exact hes e (List.mem_of_mem_eraseIdx he)
  have hf:tb.place.size=es.size/\tb.fill<=tb.mask:=by
   unfold EK at hfit;simpa using hfit
  have hpj:tb.place[j]? = some (tb.place[j]'(by ext)):=AY _
  have hdr:tb.drop j={tb with place:=DG tb.place j,dummies:=Jp tb.dummies (Dc tb.dummies (tb.place[j]'(by ext))) (tb.place[j]'(by ext))}:=by
   unfold SetTable.drop;rw[hpj]
  have hsz2:=cu es j hl';obtain⟨o1,ho1,hex1,hd1⟩:=stored ho hex hd;have hline:Bh<=An:=by decide
  refine Aa (DO ho hd ?_ (by ext));refine Aa (wpAny_point (Ae ?_));have z:=hQ _ (Be _ _ _) ⟨o1,_,_,_,ho1,hex1,hd1,hok,(List.cons_perm_iff_perm_erase.mp hpe).2,by ext,?_,?_,λ_=>?_⟩
  .rw[decide_eq_true hx]at z;exact z
  .rw[hdr];unfold EK Iz;dsimp only;rw[cu _ _ (by ext),Zj7,hsz2];have:=hf.2;unfold Iz at this;simp only[Br,beq_iff_eq,decide_eq_true_eq];ext
  .rw[hdr];exact hled
  .rw[hdr];exact hpl (by ext)
 .rw[qJ hes (λh=>hx (hp.mem_iff.mp h))];refine Ae ?_;have z:=hQ s.heap (CO _ _) (by rw[Ob hx];exact hS);rw[decide_eq_false hx]at z;exact z
def CZ.typeIs (hS:CZ w s.heap a ks led):s.TypeIs (.ref a) "set":=by
 obtain⟨o,es,ep,t,ho,hex,-⟩:_:=hS;exact⟨o,ho,hex.1⟩
def CZ.keep (hS:CZ w h a ks led)(hk:∀o,h.get? a=some o->h'.get? a=some o):CZ w h' a ks led:=by
 obtain⟨o,es,ep,t,ho,C2⟩:=hS;exact⟨o,es,ep,t,hk _ ho,C2⟩
theorem RE {M:Model}{α:Type}{f:α->PUnit->Sem (ForInStep PUnit)}{I:List α->As->Prop}(D:List α)(hf:∀d x l s (Q':ForInStep PUnit->As->Prop),D=d++x::l->I d s->(∀s',I (d++[x]) s'->Q' (.yield ⟨⟩) s')->Au M A (f x ⟨⟩) Q' E s) :
  ∀l d s Q,D=d++l->I d s->(∀s',I D s'->Q ⟨⟩ s')->Au M A (forIn l Gq f) Q E s
 |[],d,s,Q,e,h,hQ=>by
  rw[Qc];rw[Cc]at e;subst e;exact Ae (hQ s h)
 |x::l,d,s,Q,e,h,hQ=>by
  rw[Ho];refine Aa (hf d x l s _ e h λs' h'=>?_);exact RE D hf l (d++[x]) s' Q (by rw[e,Bv];rfl) h' hQ
def Vs {es:List (Int×Ai)}(hes:Jm w es){Q:Option Bool×Unit->As->Prop}(h:Q (none,()) s){f:Int×Ai->Option Bool×Unit->Sem (ForInStep (Option Bool×Unit))}(hf:∀k x t r,f (k,.str x t) r=pure (.yield (none,()))):Au 'm' A (forIn es (none,()) f) Q E s:=by
 induction es with
 |nil=>rw[Qc];exact Ae h
 |cons e es ih=>obtain⟨x,t,rfl⟩:=hes e (Aw ..);rw[Ho,hf];exact Aa (Ae (ih λe he=>hes e (Ay _ he)))
def ZgJ {Q:Bool->As->Prop}(sets)(hq:∀b∈sets,∃ks led,CZ w s.heap b ks led)(h:Q true s):Au 'm' A (setsQuiet sets) Q E s:=by
 unfold setsQuiet;refine Aa ?_
 have key:∀sets:List Av,(∀b∈sets,∃ks led,CZ w s.heap b ks led)->∀(Q:Option Bool×Unit->As->Prop) (f:Av->Option Bool×Unit->Sem (ForInStep (Option Bool×Unit))),(∀b r Q',(∃ks led,CZ w s.heap b ks led)->Q' (.yield (none,())) s->Au 'm' A (f b r) Q' E s)->Q (none,()) s->Au 'm' A (forIn sets (none,()) f) Q E s:=by
  intro sets;induction sets with
  |nil=>intro _ Q f _ h;rw[Qc];exact Ae h
  |cons b sets ih=>intro hq Q f hf h;rw[Ho];exact Aa (hf b _ _ (hq b (Aw ..)) (ih (λc hc=>hq c (Ay _ hc)) Q f hf h))
 refine key sets hq _ _ (λb r Q' ⟨ks,led,hS⟩ h'=>?_) (Ae h);obtain⟨o,es,ep,t,ho,hex,hd,hes,hp,hsz,hfit,hled,hpl⟩:_:=hS;refine Aa (wpAny_setEntries_of ho hd hfit ?_);refine Aa ?_;rw[<- Lv];exact Vs hes (Ae h') λ_ _ _ _=>rfl
def rC (h:Q (w.params.followText "set-order") s):Au 'm' A IT Q E s:=by
 unfold IT;exact Aa (Dq (Ae h))
def f8 (hS:CZ w s.heap a ks 'c')(hf:CZ w s.heap f kf 'c')
  (hq:∀b∈others,∃ks led,CZ w s.heap b ks led)
  (hQ:∀(es:Array (Int×Ai)) (h':CN),Jm w es.toList->(Hb es.toList).Perm ks->BM f s.heap h'->CZ w h' f kf 'c'->Q es {s with heap:=h' }) :
  Au 'm' A (Po a others (some f)) Q E s:=by
 obtain⟨o,es,ep,t,ho,hex,hd,hes,hp,hsz,hfit,hled,hpl⟩:_:=id hS;unfold Po;refine Aa (A5 ho hd hfit ?_);dsimp only;refine Aa (rC ?_);have plain_ok:=hQ es s.heap hes hp (CO _ _) hf;split
 .next c=>
  unfold setWalk;refine Aa (A5 ho hd hfit ?_);dsimp only;refine Aa (rC ?_);split
  .refine Aa (Dq (Ae ?_));have pp:=i3 (w.params.setOrder a ep) es;exact hQ _ s.heap (λe he=>hes e (pp.mem_iff.mp he)) ((pp.map _).trans hp) (CO _ _) hf
  .next ft=>
   have ft:w.params.followText "set-order" = false:=by simpa using ft
   rw[ft]at c hled;have hl:=hled
   have h1:es.size<=1:=by
    rcases Hn 1 es.size with h|h
    .have hq:=hpl (by ext);rw[hq]at c;simp at c;exact c
    .exact h
   split
   .next hc=>
    have h':(!t.plain && decide (es.size > 1))=true:=hc;simp at h';ext
   .refine Aa ?_;show Au _ A (if (!t.led && decide (es.size > 1))=true then unsupported "set:maker-not-led" else pure ()) _ E s;rw[if_neg (by rw[hl];simp)];exact Ae (Ae plain_ok)
 .refine Aa (ZgJ (a::others) (λb hb=>?_) ?_)
  .rcases AR.mp hb with rfl|hb
   .exact⟨_,_,hS⟩
   .exact hq b hb
  .rw[if_neg 'f'];refine Aa (Hi ?_);obtain⟨o2,es2,ep2,t2,ho2,hex2,hd2,hes2,hp2,hsz2,hfit2,hled2,hpl2⟩:_:=id hf;refine Aa (A5 ho2 hd2 hfit2 ?_);dsimp only;split
   .have hline:Bh<=An:=by decide
    obtain⟨o1,ho1,hex1,hd1⟩:=stored ho2 hex2 hd2;refine Aa (DO ho2 hd2 (Ae (hQ es _ hes hp (Be _ _ _) ⟨o1,_,_,_,ho1,hex1,hd1,hes2,hp2,hsz2,?_,?_,λh=>?_⟩)) (by ext))
    .exact hfit2
    .show(t2.led && t.led)=_;rw[hled2,hled,JC]
    .show(t2.plain && t.plain)=false;rw[hpl2 h,DU]
   .exact Ae plain_ok
def V9 (hT:s.TypeIs (.ref b) "set")(h:Q true s):Au 'm' A (ID (.ref b)) Q E s:=by
 unfold ID orM;exact Aa (Ir hT Lp (Ae h))
def ij (hT:s.TypeIs (.ref b) "set")(h:Q (.type "set") s):Au 'm' A (Ja b) Q E s:=by
 unfold Ja;exact Aa (Ir hT Lp (Ae h))
noncomputable def FA (w:BK):Obj:={cls:=.type "set",dict:=none,data:=.set #[] 0 (.fresh 0 0 'c')}
def ig (h:Q (.ref s.heap.objs.size) {s with heap:=s.heap.push (FA w)}):Au 'm' A (newSet (.type "set")) Q E s:=by
 unfold newSet;refine Aa (rC ?_);dsimp only;simp only[newObj];exact Aa (wpAny_alloc (Ae h))
theorem fN:∀(l ks:List Str),ks.Nodup->(l.foldl (λks x=>if x∈ks then ks else ks++[x]) ks).Nodup/\∀x,x∈l.foldl (λks x=>if x∈ks then ks else ks++[x]) ks↔x∈ks\/x∈l
 |[],ks,h=>⟨h,λx=>⟨.inl,λz=>z.elim id λz=>absurd z (AT)⟩⟩
 |y::l,ks,h=>by
  rw[DY];split
  .next c=>
   obtain⟨i1,i2⟩:=fN l ks h;refine⟨i1,λx=>(i2 x).trans ?_⟩;rw[BD];exact⟨λz=>z.elim .inl λz=>.inr (.inr z),λz=>z.elim .inl λz=>z.elim (λe=>.inl (e ▸ c)) .inr⟩
  .next c=>
   obtain⟨i1,i2⟩:=fN l (ks++[y]) (Ci.mpr ⟨h,by simp,λa ha b hb=>by rw[AD.mp hb];exact λe=>c (e ▸ ha)⟩);refine⟨i1,λx=>(i2 x).trans ?_⟩;rw[Dv,Fj,BD,or_assoc]
def VX (l:List Str)(x:Str):x∈fm l↔x∈l:=by
 have:=(fN l [] Iw).2 x;unfold fm;rw[this];exact⟨λz=>z.elim (λz=>absurd z AT) id,.inr⟩
def ZX (l:List Str):(fm l).Nodup:=(fN l [] Iw).1
def ii {id:String}(ho:s.heap.get? a=some o)(hd:o.data=.set es ep t)(hf:t.fits es.size=true)(h:Q () s):Au 'm' A (BQ id a ep) Q E s:=by
 unfold BQ;refine Aa (XI ho hd hf ?_);rw[if_neg 'f'];exact Ae h
def Zm0 {id:String}(har:a≠r)(hgr:g≠r)(ho:s.heap.get? a=some o)(hd:o.data=.set es0 ep t)(hfit:t.fits es0.size=true)(hes:Jm w es)(hl:es.length+1<Bh)(hg:CZ w s.heap g kg 'c')(hr:CZ w s.heap r [] 'c')
  (hQ:∀h',BM r s.heap h'->CZ w h' r (fm ((Hb es).filter (·∈kg))) 'c'->Q ⟨⟩ {s with heap:=h' }) :
  Au 'm' A (forIn es Gq λx __s=>match x with
   |(h,x)=>do
    G6 [x] do
     let __do_lift <- QQ g x h
     if __do_lift.isSome=true then do
      let _ <- IU r x h
      pure ()
     else pure ()
    BQ id a ep
    pure (Dj Gq)) Q E s:=by
 refine RE (I:=λd s'=>∃h',BM r s.heap h'/\CZ w h' r (fm ((Hb d).filter (·∈kg))) 'c'/\s'={s with heap:=h' }) es ?_ es [] s Q rfl ⟨s.heap,CO _ _,hr,rfl⟩ ?_
 .rintro d ⟨k,v⟩ l s1 Q' hx ⟨h1,sb,hS,rfl⟩ hQ';obtain⟨x,tk,e⟩:=hes _ (by rw[hx];exact AS _ (Aw ..));cases e;have hdl:d.length<es.length:=by rw[hx,Aq,AO];ext
  have ek:Hb (d++[(FL w x,Ds x tk)])=Hb d++[x]:=by unfold Hb;rw[AJ];rfl
  have ua:∀{h2:CN} {Q'':Unit->As->Prop},BM r s.heap h2->Q'' () {s with heap:=h2}->Au 'm' A (BQ id a ep) Q'' E {s with heap:=h2}:=λ{h2} _ sb2 q=>ii ((sb2.2 a har).trans ho) hd hfit q;refine Aa (B4 (Aa (Zik (hg.keep λo e=>(sb.2 g hgr).trans e) λb hb=>?_)));split
  .next c=>
   have hxg:=of_decide_eq_true (hb.symm.trans c);refine Aa (qZ hS ?_ λ_ h2 sb2 hS2=>Ae ?_)
   .have z1:=VY ((Hb d).filter (·∈kg));have z2:=CF (λx=>decide (x∈kg)) (Hb d);have z3:(Hb d).length=d.length:=by unfold Hb;rw[Ab]
    ext
   .refine Aa (ua (sb.trans sb2) (Ae (hQ' _ ⟨h2,sb.trans sb2,?_,rfl⟩)));rw[ek,C5,List.filter_cons_of_pos (by simpa using hxg),KO,xG];exact hS2
  .next c=>
   have hxg:¬x∈kg:=λh=>c (hb.trans (decide_eq_true h));refine Ae (Aa (ua sb (Ae (hQ' _ ⟨h1,sb,?_,rfl⟩))));rw[ek,C5,List.filter_cons_of_neg (by simpa using hxg),KO,Cc];exact hS
 .rintro s1 ⟨h1,sb,hS,rfl⟩;exact hQ h1 sb hS
def y0 {b:Av}{ks ls:List Str}{Q:Ai->As->Prop}(hab:b≠a)(ha:CZ w s.heap a ks 'c')(hb:CZ w s.heap b ls 'c')(hz:ks.length+1<Bh)(hy:ls.length+1<Bh)
  (hQ:∀h' ms,(∀c o,s.heap.get? c=some o->h'.get? c=some o)->CZ w h' s.heap.objs.size ms 'c'->ms.Nodup->(∀x,x∈ms↔x∈ks/\x∈ls)->ms.length<=ks.length+ls.length->Q (.ref s.heap.objs.size) {s with heap:=h' }) :
  Au 'm' A (Bz .BitAnd (.ref a) (.ref b)) Q E s:=by
 refine TQ ha.typeIs hb.typeIs F.fills_set_and F.slot_set_and (Cg F.slot_set_and ha.typeIs ZgB ?_ (F.args_set_and_2 _ _));refine Aa (Cn rfl ?_);dsimp only;rw[if_neg 'g'];dsimp only;unfold andM;refine Aa (Aa (V9 ha.typeIs ?_));refine V9 hb.typeIs ?_;rw[if_neg 'g'];refine Aa (Cn rfl ?_);refine Aa ?_;unfold SV;rw[if_neg (by simpa using hab)];refine Aa (ij ha.typeIs (Aa (ig ?_)));refine Aa (Cn rfl ?_);have hk0:∀c o,s.heap.get? c=some o->(s.heap.push (FA w)).get? c=some o:=λc o e=>Ag _ e;have ha1:=ha.keep λo e=>hk0 a o e;have hb1:=hb.keep λo e=>hk0 b o e;have hr1:CZ w (s.heap.push (FA w)) s.heap.objs.size [] 'c':=qY (AC _ rfl) rfl;have lta:a<s.heap.objs.size:=by obtain⟨o,es,ep,t,ho,-⟩:=ha;exact Ar ho
 have ltb:b<s.heap.objs.size:=by obtain⟨o,es,ep,t,ho,-⟩:=hb;exact Ar ho
 refine Aa (B4 ?_);refine Aa (V9 hb1.typeIs ?_);rw[if_pos rfl];refine Aa (Cn rfl ?_)
 have go:∀{c d:Av} {kc kd:List Str},c<s.heap.objs.size->d<s.heap.objs.size->kc.length+1<Bh->CZ w (s.heap.push (FA w)) c kc 'c'->CZ w (s.heap.push (FA w)) d kd 'c'->(∀x,x∈kc/\x∈kd↔x∈ks/\x∈ls)->kc.length<=ks.length+ls.length->∀Q2:Unit->As->Prop,(∀h' ms,(∀c o,s.heap.get? c=some o->h'.get? c=some o)->CZ w h' s.heap.objs.size ms 'c'->ms.Nodup->(∀x,x∈ms↔x∈ks/\x∈ls)->ms.length<=ks.length+ls.length->Q2 () {s with heap:=h' }) ->
   Au 'm' A.in1 (do
    let was <- iX c
    let __do_lift <- Po c [d,s.heap.objs.size] (some s.heap.objs.size)
    forIn __do_lift Gq λx __s=>match x with
     |(h,x)=>do
      G6 [x] do
       let __do_lift <- QQ d x h
       if __do_lift.isSome=true then do
        let _ <- IU s.heap.objs.size x h
        pure ()
       else pure ()
      BQ (toString "frozenset."++toString "__and__") c was
      pure (Dj Gq)
    pure ()) Q2 E { s with heap:=s.heap.push (FA w) }:=by
  intro c d kc kd ltc ltd hcl hc hd hm hle Q2 q2;obtain⟨o,es,ep,t,ho,hex,hdd,hes,hp,hsz,hfit,hled,hpl⟩:_:=id hc;refine Aa (XI ho hdd hfit ?_);refine Aa (f8 hc hr1 (λb hb=>?_) λes' h' hes' hp' sb hr2=>?_)
  .simp only[BD,AT,or_false]at hb;rcases hb with rfl|rfl
   .exact⟨_,_,hd⟩
   .exact⟨_,_,hr1⟩
  .have sb:=sb;rw[<- Lv]
   have hel:es'.toList.length=kc.length:=by
    have:=hp'.length_eq;unfold Hb at this;rwa[Ab]at this
   refine Aa (Zm0 (A6 ltc) (A6 ltd) ((sb.2 c (A6 ltc)).trans ho) hdd hfit hes' (by ext) (hd.keep λo e=>(sb.2 d (A6 ltd)).trans e) hr2 λh2 sb2 hS2=>Ae ?_);refine q2 h2 _ (λe o he=>?_) hS2 (ZX _) (λx=>?_) ?_
   .have ne:=A6 (Ar he);exact(sb2.2 e ne).trans ((sb.2 e ne).trans (hk0 e o he))
   .rw[VX,Em,hp'.mem_iff];simp only[decide_eq_true_eq];exact hm x
   .have z1:=VY ((Hb es'.toList).filter (·∈kd));have z2:=CF (λx=>decide (x∈kd)) (Hb es'.toList);have z3:=hp'.length_eq;ext
 obtain⟨o1,es1,ep1,t1,ho1,hex1,hd1,hes1,hp1,hsz1,hfit1,-⟩:_:=id ha1;obtain⟨o2,es2,ep2,t2,ho2,hex2,hd2,hes2,hp2,hsz2,hfit2,-⟩:_:=id hb1;refine Aa (rP ho2 hd2 hfit2 ?_);refine Aa (rP ho1 hd1 hfit1 ?_);by_cases c:es2.size > es1.size
 .rw[if_pos c];refine go lta ltb hz ha1 hb1 (λx=>Iff.rfl) (by ext) _ λh' ms k1 k2 k3 k4 k5=>?_;exact Ae (Ae ⟨_,rfl,λe=>(by cases e),hQ h' ms k1 k2 k3 k4 k5⟩)
 .rw[if_neg c];refine go ltb lta hy hb1 ha1 (λx=>and_comm) (by ext) _ λh' ms k1 k2 k3 k4 k5=>?_;exact Ae (Ae ⟨_,rfl,λe=>(by cases e),hQ h' ms k1 k2 k3 k4 k5⟩)
def bg {F:Option (Dx×Array Nat)->Sem (Array (Int×Ai)×Dx)}{es:Array (Int×Ai)}{mask finger moves:Nat}{led plain:Bool}{Q:Array (Int×Ai)×Dx->As->Prop}(hF:∀t order,(order.filterMap (es[·]?)).size=es.size->F (some (t,order))=pure (order.filterMap (es[·]?),t))(hm:Dx.Mw (mask+1))(hl:es.size<=mask)
  (h:∀(es':Array (Int×Ai)) (t:Dx),es'.toList.Perm es.toList->es'.size=es.size->t.mask=mask->t.place.size=es.size->t.dummies=#[]->t.led=led->t.plain=plain->Q (es',t) s) :
  Au 'm' A (F (Lb mask finger moves led plain (es.map (·.1)))) Q E s:=by
 obtain⟨t,order,h1,h2,h3,h4,h5,h6,h7⟩:=Dx.laid_ok2 (hs:=es.map (·.1)) hm (by rw[SX];exact hl);rw[SX]at h3 h7
 have pp:(order.filterMap (es[·]?)).toList.Perm es.toList:=by
  rw[Array.toList_filterMap];have z:=h7.filterMap (λj=>es.toList[j]?);rw[show es.size=es.toList.length by simp,bf]at z;refine(of_eq ?_).trans z;congr 1
  funext j;rw[Dd]
 have sz:(order.filterMap (es[·]?)).size=es.size:=by
  have:=pp.length_eq;rwa[BI,BI]at this
 rw[h1,hF t order sz];exact Ae (h _ t pp sz h2 h3 h4 h5 h6)
def yz {n:Nat}(h1:21<=n*5)(h2:n<=12):Dx.Mw (EQ (n*2)-1+1)/\n<=EQ (n*2)-1/\EQ (n*2)<=32:=by
 have:n=5\/n=6\/n=7\/n=8\/n=9\/n=10\/n=11\/n=12:=by ext
 rcases this with rfl|rfl|rfl|rfl|rfl|rfl|rfl|rfl<;>exact⟨by first|exact .inr 'g'|exact .inl (.inr (.inl 'g')),by decide,by decide⟩
def Zkr {r:Av}{ls:List Str}{RE:Sem Unit}{Q:Unit->As->Prop}(hne:r≠a)(hb:CZ w s.heap a ls 'c')(hr:s.heap.get? r=some (FA w))(h12:ls.length<=12)
    (hQ:∀h',BM r s.heap h'->CZ w h' r ls 'c'->Q () {s with heap:=h' }):Au 'm' A (setMerge r a RE) Q E s:=by
  obtain⟨o,es,ep,t,ho,hex,hd,hes,hp,hsz,hfit,hled,hpl⟩:_:=id hb
  have hlen:es.size=ls.length:=by
    have:=hp.length_eq;unfold Hb at this;rw[Ab]at this;simpa using this
  have hf:t.place.size=es.size/\t.fill<=t.mask:=by
    unfold EK at hfit;simpa using hfit
  unfold setMerge;rw[if_neg (by simpa using hne)];refine Aa (A5 ho hd hfit ?_);dsimp only;split
  · next c=>
    have e0:es=#[]:=by simpa using c
    have l0:=AH (by rw[<- hlen,e0];rfl);refine Ae (hQ s.heap (CO _ _) ?_);rw[l0];exact qY hr rfl
  · next c=>
    have ne0:es.size≠0:=λz=>c (by simpa using z);have pl:=hpl ne0;have hline:Bh<=An:=by decide
    refine Aa (Bw (Q:=λ_ s'=>∃(h1:CN) (o1:Obj) (ep1:Nat) (ts:Dx),s'={s with heap:=h1}/\BM r s.heap h1/\h1.get? r=some o1/\o1.ExactSet/\o1.data=IM #[] ep1 ts/\ts.place.size=0/\ts.dummies=#[]/\ts.led='c'/\Dx.Mw (ts.mask+1)/\es.size<=ts.mask) ?_ ?_ λ_ _ h=>h)
    · unfold setRoomFor
      refine Aa (A5 hr rfl rfl ?_);dsimp only;by_cases c5:21<=es.size*5
      · rw [show (Qi 0 0 'c').roomFor es.size=some (es.size*2) from by
          unfold OX;rw [if_pos (by show (0+es.size)*5 >= 7*3;ext)];show some ((0+es.size)*2)=_;rw [ES]]
        dsimp only;obtain⟨g1,g2,g3⟩:=yz c5 (by ext);unfold setRelay;refine Aa (A5 hr rfl rfl ?_);dsimp only
        rw [if_neg (by have:(32:Nat)<=An:=by decide
                       ext)]
        refine Aa (bg (es:=#[]) (λt order h=>?_) g1 (Ej _) λes' t' pp sz m1 m2 m3 m4 m5=>?_)
        · show(if _ then _ else _)=_
          rw[h,if_neg 'f']
        · dsimp only
          have ee:=Kx sz;subst ee;obtain⟨o2,ho2,hex2,hd2⟩:=stored (es1:=#[]) (t2:=t') hr ⟨rfl,rfl,rfl⟩ rfl;exact DO hr rfl ⟨_,o2,_,t',rfl,Be _ _ _,ho2,hex2,hd2,m2,m3,m4,by rw[m1];exact g1,by rw[m1];exact g2⟩ (Ej _)
      · rw [show (Qi 0 0 'c').roomFor es.size=none from by
          unfold OX;rw [if_neg (by show ¬ (0+es.size)*5 >= 7*3;ext)]]
        exact Ae ⟨s.heap,_,0,_,rfl,CO _ _,hr,⟨rfl,rfl,rfl⟩,rfl,rfl,rfl,rfl,.inl (.inl rfl),by show es.size<=7;ext⟩
    · rintro - - ⟨h1,o1,ep1,ts,rfl,sb,ho1,hex1,hd1,hp0,hd0,hl1,hmw,hml⟩
      have fill0:ts.fill=0:=by unfold Iz;rw[hp0,hd0];rfl
      refine Aa (A5 (s:={s with heap:=h1}) ho1 hd1 (by unfold EK;rw[fill0,hp0];simp) ?_);dsimp only
      have hroad:ts.road t=.slotForSlot\/ts.road t=.clean:=by
        unfold SetTable.road;rw[fill0];split
        · next z=>simp at z
        · split
          · exact .inl rfl
          · exact .inr rfl
      rcases hroad with e|e
      · rw[e]
        dsimp only;obtain⟨o2,ho2,hex2,hd2⟩:=stored (es1:=es) (t2:={t with finger:=ts.finger,led:=ts.led && t.led,moves:=ts.moves,plain:=ts.plain && t.plain}) ho1 hex1 hd1;refine DO (s:={s with heap:=h1}) ho1 hd1 (hQ _ (sb.trans (Be _ _ _)) ⟨o2,_,_,_,ho2,hex2,hd2,hes,hp,hsz,hfit,?_,λ_=>?_⟩) (by ext)
        · show(ts.led && t.led)=_
          rw[hl1,hled,JC]
        · show(ts.plain && t.plain)=false
          rw[pl,DV]
      · rw[e]
        dsimp only;refine Aa (bg (s:={s with heap:=h1}) (λt order h=>?_) hmw hml λes' t' pp sz m1 m2 m3 m4 m5=>?_)
        · show(if _ then _ else _)=_
          rw[h,if_neg 'f']
        · dsimp only
          obtain⟨o2,ho2,hex2,hd2⟩:=stored (es1:=es') (t2:=t') ho1 hex1 hd1;refine DO (s:={s with heap:=h1}) ho1 hd1 (hQ _ (sb.trans (Be _ _ _)) ⟨o2,_,_,_,ho2,hex2,hd2,λe he=>hes e (pp.mem_iff.mp he),(pp.map _).trans hp,by ext,?_,?_,λ_=>?_⟩) (by ext)
          · unfold EK Iz
            rw[m2,m3,sz,m1];simp;exact hml
          · rw[m4,hl1,hled,JC]
          · rw[m5,pl,DV]
def Ω {id:String}(har:a≠r)(ho:s.heap.get? a=some o)(hd:o.data=.set es0 ep t)(hfit:t.fits es0.size=true)(hes:Jm w es)(hnd:(Hb es).Nodup)(hkg:kg.Nodup)(hl:kg.length+es.length+1<Bh)(hr:CZ w s.heap r kg 'c')
  (hQ:∀h' ms,BM r s.heap h'->CZ w h' r ms 'c'->ms.Nodup->(∀x,x∈ms↔(x∈kg/\x∉Hb es)\/(x∈Hb es/\x∉kg))->ms.length<=kg.length+es.length->Q ⟨⟩ {s with heap:=h' }) :
  Au 'm' A (forIn es Gq λx __s=>match x with
   |(h,x)=>do
    G6 [x] do
     let __do_lift <- L7 r x h
     if (!__do_lift)=true then do
      let _ <- IU r x h
      pure ()
     else pure ()
    BQ id a ep
    pure (Dj Gq)) Q E s:=by
 refine RE (I:=λd s'=>∃h' ms,BM r s.heap h'/\CZ w h' r ms 'c'/\ms.Nodup/\(∀x,x∈ms↔(x∈kg/\x∉Hb d)\/(x∈Hb d/\x∉kg))/\ms.length<=kg.length+d.length/\s'={s with heap:=h' }) es ?_ es [] s Q rfl ⟨s.heap,kg,CO _ _,hr,hkg,λx=>by simp[Hb],AL _,rfl⟩ ?_
 .rintro d ⟨k,v⟩ l s1 Q' hx ⟨h1,ms,sb,hS,nd,hm,hml,rfl⟩ hQ';obtain⟨x,tk,e⟩:=hes _ (by rw[hx];exact AS _ (Aw ..));cases e;have hdl:d.length<es.length:=by rw[hx,Aq,AO];ext
  have ek:Hb (d++[(FL w x,Ds x tk)])=Hb d++[x]:=by unfold Hb;rw[AJ];rfl
  have hxd:x∉Hb d:=by
   rw[hx]at hnd;unfold Hb at hnd;rw[AJ,AU]at hnd;exact λz=>(Ci.mp hnd).2.2 x z x (Aw ..) rfl
  have ua:∀{h2:CN} {Q'':Unit->As->Prop},BM r s.heap h2->Q'' () {s with heap:=h2}->Au 'm' A (BQ id a ep) Q'' E {s with heap:=h2}:=λ{h2} _ sb2 q=>ii (s:={s with heap:=h2}) ((sb2.2 a har).trans ho) hd hfit q;refine Aa (B4 (Aa (Zil (s:={s with heap:=h1}) hS λh2 sb2 hS2=>?_)));by_cases hxm:x∈ms
  .rw[decide_eq_true hxm,if_neg 'g'];refine Ae (Aa (ua (sb.trans sb2) (Ae (hQ' _ ⟨h2,_,sb.trans sb2,hS2,nd.erase x,λy=>?_,?_,rfl⟩))))
   .rw[nd.mem_erase_iff,hm,ek,Dv,Fj];have hk:=((hm x).mp hxm).elim (λz=>z.1) λz=>absurd z.1 hxd;by_cases e:y=x
    .subst e;simp[hk,hxd]
    .simp[e]
   .have:=List.length_erase_le (a:=x) (l:=ms);rw[Aq];ext
  .rw[decide_eq_false hxm,if_pos 'g'];rw[Ob hxm]at hS2;have hk:x∉kg:=λz=>hxm ((hm x).mpr (.inl ⟨z,hxd⟩));refine Aa (qZ (s:={s with heap:=h2}) hS2 (by ext) λ_ h3 sb3 hS3=>Ae ?_);rw[if_neg hxm]at hS3;refine Aa (ua ((sb.trans sb2).trans sb3) (Ae (hQ' _ ⟨h3,_,(sb.trans sb2).trans sb3,hS3,?_,λy=>?_,?_,rfl⟩)))
   .exact Ci.mpr ⟨nd,by simp,λa ha b hb=>by rw[AD.mp hb];exact λe=>hxm (e ▸ ha)⟩
   .rw[Dv,Fj,hm,ek,Dv,Fj];by_cases e:y=x
    .subst e;simp[hk,hxd]
    .simp[e]
   .rw[Aq,Aq];simp only[Dr];ext
 .intro s1;ext1⟨h1,ms,sb,hS,nd,hm,hml,e1'⟩;exact hQ h1 ms sb hS nd hm hml
def ZmZ {b:Av}{ks ls:List Str}{Q:Ai->As->Prop}(hkn:ks.Nodup)(hln:ls.Nodup)(ha:CZ w s.heap a ks 'c')(hb:CZ w s.heap b ls 'c')(h12:ls.length<=12)(hz:ls.length+ks.length+1<Bh)
  (hQ:∀h' ms,(∀c o,s.heap.get? c=some o->h'.get? c=some o)->CZ w h' s.heap.objs.size ms 'c'->ms.Nodup->(∀x,x∈ms↔(x∈ls/\x∉ks)\/(x∈ks/\x∉ls))->ms.length<=ls.length+ks.length->Q (.ref s.heap.objs.size) {s with heap:=h' }) :
  Au 'm' A (Bz .BitXor (.ref a) (.ref b)) Q E s:=by
 refine TQ ha.typeIs hb.typeIs F.fills_set_xor F.slot_set_xor (Cg F.slot_set_xor ha.typeIs ZgA ?_ (F.args_set_xor_2 _ _));refine Aa (Cn rfl ?_);dsimp only;rw[if_neg 'g'];dsimp only;unfold andM;refine Aa (Aa (V9 ha.typeIs ?_));refine V9 hb.typeIs ?_;rw[if_neg 'g'];refine Aa (Cn rfl ?_);refine Aa ?_;refine Aa (ij ha.typeIs ?_);refine Aa ?_;unfold SR;refine Aa (ig ?_);have hk0:∀c o,s.heap.get? c=some o->(s.heap.push (FA w)).get? c=some o:=λc o e=>Ag _ e;have lta:a<s.heap.objs.size:=by obtain⟨o,es,ep,t,ho,-⟩:=ha;exact Ar ho
 have ltb:b<s.heap.objs.size:=by obtain⟨o,es,ep,t,ho,-⟩:=hb;exact Ar ho
 have hb1:=hb.keep λo e=>hk0 b o e;refine Aa (Cn rfl ?_);refine Aa (B4 ?_);unfold Ia;refine Aa (V9 hb1.typeIs ?_);rw[if_pos rfl];refine Aa (Cn rfl ?_);unfold SU;obtain⟨o2,es2,ep2,t2,ho2,hex2,hd2,hes2,hp2,hsz2,hfit2,-⟩:_:=id hb1;refine Aa (XI ho2 hd2 hfit2 ?_);refine Zkr (Fi ltb) hb1 (AC _ rfl) h12 λh1 sb1 hr1=>?_;have sb1:=sb1;refine Ae ?_;have hk1:∀c o,s.heap.get? c=some o->h1.get? c=some o:=λc o e=>(sb1.2 c (A6 (Ar e))).trans (hk0 c o e);have ha1:=ha.keep λo e=>hk1 a o e;refine Aa (Cn rfl ?_);refine Aa (B4 ?_);unfold SQ;rw[if_neg (by simpa using A6 lta)];dsimp only;refine Aa (FE ha1.typeIs ?_);rw[if_neg 'g'];refine Aa (V9 ha1.typeIs ?_);rw[if_pos rfl];refine Aa (Ae ?_);refine Aa (Cn rfl ?_);refine Am λkk'=>?_;obtain⟨o,es,ep,t,ho,hex,hd,hes,hp,hsz,hfit,-⟩:=id ha1;refine kk' ?_;clear kk';refine Aa (XI ho hd hfit ?_);refine B4 ?_;refine Aa (f8 ha1 hr1 (λb hb=>?_) λes' h2 hes' hp' sb2 hr2=>?_)
 .rw[AD.mp hb];exact⟨_,_,hr1⟩
 .have sb2:=sb2;rw[<- Lv]
  have hel:es'.toList.length=ks.length:=by
   have:=hp'.length_eq;unfold Hb at this;rwa[Ab]at this
  refine Aa (Ω (A6 lta) ((sb2.2 a (A6 lta)).trans ho) hd hfit hes' (hp'.nodup_iff.mpr hkn) hln (by ext) hr2 λh3 ms sb3 hS3 nd hm hml=>Ae (Ae (Ae ⟨_,rfl,λe=>(by cases e),hQ h3 ms (λe o he=>?_) hS3 nd (λx=>?_) (by ext)⟩)))
  .have ne:=A6 (Ar he);exact(sb3.2 e ne).trans ((sb2.2 e ne).trans (hk1 e o he))
  .rw[hm,hp'.mem_iff]
end
def vR (h1:zs.Perm ms)(h2:Lq zs=true)(h3:ms.Nodup)(h4:∀x,x∈ms↔x∈l):zs=Je l:=
 zF (h1.trans ((LP h3 (ZX l)).mpr λx=>(h4 x).trans (VX l x).symm)) h2
noncomputable def Ld (xs ys:List Str):List Str:=Je (xs.filter (·∈ys))
noncomputable def LG (xs ys:List Str):List Str:=Je (ys.filter (·∉xs)++xs.filter (·∉ys))
noncomputable def S7 (op:LA)(xs ys:List Str):List Str:=if op=.BitAnd then Ld xs ys else LG xs ys
section
def j3 (hop:op=.BitAnd\/op=.BitXor)(hab:b≠a)(ha:CZ w s.heap a (fm xs) 'c')(hb:CZ w s.heap b (fm ys) 'c')(hz:(fm xs).length<=12)(hy:(fm ys).length<=12)
  (hQ:∀h' ms,(∀c o,s.heap.get? c=some o->h'.get? c=some o)->CZ w h' s.heap.objs.size ms 'c'->(∀zs,zs.Perm ms->Lq zs=true->zs=S7 op xs ys)->ms.length<64->Q (.ref s.heap.objs.size) {s with heap:=h' }) :
  Au 'm' A (Bz op (.ref a) (.ref b)) Q E s:=by
 have sb:(30:Nat)<Bh:=by decide
 rcases hop with rfl|rfl
 .refine y0 hab ha hb (by ext) (by ext) λh' ms hk hS nd hm hl=>hQ h' ms hk hS (λzs h1 h2=>?_) (by ext);unfold S7 Ld;rw[if_pos rfl];exact vR h1 h2 nd λx=>by rw[hm,VX,VX,Em,decide_eq_true_eq]
 .refine ZmZ (ZX _) (ZX _) ha hb hy (by ext) λh' ms hk hS nd hm hl=>hQ h' ms hk hS (λzs h1 h2=>?_) (by ext);unfold S7 LG;rw[if_neg 'g'];exact vR h1 h2 nd λx=>by rw[hm,VX,VX,Dv,Em,Em,decide_eq_true_eq,decide_eq_true_eq]
def sY (K:Ac)(op:LA)(tb:VK->Hp->Prop)(Q:VK)(x:V)(H1:Hp):Prop:=
 ∃p xs,x=.ref p/\F4 K H1 p (xs.map V.str)/\xs.length+1<Bh/\(fm xs).length<=12/\tb (λy H2=>∃q ys,y=.ref q/\F4 K H2 q (ys.map V.str)/\ys.length+1<Bh/\(fm ys).length<=12/\∀l,H2 l=none->Q (.ref l) (CI H2 l (.lst ((S7 op xs ys).map V.str)))) H1
def jv (K:Ac)(op:LA)(ta tb:TE):TE:=λU H Q=>ta U H (sY K op (λQ1 H1=>tb U H1 Q1) Q)
def AX.more (I:AX X Ad U H s)(hS:s.heap.objs.size<=S)(hk:∀b u,s.heap.get? b=some u->h'.get? b=some u)(ho:h'.get? S=some o)(hn:∀v,o.data≠.cell v):AX X ((S,o)::Ad) U H {s with heap:=h',toks:=tk}:=by
 have I2:AX X Ad U H {s with heap:=h',toks:=tk}:=I.kept hk;refine I2.pins_of λp hp=>?_;rcases AR.mp hp with rfl|hp
 .exact⟨ho,I.hok.fresh hS,λe=>absurd (I.lt) (by rw[<- e];exact jF.mpr hS),I.nofs hS,hn⟩
 .exact I2.pin p (AS _ hp)
def AX.less (I:AX X (p::Ad) U H s):AX X Ad U H s/\s.heap.get? p.1=some p.2:=
 ⟨I.pins_of λq hq=>I.pin q (AS _ (Ay _ hq)),(I.pin p (AS _ (Aw ..))).1⟩
def ZiJ {e1 e2:BY}{ta tb:TE}{op:LA}{p1 p2 p3 p4 pos pos2 pos3:Pos}(hop:op=.BitAnd\/op=.BitXor)(hc:X.calm=true)(ha:PE X e1 ta)(hb:PE X e2 tb)(hm1:X.mg "sorted" = none)(hm2:X.mg "set" = none)(hg1:autoParam (Gl X "sorted") BV)(hg2:autoParam (Gl X "set") BV)
  (he1:autoParam (Ap [e1] X.env=(false,eval e1 X.env)::Ap [] X.env) BV) (he2:autoParam (Ap [e2] X.env=(false,eval e2 X.env)::Ap [] X.env) BV) :
  PE X (.Call (.Name "sorted" p1) [.BinOp (.Call (.Name "set" p2) [e1] [] pos2) op (.Call (.Name "set" p3) [e2] [] pos3) p4] [] pos) (jv X.K op ta tb):=by
 intro Ad s U H Q I h;refine Cb (P4 I hg1 hm1 (u:=.builtin "sorted") rfl ?_);refine E9 ?_ rfl rfl;show Au _ _ (WA ((false,eval (.BinOp (.Call (.Name "set" p2) [e1] [] pos2) op (.Call (.Name "set" p3) [e2] [] pos3) p4) X.env)::B5 pos (Ap [] X.env))) _ _ s;refine Gs ?_;refine wpAny_BinOp ?_;refine Cb (P4 I hg2 hm2 (u:=.type "set") rfl ?_);refine BG (Dp (fU ha fM he1 pos2 Ad s U H (λvs H1=>S9 vs λx=>sY X.K op (λQ1 H1=>tb U H1 Q1) Q x H1) I h) λus s1 e=>e.el λvs H1 I1 r1 q1=>?_) he1 rfl
 .obtain⟨x,e1',p,xs,e2',hs,hz,h12,q⟩:_:=pS q1;obtain⟨u,rfl,ru⟩:=Ha r1;cases(show u=AE p from ru);obtain⟨Bi,rv,pl,hzz⟩:=I1.list hs
  have hl:xs.length=Bi.toArray.size:=by
   have:=rv.length;simpa using this
  refine qH (I1.ok.hd hc) pl.isList hl (λi v hi hv=>?_) (by ext) λh2 tk2 hS hk2=>?_
  .obtain⟨u,hu,ru⟩:=rv.get (i:=i) (x:=V.str xs[i]) (by rw[AI,Af hi];rfl);rw[D7]at hv;rw[hu]at hv;cases hv;exact ru
  .obtain⟨o1,es1,ep1,t1,ho1,hex1,hd1,hrest⟩:_:=id hS;have I2:=I1.more (tk:=tk2) (AL _) hk2 ho1 (λv e=>by rw[hd1]at e;cases e);refine Cb (P4 I2 hg2 hm2 (u:=.type "set") rfl ?_);refine BG (Dp (fU hb fM he2 pos3 _ _ U H1 (λvs H2=>S9 vs λy=>∃(q:Av) (ys:List Str),y=.ref q/\F4 X.K H2 q (ys.map V.str)/\ys.length+1<Bh/\(fm ys).length<=12/\∀l,H2 l=none->Q (.ref l) (CI H2 l (.lst ((S7 op xs ys).map V.str)))) I2 q) λus s3 e=>e.el λvs H3 I3 r3 q3=>?_) he2 rfl
   .obtain⟨y,e1',p',ys,e2',hs',hz',h12',q'⟩:_:=pS q3;obtain⟨u,rfl,ru⟩:=Ha r3;cases(show u=AE p' from ru);obtain⟨its',rv',pl',hzz'⟩:=I3.list hs'
    have hl':ys.length=its'.toArray.size:=by
     have:=rv'.length;simpa using this
    obtain⟨I3',hp1⟩:=I3.less;have ltS:=Ar hp1;refine qH (I3.ok.hd hc) pl'.isList hl' (λi v hi hv=>?_) (by ext) λh4 tk4 hS4 hk4=>?_
    .obtain⟨u,hu,ru⟩:=rv'.get (i:=i) (x:=V.str ys[i]) (by rw[AI,Af hi];rfl);rw[D7]at hv;rw[hu]at hv;cases hv;exact ru
    .refine j3 (s:={s3 with heap:=h4,toks:=tk4}) hop (Fi ltS) ⟨o1,es1,ep1,t1,hk4 _ _ hp1,hex1,hd1,hrest⟩ hS4 h12 h12' λh5 ms hk5 hS5 hu5 h64=>?_;refine G0 ?_
     have lt4:s3.heap.objs.size<h4.objs.size:=by
      obtain⟨o,es,ep,t,ho,-⟩:=hS4;exact Ar ho
     refine gp (s:={s3 with heap:=h5,toks:=tk4}) (I3.ok.hd hc) hS5 h64 λh6 d tk6 L out c zs hf hSL hL hst hp hsrt hk6=>?_;have hSL:h4.objs.size<L:=hSL;refine⟨.ref L,_,((I3'.draw d).laid (h':=h6) (t':=tk6) (a:=L) (o:=.lst (zs.map V.str)) (λb u eb=>hk6 b u (hk5 b u (hk4 b u eb))) (by show s3.heap.objs.size<=L;ext) ⟨?_,out,c,rB hst,hL⟩),rfl,?_⟩
     .rw[Ab,hp.length_eq];have:(64:Nat)<=An:=by decide
      ext
     .rw[hu5 zs hp hsrt];exact q' L (I3.hok.fresh (by ext))
unseal B3
def YD (op:LA)(ta tb:DZ):DZ:=λτ M Q=>ta τ M λx M1=>Cw (Bg M1 x) λds=>Cw (EG ds) λxs=>xs.length+1<Bh/\(fm xs).length<=12/\tb τ M1 λy M2=>Cw (Bg M2 y) λes=>Cw (EG es) λys=>ys.length+1<Bh/\(fm ys).length<=12/\Q (.lst ((S7 op xs ys).map D.str)) M2
def Zv (hop:op=.BitAnd\/op=.BitXor)(hc:X.calm=true)(hm1:X.mg "sorted" = none)(hm2:X.mg "set" = none)(ha:B3 X e1 ta)(hb:B3 X e2 tb)(hg1:autoParam (Gl X "sorted") BV)(hg2:autoParam (Gl X "set") BV)
  (he1:autoParam (Ap [e1] X.env=(false,eval e1 X.env)::Ap [] X.env) BV) (he2:autoParam (Ap [e2] X.env=(false,eval e2 X.env)::Ap [] X.env) BV) :
  B3 X (.Call (.Name "sorted" p1) [.BinOp (.Call (.Name "set" p2) [e1] [] pos2) op (.Call (.Name "set" p3) [e2] [] pos3) p4] [] pos) (YD op ta tb):=PE.mono (ZiJ hop hc ha hb hm1 hm2 hg1 hg2 he1 he2) (by
 intro U H Q;ext1⟨Z,τ,M,Q2,st,hr,h,k⟩;refine ⟨Z,τ,M,_,st,hr,h,λZ1 v d H1 M1 l1 h1 a1 q1=>?_⟩;obtain ⟨ds,e1,q2⟩:=Cm q1;obtain ⟨xs,e2,hz,h64,q3⟩:=Cm q2;obtain ⟨p,vs,rfl,hs,a2⟩:=h1.rdL e1 a1;have e3:=XC e2;subst e3;have e4:=ats_strs a2;subst e4;refine ⟨p,xs,rfl,hs,hz,h64,lE.bind (st.mono l1) h1 q3 λZ2 y dy H2 M2 l2 h2 a3 q4=>?_⟩;obtain ⟨es,f1,q5⟩:=Cm q4;obtain ⟨ys,f2,hz',h64',q6⟩:=Cm q5;obtain ⟨p',vs',rfl,hs',a4⟩:=h2.rdL f1 a3;have f3:=XC f2;subst f3;have f4:=ats_strs a4;subst f4;exact ⟨p',ys,rfl,hs',hz',h64',λl hl=>(k.le (l1.trans l2)).f h2 hl (bA _) q6⟩)
theorem uT :YD op ta tb τ M Q=(ta τ M λx M1=>Cw (Bg M1 x) λds=>Cw (EG ds) λxs=>xs.length+1<Bh/\(fm xs).length<=12/\tb τ M1 λy M2=>Cw (Bg M2 y) λes=>Cw (EG es) λys=>ys.length+1<Bh/\(fm ys).length<=12/\Q (.lst ((S7 op xs ys).map D.str)) M2):=rfl
unseal Gd Gc
end
end L2
namespace L3
open PySem PySem.Spec PyProof.Rows L2
def Zk9 (hkey:(BX prog w).is k key=true)(hm:s.heap.DictOf (BX prog w) d AG)(hn:k∉AG.map (·.1))(hsz:AG.length<=An)
  (hQ:∀h',h'.DictOf (BX prog w) d (AG++[(k,x)])->BM d s.heap h'->Q x {s with heap:=h',toks:=s.toks+1}):Au 'm' A (jC d key x) Q E s:=by
 obtain⟨o,es,ep,ho,hc,hd,hk,hp,nd⟩:_:=hm
 have hes:es.size<=An:=by
  have e1:=hp.length;have e2:es.toList.length=es.size:=by simp
  ext
 have no:(es.findIdx? λe=>(BX prog w).is k e.key)=none:=by
  have e1:=hp.findIdx k;have e2:(es.findIdx? λe=>(BX prog w).is k e.key)=es.toList.findIdx? λe=>(BX prog w).is k e.key:=by obtain⟨l⟩:=es;simp
  rw[e2,e1,GZ];intro kv hkv;exact decide_eq_false λe=>hn (Ao.mpr ⟨kv,hkv,e⟩)
 unfold jC;refine B4 ?_;refine Aa ((BX prog w).pyHash hkey ?_);refine Aa (wpAny_dictFind_of hkey ho hd hk ?_);rw[no];dsimp only;refine Aa (Hi (Aa (wpAny_updateDictKeys ho hd (Ae ?_))));refine hQ _ ⟨_,_,ep+1,Ei _ ho (Obj.isFreed_of_dict (Pt hd _)),hc.mapDictKeys _,Pt hd _,hk.push hkey _,?_,?_⟩ (Be ..)
 .have z:=hp.append hkey ((BX prog w).hash k) x;obtain⟨l⟩:=es;simpa using z
 .rw[AJ];exact Ci.mpr ⟨nd,by simp,λa ha b hb e=>hn (by rw[show a=k from e.trans (AD.mp hb)]at ha;exact ha)⟩
def zi (I:AX X Ad U H s)(e:H a=some (.dK AG))(hl:AG.length<An)(ry:RelV (kV k) u)(rd:RelV d r)
  (h1:∀v w' s',F8 AG k=some v->AX X Ad U H s'->RelV v w'->Q w' s') (h2:F8 AG k=none->∀s',AX X Ad U (CI H a (.dK (putK AG k d))) s'->Q r s') :
  Au 'd' A (Ix (.builtin "dict.setdefault") [.ref a,u,r]) Q E s:=by
 obtain⟨z,hd,vs,rel,dd⟩:=nH I.hok e;have rv:=rel.val k;cases hv:F8 AG k with
 |some v=>
  rw[hv]at rv;cases hw:Ln vs k with
  |none=>rw[hw]at rv;exact rv.elim
  |some w'=>
   rw[hw]at rv;refine call_meetsIn FQ dd.typeIs Kh (JW _ _ _) (meets_dict_setdefault (BX X.prog X.w) a (Tn ry) hd r) ⟨_,dd.mapOf,?_,λv' hv'=>?_,λhn=>?_⟩
   .obtain⟨o',es',ep',ho',_,hd',_,hp',_⟩:_:=dd;intro o es ep ho hd2;rw[ho']at ho;cases ho;rw[hd']at hd2;cases hd2;have e1:=hp'.length;have e2:es'.toList.length=es'.size:=by simp
    have e3:=rel.length;ext
   .rw[hw]at hv';cases hv';exact h1 v w' _ hv (I.tok _) rv
   .rw[hw]at hn;cases hn
 |none=>
  have hn:k∉vs.map (·.1):=λhk=>by
   rw[<- rel.keys]at hk;obtain⟨kv,hkv,ek⟩:=Ao.mp hk;unfold F8 at hv;rw[MS,Fa]at hv;exact hv kv hkv (decide_eq_true ek)
  refine Cg FQ dd.typeIs Kh ?_ (JW _ _ _);unfold Es.«dict.setdefault»;refine Aa ?_;unfold dM;refine Aa (R4 dd.typeIs ?_);show Au _ _ (pure (a,u,some r)) _ _ s;refine Ae ?_;dsimp only;rw[if_neg (by rw[hd];exact Ak)];refine Aa (Zk9 (Tn ry) dd hn (by rw[<- rel.length];exact z) λh' dd' hs=>Ae ⟨r,rfl,h2 hv _ ?_⟩);have he:∃q,h'.get? a=some q:=let ⟨q,_,_,hq,_⟩:=dd';⟨q,hq⟩
  have hp:putK AG k d=AG++[(k,d)]:=by
   unfold putK;rw[if_neg];intro c;obtain⟨kv,hkv,ek⟩:=Dh.mp c;exact hn (by rw[<- rel.keys];exact Ao.mpr ⟨kv,hkv,of_decide_eq_true ek⟩)
  rw[hp]
  have hst:U0 vs k r=vs++[(k,r)]:=by
   unfold U0;rw[if_neg];intro c;obtain⟨kv,hkv,ek⟩:=Dh.mp c;exact hn (Ao.mpr ⟨kv,hkv,of_decide_eq_true ek⟩)
  have rp:=rel.put k rd;rw[hp,hst]at rp;exact fY I (by rw[e];exact Cu) hs he (fJ (by rw[Aq];exact hl) hd rp dd')
section
unseal EX
def S2:V->List V->Hp->VK->Prop:=λx vs H Q=>∃a AG k v,x=.ref a/\vs=[kV k,v]/\H a=some (.dK AG)/\AG.length<An/\(∀v',F8 AG k=some v'->Q v' H)/\(F8 AG k=none->Q v (CI H a (.dK (putK AG k v))))
def ZlU:NQ X "dict.setdefault" S2:=by
 intro Ad s U H x vs v us Q I rx rv;ext1⟨a,AG,k,d,e1',e2',e,hl,q1,q2⟩;cases rx;obtain⟨u,r,rfl,ru,rr⟩:=Nd rv;exact zi I e hl ru rr (λv w' s' hv I' r'=>⟨v,H,I',r',q1 v hv⟩) λhn s' I'=>⟨d,_,I',rr,q2 hn⟩
def Mo:D->List D->Mp->Ef->Prop:=λx xs M Q=>Ko x λp=>FW xs λy v=>Sh y λk=>K1 (M p) λAG=>AG.length<An/\(∀d,DA AG k=some d->Q d M)/\(DA AG k=none->Q v (put M p (.dic (HM AG k v))))
def YC (to:DZ)(t:Ka):DZ:=λτ M Q=>to τ M λx M1=>Ko x λp=>K1 (M1 p) λ_=>t τ M1 λxs M2=>Mo (.ref p) xs M2 Q
theorem nv :YC to t τ M Q=(to τ M λx M1=>Ko x λp=>K1 (M1 p) λ_=>t τ M1 λxs M2=>Mo (.ref p) xs M2 Q):=rfl
unseal B3 Gd
def lQ (ho:B3 X o to)(ha:Gd X [e1,e2] t)
  (hbase:autoParam (CL o "setdefault" X.env (eval o X.env)=eval o X.env) BV)
  (hfew:autoParam (((B5 cpos (Ap [e1,e2] X.env)).all (λx=>!x.1) && (FP cpos (DQ [] X.env)).all (λx=>x.1.isSome)
   && decide ([e1,e2].length+([]:List Fn).length+(if ([]:List Fn).isEmpty then 0 else 1)<30))=true) BV)
  (hline:autoParam ((apos.endLine == cpos.line)=true) BV) (hs:autoParam (Ap [e1,e2] X.env=(false,eval e1 X.env)::Ap [e2] X.env) BV) (hplain:autoParam ((B5 cpos (Ap [e2] X.env)).any (·.1)=false) BV) :
  B3 X (.Call (.Attribute o "setdefault" apos) [e1,e2] [] cpos) (YC to t):=PE.mono (uE PySem.F.plainAttrs_dict FQ PySem.F.type_dict_setdefault ZlU ho ha hbase hfew hline hs hplain) (by
 intro U H Q;ext1⟨Z,τ,M,Q2,st,hr,h,k⟩;refine lE.bind st hr h λZ1 x dx H1 M1 l1 h1 a1 q1=>?_;obtain⟨p,rfl,q2⟩:=IG q1;obtain⟨kvs0,e0,q3⟩:=nP q2;cases(show x=V.ref p from a1);obtain⟨ks0,rd0,_⟩:=h1.rdMD e0;refine⟨.inr (.inr (.inl ⟨rfl,.inl ⟨ks0,rd0⟩⟩)),Z1,τ,M1,_,st.mono l1,h1,q3,λZ2 vs ds H2 M2 l2 h2 a2 q4=>?_⟩;obtain⟨p',e,q5⟩:=IG q4;cases e;obtain⟨y,v,rfl,q6⟩:=LI q5;obtain⟨ky,rfl,q7⟩:=Rv q6;obtain⟨AG,e,hl,q8,q9⟩:=nP q7;obtain⟨ks,rd,a4⟩:=h2.rdMD e;obtain⟨y',v',rfl,ay,av⟩:=P2 a2;cases W4 ay;refine⟨p,ks,ky,v',rfl,rfl,rd,by rw[a4.length];exact hl,λv2 hv2=>?_,λhn=>?_⟩
 .rcases a4.val with⟨_,e2⟩|⟨d,v3,e1,e2,av3⟩
  .rw[hv2]at e2;cases e2
  .rw[hv2]at e2;cases e2;exact k Z2 _ _ _ _ (l1.trans l2) h2 av3 (q8 d e1)
 .rcases a4.val with⟨e1,_⟩|⟨d,v3,e1,e2,_⟩
  .exact k Z2 _ _ _ _ (l1.trans l2) (h2.chgD e (a4.put av)) av (q9 e1)
  .rw [hn] at e2;cases e2)
def zb {Z:Zt}{d:D}{zs:List D}{vs:List V}(h:DH Z vs (zs++[d])):∃us v,vs=us++[v]/\DH Z us zs/\At Z v d:=by
 induction zs generalizing vs with
 |nil=>
  cases h with
  |cons a t=>cases t;exact⟨[],_,rfl,.nil,a⟩
 |cons z zs ih=>
  cases h with
  |cons a t=>obtain⟨us,v,rfl,h1,h2⟩:=ih t;exact⟨_::us,v,rfl,.cons a h1,h2⟩
def Rj:D->List D->Mp->Ef->Prop:=λx xs M Q=>Ko x λp=>xs=[]/\OF (M p) λys=>∃zs d,ys=zs++[d]/\Q d (put M p (.lst zs))
def sk :Rj (.ref p) [] M Q=OF (M p) λys=>∃zs d,ys=zs++[d]/\Q d (put M p (.lst zs)):=by
 unfold Rj;simp only[Ko,true_and]
def pj:EX X "list.pop" Rj:=NQ.mono pq (by
 intro x xs H Q;ext1⟨Z,d,ds,M,Q2,hr,a,as,h,k⟩;obtain⟨p,rfl,rfl,h2⟩:=IG h;obtain⟨ys,e,zs,d,rfl,q⟩:=nQ h2;cases(show x=V.ref p from a);have hx:xs=[]:=by cases as;rfl
 subst hx;obtain ⟨vs,r,a2⟩:=hr.rdM e;obtain ⟨us,v,rfl,a4,a5⟩:=zb a2;refine ⟨p,us++[v],v,rfl,rfl,r,by simp,?_⟩;rw [List.dropLast_concat];exact k Z _ _ _ _ (Le.refl _) (hr.chgL e a4) a5 q)
end
section
def Rb (tk1 tv1 tk2 tv2 tk3 tv3 tk4 tv4:DZ):DZ:=λτ M Q=>∀p,M p=none->tk1 τ (put M p (.dic [])) λx1 M1=>GG x1 λz1=>tv1 τ M1 λy1 M2=>tk2 τ M2 λx2 M3=>GG x2 λz2=>tv2 τ M3 λy2 M4=>tk3 τ M4 λx3 M5=>GG x3 λz3=>tv3 τ M5 λy3 M6=>tk4 τ M6 λx4 M7=>GG x4 λz4=>tv4 τ M7 λy4 M8=>M8 p=some (.dic [])/\[z1,z2,z3,z4].Nodup/\Q (.ref p) (put M8 p (.dic [(.inr z1,y1),(.inr z2,y2),(.inr z3,y3),(.inr z4,y4)]))
theorem xa :Rb tk1 tv1 tk2 tv2 tk3 tv3 tk4 tv4 τ M Q=∀p,M p=none->tk1 τ (put M p (.dic [])) λx1 M1=>GG x1 λz1=>tv1 τ M1 λy1 M2=>tk2 τ M2 λx2 M3=>GG x2 λz2=>tv2 τ M3 λy2 M4=>tk3 τ M4 λx3 M5=>GG x3 λz3=>tv3 τ M5 λy3 M6=>tk4 τ M6 λx4 M7=>GG x4 λz4=>tv4 τ M7 λy4 M8=>M8 p=some (.dic [])/\[z1,z2,z3,z4].Nodup/\Q (.ref p) (put M8 p (.dic [(.inr z1,y1),(.inr z2,y2),(.inr z3,y3),(.inr z4,y4)])):=rfl
def VC (h:[z1,z2,z3,z4].Nodup):L2.mergeK [] [((.inr z1:Ck),y1),(.inr z2,y2),(.inr z3,y3),(.inr z4,y4)]=[(.inr z1,y1),(.inr z2,y2),(.inr z3,y3),(.inr z4,y4)]:=by
 simp only[Ek,BD,AT,or_false,not_or]at h;obtain⟨⟨a,b,c⟩,⟨d,e⟩,f,-⟩:_:=h;simp[L2.mergeK,L2.putK,a,b,c,d,e,f]
unseal B3
def Vt (hk1:B3 X ke1 tk1)(hv1:B3 X ve1 tv1)(hk2:B3 X ke2 tk2)(hv2:B3 X ve2 tv2)(hk3:B3 X ke3 tk3)(hv3:B3 X ve3 tv3)(hk4:B3 X ke4 tk4)(hv4:B3 X ve4 tv4):B3 X (.Dict [some ke1,some ke2,some ke3,some ke4] [ve1,ve2,ve3,ve4] pos) (Rb tk1 tv1 tk2 tv2 tk3 tv3 tk4 tv4):=PE.mono (xx (gR hk1 hv1 (gR hk2 hv2 (gR hk3 hv3 (gR hk4 hv4 yg)))) rfl rfl (by intro h;cases h) (by show 4<=15;decide)) (by
 rintro U H Q ⟨Z,τ,M,Q2,st,hr,h,k⟩ p hp;refine lE.bind st (hr.newD hp .nil) (h p (hr.fresh hp)) λZ1 v1 d1 H1 M1 l1 h1 a1 q=>?_;obtain ⟨z1,rfl,q⟩:=Ea q;refine lE.bind (st.mono l1) h1 q λZ2 v2 d2 H2 M2 g2 h2 a2 q=>?_;have l2:=l1.trans g2;refine lE.bind (st.mono l2) h2 q λZ3 v3 d3 H3 M3 g3 h3 a3 q=>?_;have l3:=l2.trans g3;have a2:=a2.mono g3;obtain ⟨z2,rfl,q⟩:=Ea q;refine lE.bind (st.mono l3) h3 q λZ4 v4 d4 H4 M4 g4 h4 a4 q=>?_;have l4:=l3.trans g4;have a2:=a2.mono g4;refine lE.bind (st.mono l4) h4 q λZ5 v5 d5 H5 M5 g5 h5 a5 q=>?_;have l5:=l4.trans g5;have a2:=a2.mono g5;have a4:=a4.mono g5;obtain ⟨z3,rfl,q⟩:=Ea q;refine lE.bind (st.mono l5) h5 q λZ6 v6 d6 H6 M6 g6 h6 a6 q=>?_;have l6:=l5.trans g6;have a2:=a2.mono g6;have a4:=a4.mono g6;refine lE.bind (st.mono l6) h6 q λZ7 v7 d7 H7 M7 g7 h7 a7 q=>?_;have l7:=l6.trans g7;have a2:=a2.mono g7;have a4:=a4.mono g7;have a6:=a6.mono g7;obtain ⟨z4,rfl,q⟩:=Ea q;refine lE.bind (st.mono l7) h7 q λZ8 v8 d8 H8 M8 g8 h8 a8 q=>?_;have l8:=l7.trans g8;have a2:=a2.mono g8;have a4:=a4.mono g8;have a6:=a6.mono g8;obtain ⟨e,hne,q⟩:=q;obtain ⟨vs,e2,ka⟩:=h8.rdMD e;cases ka;cases (show v1=V.str z1 from a1);cases (show v3=V.str z2 from a3);cases (show v5=V.str z3 from a5);cases (show v7=V.str z4 from a7);refine ⟨e2,[(.inr z1,v2),(.inr z2,v4),(.inr z3,v6),(.inr z4,v8)],rfl,by show 4<=15;decide,?_⟩;rw [VC hne];exact k Z8 (.ref p) (.ref p) _ _ l8 (h8.chgD e (.cons ⟨rfl,a2⟩ (.cons ⟨rfl,a4⟩ (.cons ⟨rfl,a6⟩ (.cons ⟨rfl,a8⟩ .nil))))) rfl q)
end
section
variable {X:Cx}{Ad:List (Av×Obj)}{U:St}{H:Hp}{s:As}
def Λ (ht:IsTup s.heap p #[.int i t1,.int j t2])
  (h1:i=k->Q (.int 0 s.toks) {s with toks:=s.toks+1}) (h2:i≠k->j=k/\Q (.int 1 s.toks) {s with toks:=s.toks+1}) :
  Au 'd' X.A (Ix (.builtin "tuple.index") [.ref p,.int k t]) Q X.xe s:=by
 refine Cg Lz ht.typeIs PySem.F.entry_tuple_index ?_ (PySem.F.args_tuple_index_2 _ _);unfold Es.«tuple.index»;refine Aa ?_;show Au _ _ (pure (AE p,[DS k t])) _ _ s;refine Ae ?_;dsimp only;refine Aa (tupleItemsOf_ ht ?_);refine Aa (Ae (Aa (Ae (Aa ?_))));rw[TU];simp only[TR,AW,AO,Fq,ES,Nb,Ls,NW,Nat.reduceSub,Nat.reduceDiv,Nat.add_one_sub_one,dA];rw[show O4 0 2=[0,1]from rfl];rw[Ho];refine Aa ?_;show Au _ _ (eqBool (.int i t1) (.int k t) >>= _) _ _ s;refine Aa (L4 ?_);by_cases e:i=k
 .rw[beq_iff_eq.mpr e];show Au _ _ (iY _ >>= _) _ _ s;refine Aa ?_;unfold iY;refine Aa (wpAny_mkInt (Ae (Ae ?_)));refine Ae (Ae ⟨_,rfl,h1 e⟩)
 .obtain⟨e2,q⟩:=h2 e;rw[show(i == k)=false from beq_eq_false_iff_ne.mpr e];show Au _ _ (pure (Dj (none,()))) _ _ s;refine Ae ?_;show Au _ _ (forIn [1] _ _) _ _ s;rw[Ho];refine Aa ?_;show Au _ _ (eqBool (.int j t2) (.int k t) >>= _) _ _ s;refine Aa (L4 ?_);rw[beq_iff_eq.mpr e2];show Au _ _ (iY _ >>= _) _ _ s;refine Aa ?_;unfold iY;refine Aa (wpAny_mkInt (Ae (Ae ?_)));refine Ae (Ae ⟨_,rfl,q⟩)
def S3:V->List V->Hp->VK->Prop:=λx vs H Q=>∃p i j k,x=.ref p/\vs=[.int k]/\H p=some (.tup [.int i,.int j])/\(i=k->Q (.int 0) H)/\(i≠k->j=k/\Q (.int 1) H)
def ZlV:NQ X "tuple.index" S3:=by
 intro Ad s U H x vs v us Q I rx rv;ext1⟨p,i,j,k,e1',e2',e,q1,q2⟩;cases(show v=AE p from rx);obtain⟨u,rfl,ru⟩:=Ha rv;obtain⟨t,rfl⟩:=ru;obtain⟨_,Bi,r,tn⟩:=(show CK X.prog X.w H s.heap p (.tup [.int i,.int j])from I.hok p _ e);obtain⟨u1,u2,e1',⟨t1,e2'⟩,⟨t2,e3'⟩⟩:_:=Nd r;exact Λ tn.tup (λh=>⟨.int 0,H,I.tok _,⟨_,rfl⟩,q1 h⟩) λh=>⟨(q2 h).1,.int 1,H,I.tok _,⟨_,rfl⟩,(q2 h).2⟩
def jr (r:V->List V->Hp->VK->Prop)(to:TE)(t:TA):TE:=λU H Q=>to U H λx H1=>(∃p xs,x=.ref p/\H1 p=some (.tup xs))/\t U H1 λvs H2=>r x vs H2 Q
def sr {id:String}(slot:jE "tuple" name id)(hty:QN (.builtin id)=pure (.type "method_descriptor"))(hm:NQ X id r)(ho:PE X o to)(ha:PA X (e::es) t)
  (hbase:autoParam (CL o name X.env (eval o X.env)=eval o X.env) BV)
  (hfew:autoParam (((B5 cpos (Ap (e::es) X.env)).all (λx=>!x.1) && (FP cpos (DQ [] X.env)).all (λx=>x.1.isSome)
   && decide ((e::es).length+([]:List Fn).length+(if ([]:List Fn).isEmpty then 0 else 1)<30))=true) BV)
  (hline:autoParam ((apos.endLine == cpos.line)=true) BV) (hs:autoParam (Ap (e::es) X.env=(false,eval e X.env)::Ap es X.env) BV) (hplain:autoParam ((B5 cpos (Ap es X.env)).any (·.1)=false) BV) :
  PE X (.Call (.Attribute o name apos) (e::es) [] cpos) (jr r to t):=by
 intro Ad s U H Q I h;refine QM hbase hfew hline rfl (Dp (ho Ad s U H _ I h) λv s1 e=>e.el λx H1 I1 r1 ⟨ty,q1⟩=>?_);obtain⟨p,xs,rfl,ex⟩:=ty;cases(show v=AE p from r1);obtain⟨_,Bi,_,ob,g1,g2,n,g3,g4⟩:=(show CK X.prog X.w H1 s1.heap p (.tup xs)from I1.hok p _ ex);refine⟨"tuple",id,PySem.F.plainAttrs_tuple,slot,hty,⟨ob,g1,g2⟩,λa ha=>⟨ob,by cases ha;exact g1,g4⟩,?_⟩;have hA:=ha cpos Ad s1 U H1 _ I1 q1;rw[hs]at hA ⊢;refine HI (by show(false || (B5 cpos (Ap es X.env)).any (·.1))=false;rw[hplain]<;>rfl) (IC ?_);exact Dp hA λus s2 e=>e.el λvs H2 I2 r2 q2=>hm Ad s2 U H2 _ vs _ us Q I2 r1 r2 q2
def YA (to:DZ)(t:Ka):DZ:=λτ M Q=>to τ M λx M1=>∃i j,x=.tup [.int i,.int j]/\t τ M1 λxs M2=>GH xs λy=>Fb y λk=>∃v,(v=0/\i=k\/v=1/\i≠k/\j=k)/\Q (.int v) M2
theorem om :YA to t τ M Q=(to τ M λx M1=>∃i j,x=.tup [.int i,.int j]/\t τ M1 λxs M2=>GH xs λy=>Fb y λk=>∃v,(v=0/\i=k\/v=1/\i≠k/\j=k)/\Q (.int v) M2):=rfl
unseal B3 Gd
def lP {o e:BY}{to:DZ}{t:Ka}{apos cpos:Pos}(ho:B3 X o to)(ha:Gd X [e] t)
  (hbase:autoParam (CL o "index" X.env (eval o X.env)=eval o X.env) BV)
  (hfew:autoParam (((B5 cpos (Ap [e] X.env)).all (λx=>!x.1) && (FP cpos (DQ [] X.env)).all (λx=>x.1.isSome)
   && decide ([e].length+([]:List Fn).length+(if ([]:List Fn).isEmpty then 0 else 1)<30))=true) BV)
  (hline:autoParam ((apos.endLine == cpos.line)=true) BV) (hs:autoParam (Ap [e] X.env=(false,eval e X.env)::Ap [] X.env) BV) (hplain:autoParam ((B5 cpos (Ap [] X.env)).any (·.1)=false) BV) :
  B3 X (.Call (.Attribute o "index" apos) [e] [] cpos) (YA to t):=PE.mono (sr Lz PySem.F.type_tuple_index ZlV ho ha hbase hfew hline hs hplain) (by
 intro U H Q;ext1⟨Z,τ,M,Q2,st,hr,h,k⟩;refine lE.bind st hr h λZ1 x dx H1 M1 l1 h1 a1 q1=>?_;obtain⟨i,j,rfl,q⟩:=q1;obtain⟨p,vs,rfl,e1,_⟩:=h1.rdK rfl a1;refine⟨⟨p,vs,rfl,e1⟩,Z1,τ,M1,_,st.mono l1,h1,q,λZ2 ws ds H2 M2 l2 h2 a2 q2=>?_⟩;obtain⟨y,rfl,q3⟩:=GV q2;obtain⟨n,rfl,v,c,q4⟩:=C3 q3;obtain⟨w,rfl,aw⟩:=II a2;cases(show w=V.int n from aw);obtain⟨p2,vs2,ep,e2,av⟩:=h2.rdK rfl (a1.mono l2);cases ep;obtain⟨v1,v2,rfl,b1,b2⟩:=P2 av;cases(show v1=V.int i from b1);cases(show v2=V.int j from b2);have q5:=k Z2 (.int v) (.int v) _ _ (l1.trans l2) h2 rfl q4;rcases c with⟨rfl,c⟩|⟨rfl,c,d⟩
 .exact⟨p,i,j,n,rfl,rfl,e2,λ_=>q5,λd=>absurd c d⟩
 .exact ⟨p,i,j,n,rfl,rfl,e2,λd=>absurd d c,λ_=>⟨d,q5⟩⟩)
end
section
open MeetsSeq MeetsSeq2 MeetsSeq3 SeqRoads2
end
unseal Cq
end L3
end Internal
set_option maxHeartbeats 4000000
namespace Internal
namespace My
open PySem PyProof.Rows L2 L3
local macro_rules | `(nofun)=>`(Db.mono ‹Db _ _› (by first | decide | omega))
local macro_rules | `(tactic| walk_at "eq")=>`(tactic| simp only[List.cons.injEq,IA,D.int.injEq,D.str.injEq,D.bl.injEq,D.tup.injEq,D.lst.injEq,D.ref.injEq,true_and,and_true,exists_and_left,exists_and_right,exists_eq',exists_eq,exists_const,eq_self])
local macro_rules | `(tactic| simp_all![$xs,*])=>`(tactic| (simp only[ly,AU,DB,Fe,Fd,Ma];simp![$xs,*]))
local macro_rules | `(tactic| walk_at "cap")=>`(tactic| simp_all![true_and])
local macro_rules | `(tactic| dsimp![$xs,*])=>`(tactic| ((try simp only[Mn,Ml,Mm]);simp![$xs,*]))
local macro_rules | `(tactic| right)=>`(tactic| dsimp![true_and])
local macro_rules | `(tactic| simp![$xs,*])=>`(tactic| simp -failIfUnchanged only[↓mf,↓r9,↓Zk,↓Zj,↓Zi,↓kP,↓Zh,↓Zp,↓Zg,↓Zo,↓Zf,↓Zn,↓kN,↓kO,↓kM,↓kL,↓kK,↓sL,↓Zq,↓vN,↓kQ,↓uK,↓vJ,↓uY,↓nk,↓kZ,↓rh,↓se,↓uV,↓rj,↓uO,↓mi,↓mh,↓xf,↓w5,↓lB,↓ri,↓vk,↓uN,↓uM,↓eO,↓RK,↓oI,↓eJ,↓uL,↓Zm,↓uU,↓uG,↓me,↓nj,↓mj,↓uI,↓oh,↓p9,↓W3,↓kj,↓ki,↓nr,↓reduceIte,Gi,decide_eq_true_eq,JA,true_and,and_true,AO,Fq,Ab,ES,ne_eq,Int.reduceLT,Int.reducePow,Oh,decide_true,decide_false,SJ,Nb,BS,sJ,$xs,*])
local macro_rules | `(tactic| grind)=>`(tactic| simp![true_and])
noncomputable def XS:List Str:=["Ring"]
noncomputable def CS:List Str:=[]
def ς:(("Ring":Str)∈XS)=True:=eq_true 'k'
noncomputable def Dk (i:Nat):C6:=U8.main.body.getD i (.Pass ⟨0,0,0,0⟩)
noncomputable def Th (s:C6):List C6:=match s with
 |.ClassDef _ _ _ b _ _ _ _ _ _ _=>b
 |_=>[]
abbrev tm (k j:Nat):C6:=(Th (Dk k)).getD j (.Pass ⟨0,0,0,0⟩)
section
variable {P:Bs}{w:BK}{K:Ac}{mg:Str->Option Ai}{base:CN}
noncomputable def RP:List (Str×Int):=[("num",0),("box",0),("late",0),("door",0),("not",1),("and",2),("or",2),("xor",2),("plus",2),("minus",2),("less",2),("same",2),("pick",3),("join",2),("part",1)]
def ZgM:RP.lookup ("num":Str)=some 0:=by nofun
def ZgN:RP.lookup ("box":Str)=some 0:=by nofun
def ZfD:RP.lookup ("late":Str)=some 0:=by nofun
def ZfE:RP.lookup ("door":Str)=some 0:=by nofun
def gz:RP.lookup ("not":Str)=some 1:=by nofun
def ZfB:RP.lookup ("pick":Str)=some 3:=by nofun
def ZfC:RP.lookup ("part":Str)=some 1:=by nofun
structure DF (K:Ac)(mg:Str->Option Ai)(x:Str)(st:C6)(ps:List Str) where
 f:Av
 g:Dy
 d:Df K mg x st ps f g
structure DM (K:Ac)(C:Av)(m qual:Str)(st:C6)(ps:List Str) where
 f:Av
 g:Dy
 d:Mf K C m qual st ps f g
abbrev TX (K:Ac)(mg:Str->Option Ai)(C_Known:Av):=((((((DF K mg "is_width" (Dk 13) ["number"]×DF K mg "fits" (Dk 14) ["width", "number"])×DF K mg "check_width" (Dk 15) ["number"])×(DF K mg "check_word" (Dk 16) ["width", "number"]×DF K mg "cut" (Dk 17) ["width", "number"])×DF K mg "bits_of" (Dk 18) ["width", "word"])×((DF K mg "held_terms" (Dk 23) ["term"]×DF K mg "size_of" (Dk 24) ["T"])×DF K mg "width_of" (Dk 25) ["T", "boxes", "doors"])×(DF K mg "checked_width" (Dk 26) ["term", "boxes", "doors"]×DF K mg "checked_num" (Dk 27) ["width", "word"])×DF K mg "width_named" (Dk 28) ["widths", "name"])×(((DF K mg "check_own" (Dk 29) ["term", "widths"]×DF K mg "check_part" (Dk 30) ["low", "many", "width"])×DF K mg "check_join" (Dk 31) ["width"])×(DF K mg "check_like" (Dk 32) ["width", "other"]×DF K mg "width_over" (Dk 33) ["term", "widths"])×DF K mg "reads" (Dk 34) ["T"])×((DF K mg "leaves_of" (Dk 35) ["term"]×DF K mg "names_in" (Dk 36) ["leaves", "form"])×DF K mg "marks_of" (Dk 38) ["span"])×DF K mg "unknown_span" (Dk 39) ["width"]×DF K mg "with_mark" (Dk 40) ["span", "place", "mark"])×((((DF K mg "span_of" (Dk 41) ["term", "spans"]×DF K mg "span_over" (Dk 42) ["term", "held"])×DF K mg "span_of_two" (Dk 43) ["form", "one", "other"])×(DF K mg "doubt" (Dk 44) ["span"]×DF K mg "doubted" (Dk 45) ["width", "word", "unknown"])×DF K mg "not_span" (Dk 46) ["span"])×((DF K mg "sum_span" (Dk 47) ["one", "other", "carry"]×DF K mg "less_span" (Dk 48) ["one", "other"])×DF K mg "same_span" (Dk 49) ["one", "other"])×(DF K mg "pick_span" (Dk 50) ["chosen", "one", "other"]×DF K mg "join_span" (Dk 51) ["one", "other"])×DF K mg "part_span" (Dk 52) ["span", "low", "many"])×(((DF K mg "made" (Dk 59) ["boxes", "doors", "rules"]×DF K mg "check_many" (Dk 60) ["things", "most", "called"])×DF K mg "is_name" (Dk 61) ["text"])×(DF K mg "take_name" (Dk 62) ["name", "taken"]×DF K mg "check_once" (Dk 63) ["name", "taken"])×DF K mg "checked_boxes" (Dk 64) ["boxes", "taken"])×((DF K mg "checked_doors" (Dk 65) ["doors", "taken"]×DF K mg "check_rule" (Dk 66) ["rule", "taken", "box_widths", "door_widths"])×DF K mg "rule_of" (Dk 67) ["works", "name"])×DF K mg "rule_names" (Dk 68) ["works"]×DF K mg "widths_of" (Dk 69) ["works"])×(((((DF K mg "asked_bits" (Dk 72) ["works", "one", "other"]×DF K mg "shared" (Dk 73) ["names", "others"])×DF K mg "unshared" (Dk 74) ["names", "others"])×(DF K mg "bits_named" (Dk 75) ["sort", "names", "widths"]×((d:DM K C_Known "__init__" "Known.__init__" (tm 76 0) ["self", "row"]) ×' Mk K C_Known d.f))×DM K C_Known "learn" "Known.learn" (tm 76 1) ["self", "mark"])×((DM K C_Known "forget" "Known.forget" (tm 76 2) ["self"]×DM K C_Known "know" "Known.know" (tm 76 3) ["self", "many"])×DM K C_Known "go_on" "Known.go_on" (tm 76 4) ["self", "guards"])×(DM K C_Known "settled_at" "Known.settled_at" (tm 76 5) ["self", "many", "guards"]×DM K C_Known "put" "Known.put" (tm 76 6) ["self", "number", "mark"])×DM K C_Known "turn" "Known.turn" (tm 76 7) ["self"])×(((DM K C_Known "guard_marks" "Known.guard_marks" (tm 76 8) ["self", "guards"]×DM K C_Known "guard_mark" "Known.guard_mark" (tm 76 9) ["self", "guard", "sort"])×DM K C_Known "both_words" "Known.both_words" (tm 76 10) ["self"])×(DM K C_Known "low_words" "Known.low_words" (tm 76 11) ["self", "sort"]×DF K mg "never_both" (Dk 77) ["works", "one", "other"])×DF K mg "written" (Dk 79) ["works", "name"])×((DF K mg "read_early" (Dk 80) ["works", "name"]×DF K mg "read_late" (Dk 81) ["works", "name"])×DF K mg "boxes_read" (Dk 82) ["rule", "number"])×DF K mg "clash" (Dk 83) ["works", "ahead", "behind"]×DF K mg "clashes_of" (Dk 85) ["works", "order"])×((((DF K mg "check_order" (Dk 86) ["works", "order"]×DF K mg "clashing" (Dk 87) ["works", "ahead", "names"])×DF K mg "are_paired" (Dk 88) ["pairs", "one", "other"])×(DF K mg "rivals_of" (Dk 89) ["works", "clashes", "name"]×DF K mg "ahead_of" (Dk 90) ["names", "name"])×DF K mg "needs" (Dk 92) ["works", "order"])×((DF K mg "needs_with" (Dk 93) ["works", "order", "clashes"]×DF K mg "needed_by" (Dk 94) ["works", "order", "clashes", "name"])×DF K mg "come_in_turn" (Dk 95) ["needed"])×(DF K mg "have_come" (Dk 96) ["names", "come"]×DF K mg "settling" (Dk 97) ["works", "order"])×DF K mg "settled" (Dk 98) ["needed"])×(((DF K mg "_law_cell_at" (Dk 100) ["script", "k"]×DF K mg "_law_name" (Dk 102) ["number", "k"])×DF K mg "_law_leaf" (Dk 103) ["number", "want", "boxes", "doors"])×(DF K mg "_law_term" (Dk 104) ["number", "want", "deep", "boxes", "doors"]×DF K mg "_law_writes" (Dk 105) ["number", "boxes", "doors"])×DF K mg "_law_things" (Dk 106) ["script", "mods", "most_doors", "most_rules"])×((DF K mg "_law_order" (Dk 108) ["number", "rules"]×DF K mg "_law_read" (Dk 109) ["term", "word"])×DF K mg "_law_needs" (Dk 110) ["rules", "order", "pairs"])×DF K mg "_law_next_of" (Dk 111) ["rules", "wanted", "come"]×DF K mg "law" (Dk 112) ["script"]
set_option genInjectivity false in
set_option genSizeOf false in
structure Tx (K:Ac)(w:BK)(mg:Str->Option Ai) where
 C_Known:Av
 X:TX K mg C_Known
 cl_Known:OW K C_Known
 mgc_Known:mg "Known" = some (.ref C_Known)
 na_Known_row:Eb K C_Known "row"
 na_Known_marks:Eb K C_Known "marks"
 na_Known_spans:Eb K C_Known "spans"
 t_WIDEST:Tok
 m_WIDEST:mg "WIDEST" = some (.int 64 t_WIDEST)
 t_MOST_PARTS:Tok
 m_MOST_PARTS:mg "MOST_PARTS" = some (.int 100 t_MOST_PARTS)
 t_MOST_DEEP:Tok
 m_MOST_DEEP:mg "MOST_DEEP" = some (.int 12 t_MOST_DEEP)
 t_MOST_BOXES:Tok
 m_MOST_BOXES:mg "MOST_BOXES" = some (.int 12 t_MOST_BOXES)
 t_MOST_DOORS:Tok
 m_MOST_DOORS:mg "MOST_DOORS" = some (.int 6 t_MOST_DOORS)
 t_MOST_RULES:Tok
 m_MOST_RULES:mg "MOST_RULES" = some (.int 8 t_MOST_RULES)
 t_MOST_WRITES:Tok
 m_MOST_WRITES:mg "MOST_WRITES" = some (.int 6 t_MOST_WRITES)
 t_LONGEST_NAME:Tok
 m_LONGEST_NAME:mg "LONGEST_NAME" = some (.int 8 t_LONGEST_NAME)
 t_MOST_CUBES:Tok
 m_MOST_CUBES:mg "MOST_CUBES" = some (.int 64 t_MOST_CUBES)
 h_HELD:Av
 m_HELD:mg "HELD" = some (.ref h_HELD)
 T_HELD:TabOk K w h_HELD RP
 xc_Ring:TN K mg "Ring" XS CS
 B:Blt mg
section
variable (T:Tx K w mg)
noncomputable def Tx.Y:=T.X
def Tx.x0:=T.Y.1.1.1.1.1.1.1
def Tx.x1:=T.Y.1.1.1.1.1.1.2
def Tx.x2:=T.Y.1.1.1.1.1.2
def Tx.x3:=T.Y.1.1.1.1.2.1.1
def Tx.x4:=T.Y.1.1.1.1.2.1.2
def Tx.x5:=T.Y.1.1.1.1.2.2
def Tx.x6:=T.Y.1.1.1.2.1.1.1
def Tx.x7:=T.Y.1.1.1.2.1.1.2
def Tx.x8:=T.Y.1.1.1.2.1.2
def Tx.x9:=T.Y.1.1.1.2.2.1.1
def Tx.x10:=T.Y.1.1.1.2.2.1.2
def Tx.x11:=T.Y.1.1.1.2.2.2
def Tx.x12:=T.Y.1.1.2.1.1.1.1
def Tx.x13:=T.Y.1.1.2.1.1.1.2
def Tx.x14:=T.Y.1.1.2.1.1.2
def Tx.x15:=T.Y.1.1.2.1.2.1.1
def Tx.x16:=T.Y.1.1.2.1.2.1.2
def Tx.x17:=T.Y.1.1.2.1.2.2
def Tx.x18:=T.Y.1.1.2.2.1.1.1
def Tx.x19:=T.Y.1.1.2.2.1.1.2
def Tx.x20:=T.Y.1.1.2.2.1.2
def Tx.x21:=T.Y.1.1.2.2.2.1
def Tx.x22:=T.Y.1.1.2.2.2.2
def Tx.x23:=T.Y.1.2.1.1.1.1.1
def Tx.x24:=T.Y.1.2.1.1.1.1.2
def Tx.x25:=T.Y.1.2.1.1.1.2
def Tx.x26:=T.Y.1.2.1.1.2.1.1
def Tx.x27:=T.Y.1.2.1.1.2.1.2
def Tx.x28:=T.Y.1.2.1.1.2.2
def Tx.x29:=T.Y.1.2.1.2.1.1.1
def Tx.x30:=T.Y.1.2.1.2.1.1.2
def Tx.x31:=T.Y.1.2.1.2.1.2
def Tx.x32:=T.Y.1.2.1.2.2.1.1
def Tx.x33:=T.Y.1.2.1.2.2.1.2
def Tx.x34:=T.Y.1.2.1.2.2.2
def Tx.x35:=T.Y.1.2.2.1.1.1.1
def Tx.x36:=T.Y.1.2.2.1.1.1.2
def Tx.x37:=T.Y.1.2.2.1.1.2
def Tx.x38:=T.Y.1.2.2.1.2.1.1
def Tx.x39:=T.Y.1.2.2.1.2.1.2
def Tx.x40:=T.Y.1.2.2.1.2.2
def Tx.x41:=T.Y.1.2.2.2.1.1.1
def Tx.x42:=T.Y.1.2.2.2.1.1.2
def Tx.x43:=T.Y.1.2.2.2.1.2
def Tx.x44:=T.Y.1.2.2.2.2.1
def Tx.x45:=T.Y.1.2.2.2.2.2
def Tx.x46:=T.Y.2.1.1.1.1.1.1
def Tx.x47:=T.Y.2.1.1.1.1.1.2
def Tx.x48:=T.Y.2.1.1.1.1.2
def Tx.x49:=T.Y.2.1.1.1.2.1.1
def Tx.x50:=T.Y.2.1.1.1.2.1.2.1
def Tx.mk_Known:Mk K T.C_Known T.x50.f:=T.Y.2.1.1.1.2.1.2.2
def Tx.x51:=T.Y.2.1.1.1.2.2
def Tx.x52:=T.Y.2.1.1.2.1.1.1
def Tx.x53:=T.Y.2.1.1.2.1.1.2
def Tx.x54:=T.Y.2.1.1.2.1.2
def Tx.x55:=T.Y.2.1.1.2.2.1.1
def Tx.x56:=T.Y.2.1.1.2.2.1.2
def Tx.x57:=T.Y.2.1.1.2.2.2
def Tx.x58:=T.Y.2.1.2.1.1.1.1
def Tx.x59:=T.Y.2.1.2.1.1.1.2
def Tx.x60:=T.Y.2.1.2.1.1.2
def Tx.x61:=T.Y.2.1.2.1.2.1.1
def Tx.x62:=T.Y.2.1.2.1.2.1.2
def Tx.x63:=T.Y.2.1.2.1.2.2
def Tx.x64:=T.Y.2.1.2.2.1.1.1
def Tx.x65:=T.Y.2.1.2.2.1.1.2
def Tx.x66:=T.Y.2.1.2.2.1.2
def Tx.x67:=T.Y.2.1.2.2.2.1
def Tx.x68:=T.Y.2.1.2.2.2.2
def Tx.x69:=T.Y.2.2.1.1.1.1.1
def Tx.x70:=T.Y.2.2.1.1.1.1.2
def Tx.x71:=T.Y.2.2.1.1.1.2
def Tx.x72:=T.Y.2.2.1.1.2.1.1
def Tx.x73:=T.Y.2.2.1.1.2.1.2
def Tx.x74:=T.Y.2.2.1.1.2.2
def Tx.x75:=T.Y.2.2.1.2.1.1.1
def Tx.x76:=T.Y.2.2.1.2.1.1.2
def Tx.x77:=T.Y.2.2.1.2.1.2
def Tx.x78:=T.Y.2.2.1.2.2.1.1
def Tx.x79:=T.Y.2.2.1.2.2.1.2
def Tx.x80:=T.Y.2.2.1.2.2.2
def Tx.x81:=T.Y.2.2.2.1.1.1.1
def Tx.x83:=T.Y.2.2.2.1.1.1.2
def Tx.x84:=T.Y.2.2.2.1.1.2
def Tx.x85:=T.Y.2.2.2.1.2.1.1
def Tx.x86:=T.Y.2.2.2.1.2.1.2
def Tx.x87:=T.Y.2.2.2.1.2.2
def Tx.x88:=T.Y.2.2.2.2.1.1.1
def Tx.x89:=T.Y.2.2.2.2.1.1.2
def Tx.x90:=T.Y.2.2.2.2.1.2
def Tx.x91:=T.Y.2.2.2.2.2.1
def Tx.x92:=T.Y.2.2.2.2.2.2
end
abbrev Ok (P:Bs)(w:BK)(K:Ac)(mg:Str->Option Ai)(base:CN)(k:Nat)(f:Av)(fd:Dy)(ps:List Str)(sp:DL):Prop:=FnOk P w K mg base CX0 k f fd ps (lSp K sp)
abbrev Tv (P:Bs)(w:BK)(K:Ac)(mg:Str->Option Ai)(base:CN):=Tx K w mg
abbrev Od (_:Tv P w K mg base){x:Str}{st:C6}{ps:List Str}(d:DF K mg x st ps)(k:Nat)(sp:DL):Prop:=Ok P w K mg base k d.f d.g ps sp
def BN {X:Cx}{x:Str}{p pos:Pos}{k:Nat}{st:C6}{ps:List Str}{sp:DL}{d:DF X.K X.mg x st ps}{e:BY}{es:List BY}{t:Ka}(G:FnOk X.prog X.w X.K X.mg X.base CX0 k d.f d.g ps (lSp X.K sp))(ha:Gd X (e::es) t)(hr:Db k X.A:=by exact Db.mono ‹Db _ _› (by first | decide | omega))(hg:autoParam (Gl X x) BV)(hdb:autoParam 'j' Gy)(he:autoParam (Ap (e::es) X.env=(false,eval e X.env)::Ap es X.env) BV)(hpl:autoParam ((B5 pos (Ap es X.env)).any (·.1)=false) BV):B3 X (.Call (.Name x p) (e::es) [] pos) (Rc sp t):=Zu d.d G hr ha hg hdb he hpl
abbrev Om (_:Tv P w K mg base){C:Av}{m qual:Str}{st:C6}{ps:List Str}(d:DM K C m qual st ps)(k:Nat)(sp:DL):Prop:=Ok P w K mg base k d.f d.g ps sp
variable (T:Tv P w K mg base)
abbrev jh (P:Bs)(w:BK)(K:Ac)(mg:Str->Option Ai)(base:CN)(k:Nat)(f:Av)(fd:Dy)(ps:List Str)(sp:TC):Prop:=FnOk P w K mg base (Kr P w) k f fd ps (Rz K mg sp)
def c9:(("box":Str)=("num":Str))=False:=eq_false 'k'
def fi:(("late":Str)=("num":Str))=False:=eq_false 'k'
def fh:(("late":Str)=("box":Str))=False:=eq_false 'k'
def fg:(("door":Str)=("num":Str))=False:=eq_false 'k'
def fe:(("door":Str)=("box":Str))=False:=eq_false 'k'
def gq:(("door":Str)=("late":Str))=False:=eq_false 'k'
def fo:(("not":Str)=("part":Str))=False:=eq_false 'k'
def fj:(("not":Str)=("join":Str))=False:=eq_false 'k'
def fq:(("not":Str)=("pick":Str))=False:=eq_false 'k'
def Zj2:(("not":Str)=("less":Str))=False:=eq_false 'k'
def Zj1:(("not":Str)=("same":Str))=False:=eq_false 'k'
def gr:(("pick":Str)=("part":Str))=False:=eq_false 'k'
def ZhL:(("pick":Str)=("join":Str))=False:=eq_false 'k'
def ZhK:(("pick":Str)=("less":Str))=False:=eq_false 'k'
def ZhJ:(("pick":Str)=("same":Str))=False:=eq_false 'k'
def ZhP:(("part":Str)=("join":Str))=False:=eq_false 'k'
def ZhN:(("part":Str)=("pick":Str))=False:=eq_false 'k'
def ZhO:(("part":Str)=("less":Str))=False:=eq_false 'k'
def ZhM:(("part":Str)=("same":Str))=False:=eq_false 'k'
theorem Xn :ZO is (.tup xs) τ k=(xs.length=is.length/\k (GU τ is xs)):=rfl
def Xr :GU τ (i::is) (x::xs)=GU (τ.set i (some x)) is xs:=by rw[GU]
def Xq :GU τ [] []=τ:=by unfold GU;rfl
theorem vB :Gw 16 (x0::x1::x2::x3::x4::x5::x6::x7::x8::x9::x10::x11::x12::x13::x14::x15::some d::τ) M Q=Q d M:=rfl
theorem uS :Fy 16 te E (x0::x1::x2::x3::x4::x5::x6::x7::x8::x9::x10::x11::x12::x13::x14::x15::o::τ) M=te (x0::x1::x2::x3::x4::x5::x6::x7::x8::x9::x10::x11::x12::x13::x14::x15::o::τ) M λd M1=>E.nx (x0::x1::x2::x3::x4::x5::x6::x7::x8::x9::x10::x11::x12::x13::x14::x15::some d::τ) M1:=rfl
abbrev Ziw:DL:=λds M Q=>GH ds λx=>Fb x λn=>Q (.bl (decide (1<=n/\n<=64))) M
def ZiM:Od T T.x0 1 Ziw:=by
 refine CB.p1 T.x0.d.F ["number"] λx M Q hr nN h1=>?_;obtain⟨n,rfl,q⟩:=C3 h1;refine⟨_,qO (CA (OC Rx Rx Aj (qv 0) (IP T.m_WIDEST))),?_⟩
 dsimp![↓pU]
 refine Cj (λc=>?_) λc=>?_
 .rw[show decide (1<=n/\n<=64)=decide (n<=64) by simp[c]]at q;exact Dn.of q
 .rw[show decide (1<=n/\n<=64)=false by simp;intro h;ext]at q;exact Dn.of q
def zd (w:Nat)(h0:0<=n):Er n<=w↔n<2^w:=by
 unfold Er;by_cases hz:n=0
 .subst hz;have:(0:Int)<2^w:=QR 'g';simp[this]
 .have hz':(n == 0)=false:=by simpa using hz
  rw[hz'];have ha:n.natAbs≠0:=by ext
  have hl:=Nat.log2_lt (n:=n.natAbs) (k:=w) ha;have e:((2^w:Nat):Int)=(2:Int)^w:=by simp
  constructor
  .intro h;have h0:n.natAbs.log2+1<=w:=by simpa using h
   have h1:=hl.mp h0;ext
  .intro h;have h1:n.natAbs<2^w:=by ext
   have h2:n.natAbs.log2+1<=w:=hl.mpr h1;simpa using h2
abbrev yq:DL:=λds M Q=>FW ds λx y=>Fb x λw=>Fb y λn=>0<=w/\Q (.bl (decide (0<=n/\n<2^w.toNat))) M
def wo:Od T T.x1 1 yq:=by
 refine CB.p2 T.x1.d.F ["width", "number"] λx y M Q hr nN h1=>?_;obtain⟨wd,rfl,h2⟩:=C3 h1;obtain⟨n,rfl,hw,q⟩:=C3 h2;refine⟨_,qO (CA (Rs (JY ZD (qv 1) Aj) (OB (JY Rx (Vw PySem.F.plainAttrs_int PySem.F.slot_int_bit_length PySem.F.type_int_bit_length ph (qv 1)) (qv 0))))),?_⟩
 dsimp![↓aI,↓nR,↓yC]
 refine Cj (λc=>?_) λc=>?_
 .have c':0<=n:=by simpa using c
  have hb:=zd wd.toNat c'
  rw [show decide (0<=n/\n<2^wd.toNat)=decide ((Er n:Int)<=wd) by
   rw[Dz,decide_eq_true_iff,decide_eq_true_iff];constructor
   .intro h;have:=hb.mpr h.2;ext
   .intro h;exact ⟨c',hb.mp (by ext)⟩] at q
  exact Dn.of q
 .have c':¬ 0<=n:=by simpa using c
  rw[show decide (0<=n/\n<2^wd.toNat)=false by simp;intro h;ext]at q;exact Dn.of q
abbrev ZeF:DL:=λds M Q=>GH ds λx=>Fb x λw=>(1<=w/\w<=64)/\Q .non M
def rF:Od T T.x2 2 ZeF:=by
 refine CB.p1 T.x2.d.F ["number"] λx M Q hr nN h1=>?_;obtain⟨wd,e1',⟨a1,a2⟩,q⟩:_:=C3 h1;refine⟨_,qO (Ew (Ni (GF (BN (ZiM T) (qA (qv 0) qN)))) (qO P5) qE),?_⟩
 dsimp![↓Z0,↓Sq,decide_eq_false_iff_not]
 refine Cj (λc=>?_) λc=>Dn.of q;simp[a1,a2]at c
abbrev ZfP:DL:=λds M Q=>FW ds λx y=>Fb x λw=>Fb y λn=>(1<=w/\0<=n/\n<2^w.toNat)/\Q .non M
def ir:Od T T.x3 2 ZfP:=by
 refine CB.p2 T.x3.d.F ["width", "number"] λx y M Q hr nN h1=>?_;obtain⟨wd,rfl,h2⟩:=C3 h1;obtain⟨n,e1',⟨a1,a3,a4⟩,q⟩:_:=C3 h2;refine⟨_,qO (Ew (Ni (GF (BN (wo T) (qA (qv 0) (qA (qv 1) qN))))) (qO P5) qE),?_⟩
 dsimp![↓Z0,↓Sq,decide_eq_false_iff_not]
 refine⟨by ext,Cj (λc2=>?_) λc2=>Dn.of q⟩;simp[a3,a4]at c2
def yf (h:a<=b):(2:Int)^a<=2^b:=by
 have h1:=Nat.pow_le_pow_right (n:=2) 'g' h;have e:∀k,((2^k:Nat):Int)=(2:Int)^k:=λk=>by simp
 rw[<- e,<- e];exact Yk.mpr h1
def XG (w):(0:Int)<2^w:=QR 'g'
abbrev vv:DL:=λds M Q=>FW ds λx y=>Fb x λw=>Fb y λn=>(0<=w/\w<=1000)/\Q (.int (n%2^w.toNat)) M
def V0:Od T T.x4 1 vv:=by
 refine CB.p2 T.x4.d.F ["width", "number"] λx y M Q hr nN h1=>?_;obtain⟨wd,rfl,h2⟩:=C3 h1;obtain⟨n,e1',⟨h0,h64⟩,q⟩:_:=C3 h2;refine⟨_,qO (CA (BJ Hv (qv 1) (BJ W5 Aj (B6 (tW rfl) T.B.max boot_max (qA (qv 0) (qA Aj qN)))))),?_⟩;right;rw[if_neg (by omega:¬ 0 > wd),WD];exact⟨⟨h0,by ext,by decide⟩,QR 'g',Dn.of q⟩
noncomputable def Ih (w:Nat)(x:Int):List Int:=(Bx w).map λk=>x / 2^k%2
noncomputable def weight:List Int->Int
 |[]=>0
 |b::r=>b+2*weight r
def al (w:Nat)(x:Int):(Ih w x).length=w:=by unfold Ih;rw[Ab,Ch]
def ZkN (w)(x):Ih (w+1) x=x%2::Ih w (x / 2):=by
 unfold Ih;rw[EI,AU,BB];congr 1
 .simp
 .apply D6;intro k _;show x / 2^(k+1)%2=x / 2 / 2^k%2;rw[Gm,Yl,Int.ediv_ediv_of_nonneg 'g']
def ZkO (w:Nat)(x:Int):Ih (w+1) x=Ih w x++[x / 2^w%2]:=by
 unfold Ih;rw[SK,AJ];rfl
abbrev Zk7:DL:=λds M Q=>FW ds λx y=>Fb x λw=>Fb y λn=>(0<=w/\w<=64)/\∀p,M p=none->Q (.ref p) (put M p (.lst ((Ih w.toNat n).map D.int)))
def dh:Od T T.x5 1 Zk7:=by
 refine CB.p2 T.x5.d.F ["width", "word"] λx y M Q hr nN h1=>?_;obtain⟨wd,rfl,h2⟩:=C3 h1;obtain⟨n,e1',⟨h0,h64⟩,q⟩:_:=C3 h2;refine⟨_,qO (CA (Zs (caps:=[("word",1)]) ⟨rfl,by rfl,by rfl,by rfl,rfl,by rfl,by nofun⟩ rfl (gV T.B.range (qA (qv 0) qN)) (λ_ _ _ _ _ _=>(BJ UD (BJ nM (qv 1) (qv 0)) Aj)))),?_⟩
 dsimp![↓gD,↓vI,DI]
 refine⟨by ext,by rw[Xy];exact GS (by ext),λi ys M'=>M'=M/\ys=(Ih i n).map D.int,⟨rfl,rfl⟩,?_,?_,?_⟩
 .rintro i ys M' ⟨rfl,rfl⟩;exact⟨trivial,by rw[Ab,al];exact AL _⟩
 .rintro i x ys M' hx ⟨rfl,rfl⟩;obtain⟨hi,rfl⟩:=aW hx
  simp_all![↓oJ]
  refine⟨by ext,?_⟩;rw[ZkO,AJ]
  have e:AF (n / 2^((0:Int)+(i:Int)).toNat) 1=n / 2^i%2:=by
   rw[show((0:Int)+(i:Int)).toNat=i by ext];exact PySem.W.kbt_mask (n / 2^i) 1
  rw[e];rfl
 .rintro ys M' ⟨rfl,rfl⟩ p hp;rw[Xy];exact Dn.of (q p hp)
inductive GA where
 |and | or | xor | plus | minus | less | same | join
noncomputable def GA.nm:GA->Str
 |.and=>"and" |.or=>"or" |.xor=>"xor" |.plus=>"plus" |.minus=>"minus" |.less=>"less" |.same=>"same" |.join=>"join"
inductive Tm where
 |num (w n:Int) | box (x:Str) | late (x:Str) | door (x:Str)
 |not (t:Tm) | bin (o:GA) (t u:Tm) | pick (c t u:Tm) | part (t:Tm) (lo many:Int)
noncomputable def Tm.D:Tm->D
 |.num w n=>.tup [.str "num",.int w,.int n]
 |.box x=>.tup [.str "box",.str x]
 |.late x=>.tup [.str "late",.str x]
 |.door x=>.tup [.str "door",.str x]
 |.not t=>.tup [.str "not",t.D]
 |.bin o t u=>.tup [.str o.nm,t.D,u.D]
 |.pick c t u=>.tup [.str "pick",c.D,t.D,u.D]
 |.part t lo many=>.tup [.str "part",t.D,.int lo,.int many]
noncomputable def Tm.kids:Tm->List Tm
 |.not t=>[t]
 |.bin _ t u=>[t,u]
 |.pick c t u=>[c,t,u]
 |.part t _ _=>[t]
 |_=>[]
noncomputable def Tm.parts:Tm->Nat
 |.not t=>t.parts+1
 |.bin _ t u=>t.parts+u.parts+1
 |.pick c t u=>c.parts+t.parts+u.parts+1
 |.part t _ _=>t.parts+1
 |_=>1
noncomputable def Tm.deep:Tm->Nat
 |.not t=>t.deep+1
 |.bin _ t u=>max t.deep u.deep+1
 |.pick c t u=>max c.deep (max t.deep u.deep)+1
 |.part t _ _=>t.deep+1
 |_=>1
def GA.nm_inj {a b:GA}(h:a.nm=b.nm):a=b:=by
 cases a<;>cases b<;>first | rfl | exact absurd h 'k'
def GA.nm_ne {o:GA}:o.nm≠"num"/\o.nm≠"box"/\o.nm≠"late"/\o.nm≠"door"/\o.nm≠"not"/\o.nm≠"pick"/\o.nm≠"part":=by cases o<;>nofun
theorem Tm.D_inj:∀{t u:Tm},t.D=u.D->t=u
 |.num a b,.num c d,h=>by simp[Tm.D]at h;rw[h.1,h.2]
 |.box x,.box y,h=>by simp[Tm.D]at h;rw[h]
 |.late x,.late y,h=>by simp[Tm.D]at h;rw[h]
 |.door x,.door y,h=>by simp[Tm.D]at h;rw[h]
 |.not t,.not u,h=>by simp[Tm.D]at h;rw[Tm.D_inj h]
 |.bin o t u,.bin o' t' u',h=>by simp[Tm.D]at h;rw[GA.nm_inj h.1,Tm.D_inj h.2.1,Tm.D_inj h.2.2]
 |.pick c t u,.pick c' t' u',h=>by simp[Tm.D]at h;rw[Tm.D_inj h.1,Tm.D_inj h.2.1,Tm.D_inj h.2.2]
 |.part t a b,.part t' a' b',h=>by simp[Tm.D]at h;rw[Tm.D_inj h.1,h.2.1,h.2.2]
 |.num _ _,.box _,h | .num _ _,.late _,h | .num _ _,.door _,h | .num _ _,.not _,h | .num _ _,.pick _ _ _,h | .num _ _,.part _ _ _,h=>by simp[Tm.D]at h
 |.num _ _,.bin o _ _,h=>by simp[Tm.D]at h;exact absurd h.1.symm GA.nm_ne.1
 |.box _,.num _ _,h | .box _,.bin _ _ _,h | .box _,.pick _ _ _,h | .box _,.part _ _ _,h=>by simp[Tm.D]at h
 |.late _,.num _ _,h | .late _,.bin _ _ _,h | .late _,.pick _ _ _,h | .late _,.part _ _ _,h=>by simp[Tm.D]at h
 |.door _,.num _ _,h | .door _,.bin _ _ _,h | .door _,.pick _ _ _,h | .door _,.part _ _ _,h=>by simp[Tm.D]at h
 |.box _,.not _,h | .late _,.not _,h | .door _,.not _,h | .box _,.late _,h | .box _,.door _,h | .late _,.box _,h | .late _,.door _,h | .door _,.box _,h | .door _,.late _,h=>by simp[Tm.D]at h;exact absurd h.1 (by nofun)
 |.not _,.num _ _,h | .not _,.bin _ _ _,h | .not _,.pick _ _ _,h | .not _,.part _ _ _,h=>by simp[Tm.D]at h
 |.not _,.box _,h | .not _,.late _,h | .not _,.door _,h=>by simp[Tm.D]at h;exact absurd h.1 (by nofun)
 |.bin o _ _,.num _ _,h=>by simp[Tm.D]at h;exact absurd h.1 GA.nm_ne.1
 |.bin _ _ _,.box _,h | .bin _ _ _,.late _,h | .bin _ _ _,.door _,h | .bin _ _ _,.not _,h | .bin _ _ _,.pick _ _ _,h | .bin _ _ _,.part _ _ _,h=>by simp[Tm.D]at h
 |.pick _ _ _,.num _ _,h | .pick _ _ _,.box _,h | .pick _ _ _,.late _,h | .pick _ _ _,.door _,h | .pick _ _ _,.not _,h | .pick _ _ _,.bin _ _ _,h=>by simp[Tm.D]at h
 |.pick _ _ _,.part _ _ _,h=>by simp[Tm.D]at h;exact absurd h.1 (by nofun)
 |.part _ _ _,.num _ _,h | .part _ _ _,.box _,h | .part _ _ _,.late _,h | .part _ _ _,.door _,h | .part _ _ _,.not _,h | .part _ _ _,.bin _ _ _,h=>by simp[Tm.D]at h
 |.part _ _ _,.pick _ _ _,h=>by simp[Tm.D]at h;exact absurd h.1 (by nofun)
open Classical in
noncomputable def Jc (x:D):Option Tm:=if h:∃t,t.D=x then some h.choose else none
def LX (t):Jc t.D=some t:=by
 have h:∃u:Tm,u.D=t.D:=⟨t,rfl⟩;unfold Jc;rw[dif_pos h,Tm.D_inj h.choose_spec]
def yw (h:Jc x=some t):x=t.D:=by
 unfold Jc at h;split at h
 .next e=>cases h;exact e.choose_spec.symm
 .cases h
def OO {x:D}{k:Tm->Prop}(h:Cw (Jc x) k):∃t,x=t.D/\k t:=by
 obtain⟨t,e,q⟩:=Cm h;exact⟨t,yw e,q⟩
def Tm.deep_pos (t:Tm):1<=t.deep:=by cases t<;>simp[Tm.deep]
def Tm.deep_kid {t k:Tm}(h:k∈t.kids):k.deep+1<=t.deep:=by
 cases t<;>simp[Tm.kids]at h<;>simp only[Tm.deep]
 .subst h;ext
 .rcases h with rfl|rfl<;>ext
 .rcases h with rfl|rfl|rfl<;>ext
 .subst h;ext
noncomputable def Ff:List Tm->Nat
 |[]=>0
 |t::r=>t.parts+Ff r
noncomputable def FY:List Tm->Nat
 |[]=>0
 |t::r=>max t.deep (FY r)
theorem ic (t:Tm):∀l,Ff (l++[t])=Ff l+t.parts
 |[]=>by simp[Ff]
 |x::r=>by rw[EU,Ff,Ff,ic t r];ext
theorem gt (t:Tm):∀l,FY (l++[t])=max (FY l) t.deep
 |[]=>by simp[FY]
 |x::r=>by rw[EU,FY,FY,gt t r];ext
def Tm.parts_eq (t:Tm):t.parts=1+Ff t.kids:=by cases t<;>simp[Tm.parts,Tm.kids,Ff]<;>ext
def Tm.deep_eq (t:Tm):t.deep=FY t.kids+1:=by cases t<;>simp[Tm.deep,Tm.kids,FY]<;>ext
def gy (o:GA):RP.lookup o.nm=some 2:=by cases o<;>nofun
abbrev ZfN:DL:=λds M Q=>GH ds λx=>Cw (Jc x) λt=>Q (.tup (t.kids.map Tm.D)) M
def iK:Od T T.x6 1 ZfN:=by
 refine CB.p1 T.x6.d.F ["term"] λx M Q hr nN h1=>?_;obtain⟨t,rfl,q⟩:=OO h1;refine⟨_,qO (CA (Jf vD (qv 0) (UM Aj) (UM (BJ HN Aj (Bf (wJ T.T_HELD) (Rr T.m_HELD) 'b'))))),?_⟩;cases t<;>simp only[Tm.D]<;>dsimp![↓Xp,↓PM,↓uW,↓nW,not_false_eq_true,WO,qj,qk,qo,Y9,SG,false_and,ZgM,ZgN,ZfD,ZfE,gz,ZfB,ZfC]<;>(try simp only[gy])<;>(try simp![↓BS,WO,ql])<;>exact Dn.of q
abbrev iC (n:Nat)(ds:List D)(M:Mp)(Q:Ef):Prop:=GH ds λx=>Cw (Jc x) λt=>t.deep<=n/\Q (.tup [.int t.parts,.int t.deep]) M
def Zhs {n:Nat}(G_size_of:Od T T.x7 (n+3) (iC n)):Od T T.x7 (n+4) (iC (n+1)):=by
 refine CB.p1 T.x7.d.F ["T", "parts", "deepest", "inner", "size"] λx M Q hr nN h1=>?_;obtain⟨t,rfl,hd,q⟩:=OO h1;refine⟨_,qC (Cv 1 nN Aj) (qC (Cv 2 nN Aj) (EW (LL AK rfl (RN (BN (iK T) (qA (qv 0) qN))) (NO (i:=3) nN rfl (Cd rfl)) (qC (Cv 4 nN (BN G_size_of (qA (qv 3) qN))) (qC (Cv 1 nN (BJ HN (qv 1) (Bf BE (qv 4) Aj))) (qO (Cv 2 nN (B6 (tW rfl) T.B.max boot_max (qA (qv 2) (qA (Bf BE (qv 4) Aj) qN)))))))) (qO (CA (CJ (qA (qv 1) (qA (BJ HN (qv 2) Aj) qN))))))),?_⟩
 dsimp![↓Oy]
 refine⟨λτ M'=>M'=M/\∃v3 v4,τ=[some t.D,some (.int t.parts),some (.int (t.deep-1)),v3,v4],?_,?_⟩
 .simp![LX]
  refine⟨λk τ M'=>M'=M/\∃v3 v4,τ=[some t.D,some (.int (1+Ff (t.kids.take k):Nat)),some (.int (FY (t.kids.take k):Nat)),v3,v4],⟨rfl,none,none,rfl⟩,λ_ _ _ _=>trivial,?_,?_⟩
  .intro k y τ M' hy;ext1⟨e1',v3,v4,e2'⟩;obtain⟨u,hu,rfl⟩:=Nt hy;have du:=Tm.deep_kid (AB hu);have e1:t.kids.take (k+1)=t.kids.take k++[u]:=by rw[Bb,hu];rfl
   simp![↓Oy,↓Oz,LX]
   rw[e1,ic,gt];refine⟨by ext,?_⟩;walk_at "eq";exact⟨by ext,by split<;>ext⟩
  .intro τ M';ext1⟨e1',v3,v4,e2'⟩;refine⟨rfl,v3,v4,?_⟩;rw[Ab,Bm,<- Tm.parts_eq];have:=Tm.deep_eq t;congr 4
   simp only[D.int.injEq,IA];ext
 .intro τ M';ext1⟨e1',v3,v4,e2'⟩;grind;rw[show(t.deep:Int)-1+1=t.deep by ext];exact Dn.of q
theorem dm (T:Tv P w K mg base):∀n,Od T T.x7 (n+3) (iC n)
 |0=>by
  have no:∀ds M Q,¬iC 0 ds M Q:=λds M Q h=>by
   obtain⟨x,rfl,h1⟩:=GV h;obtain⟨t,rfl,hd,q⟩:=OO h1;have:=t.deep_pos;ext
  exact XE no
 |n+1=>Zhs T (dm T n)
abbrev ZfR:DL:=λds M Q=>Js ds λx y z=>Fb x λlo=>Fb y λmany=>Fb z λw=>(0<=lo/\1<=many/\lo+many<=w)/\Q .non M
def Zgj:Od T T.x13 1 ZfR:=by
 refine CB.p3 T.x13.d.F ["low", "many", "width"] λx y z M Q hr nN h1=>?_;obtain⟨lo,rfl,h2⟩:=C3 h1;obtain⟨many,rfl,h3⟩:=C3 h2;obtain⟨wd,e1',⟨a1,a2,a3⟩,q⟩:_:=C3 h3;refine⟨_,qO (Ew ((W6 (AV Kz (qv 0) Aj) (W6 (AV Kz (qv 1) Aj) (aH (AV LJ (BJ HN (qv 0) (qv 1)) (qv 2)))))).pt (qO P5) qE),?_⟩
 dsimp![↓Sq]
 refine Cj (λc=>?_) λc=>Cj (λc=>?_) λc=>Cj (λc=>?_) λc=>Dn.of q
 .ext
 .ext
 .ext
abbrev ZfV:DL:=λds M Q=>GH ds λx=>Fb x λw=>w<=64/\Q .non M
def Zgk:Od T T.x14 1 ZfV:=by
 refine CB.p1 T.x14.d.F ["width"] λx M Q hr nN h1=>?_;obtain⟨wd,rfl,a1,q⟩:=C3 h1;refine⟨_,qO (Ew (AV LJ (qv 0) (IP T.m_WIDEST)) (qO P5) qE),?_⟩
 dsimp![↓Sq]
 refine Cj (λc=>?_) λc=>Dn.of q;ext
abbrev ZfU:DL:=λds M Q=>FW ds λx y=>Fb x λw=>Fb y λv=>w=v/\Q .non M
def bL:Od T T.x15 1 ZfU:=by
 refine CB.p2 T.x15.d.F ["width", "other"] λx y M Q hr nN h1=>?_;obtain⟨wd,rfl,h2⟩:=C3 h1;obtain⟨v,rfl,e,q⟩:=C3 h2;subst e;refine⟨_,qO (Ew (AV ZC (qv 0) (qv 1)) (qO P5) qE),?_⟩
 dsimp![↓uJ]
 exact Dn.of q
noncomputable def l1 (f:Int->Option Int)(l:List Int):Option Int:=if l.length=1 then f (l.headD 0)else none
noncomputable def l2 (f:Int->Int->Option Int)(l:List Int):Option Int:=if l.length=2 then f (l.headD 0) (l.tail.headD 0)else none
noncomputable def l3 (f:Int->Int->Int->Option Int)(l:List Int):Option Int:=if l.length=3 then f (l.headD 0) (l.tail.headD 0) (l.tail.tail.headD 0)else none
@[simp] theorem ZK :l1 f [a]=f a:=rfl
@[simp] theorem ZJ :l2 f [a,b]=f a b:=rfl
@[simp] theorem ZI :l3 f [a,b,c]=f a b c:=rfl
noncomputable def GA.ov (o:GA)(a b:Int):Option Int:=if o.nm = "join" then(if a+b<=64 then some (a+b)else none)else if a=b then some (if o.nm = "less"\/o.nm = "same" then 1 else a)else none
@[simp] theorem yO :GA.ov .join a b=if a+b<=64 then some (a+b)else none:=rfl
@[simp] theorem yP :GA.ov .less a b=if a=b then some 1 else none:=rfl
@[simp] theorem yQ :GA.ov .same a b=if a=b then some 1 else none:=rfl
def k9 {o:GA}{a b:Int}(h1:o≠.join)(h2:o≠.less)(h3:o≠.same):o.ov a b=if a=b then some a else none:=by
 cases o<;>first | rfl | exact absurd rfl h1 | exact absurd rfl h2 | exact absurd rfl h3
@[simp] theorem ZtL :GA.ov .and a b=if a=b then some a else none:=rfl
@[simp] theorem ZtM :GA.ov .or a b=if a=b then some a else none:=rfl
@[simp] theorem ZtK :GA.ov .xor a b=if a=b then some a else none:=rfl
@[simp] theorem Ztr :GA.ov .plus a b=if a=b then some a else none:=rfl
@[simp] theorem ZsT :GA.ov .minus a b=if a=b then some a else none:=rfl
noncomputable def Tm.over:Tm->List Int->Option Int
 |.not _=>l1 some
 |.bin o _ _=>l2 o.ov
 |.pick _ _ _=>l3 λc a b=>if c=1/\a=b then some a else none
 |.part _ lo many=>l1 λa=>if 0<=lo/\1<=many/\lo+many<=a then some many else none
 |.num _ _=>λ_=>none
 |.box _=>λ_=>none
 |.late _=>λ_=>none
 |.door _=>λ_=>none
def qQ {t u:Tm}{a b w:Int}(h:(Tm.bin .join t u).over [a,b]=some w):a+b<=64/\w=a+b:=by
 simp[Tm.over]at h;ext
def aY {o:GA}{t u:Tm}{a b w:Int}(ho:o=.less\/o=.same)(h:(Tm.bin o t u).over [a,b]=some w):a=b/\w=1:=by
 rcases ho with rfl|rfl<;>simp[Tm.over]at h<;>ext
def V6 {o:GA}{t u:Tm}{a b w:Int}(h1:o≠.join)(h2:o≠.less)(h3:o≠.same)(h:(Tm.bin o t u).over [a,b]=some w):a=b/\w=a:=by
 simp[Tm.over,k9 h1 h2 h3]at h;ext
def qR {c t u:Tm}{d a b w:Int}(h:(Tm.pick c t u).over [d,a,b]=some w):d=1/\a=b/\w=a:=by
 simp[Tm.over]at h;ext
def gU {t:Tm}{lo many a w:Int}(h:(Tm.part t lo many).over [a]=some w):(0<=lo/\1<=many/\lo+many<=a)/\w=many:=by
 simp[Tm.over]at h;ext
def eW {p:Prop}[Decidable p]{x:Option Int}{w:Int}(h:(if p then x else none)=some w):p:=Classical.byContradiction λc=>by rw[if_neg c]at h;cases h
def Tm.over_len {t:Tm}{ws:List Int}{w:Int}(h:t.over ws=some w):ws.length=t.kids.length/\t.kids≠[]:=by
 cases t with
 |not _=>exact⟨eW h,λz=>nomatch z⟩
 |bin _ _ _=>exact⟨eW h,λz=>nomatch z⟩
 |pick _ _ _=>exact⟨eW h,λz=>nomatch z⟩
 |part _ _ _=>exact⟨eW h,λz=>nomatch z⟩
 |_=>cases h
def pO (o:GA):(o.nm = "part")=False:=eq_false GA.nm_ne.2.2.2.2.2.2
def pP (o:GA):(o.nm = "pick")=False:=eq_false GA.nm_ne.2.2.2.2.2.1
abbrev Zh5:DL:=λds M Q=>FW ds λx y=>Cw (Jc x) λt=>PR M y λws=>(t.over ws).isSome/\Q .non M
def ZhD:Od T T.x12 2 Zh5:=by
 refine CB.p2 T.x12.d.F ["term", "widths", "form"] λx y M Q hr nN h1=>?_;obtain⟨t,rfl,h2⟩:=OO h1;obtain⟨ws,hl,hs,ho,q⟩:_:=nO h2;obtain⟨w,hw⟩:=LO.mp ho;obtain⟨hz,hne⟩:=Tm.over_len hw;refine⟨_,qC (Cv 2 nN 'b') (qO (Ew (AV CP (qv 2) BZ) (qO (Fh (BN (Zgj T) (qA 'b' (qA 'b' (qA (Bf Ii (qv 1) Aj) qN)))))) (qO (Ew (AV CP (qv 2) BZ) (qO (Fh (BN (Zgk T) (qA (BJ HN (Bf Ii (qv 1) Aj) (Bf Ii (qv 1) Aj)) qN)))) (qO (Ew (AV CP (qv 2) BZ) (qC (Fh (BN (bL T) (qA (Bf Ii (qv 1) Aj) (qA Aj qN)))) (qO (Fh (BN (bL T) (qA (Bf Ii (qv 1) Aj) (qA (Bf Ii (qv 1) Aj) qN)))))) (qO (Ew (AV CP (Bf (wJ T.T_HELD) (Rr T.m_HELD) (qv 2)) Aj) (qO (Fh (BN (bL T) (qA (Bf Ii (qv 1) Aj) (qA (Bf Ii (qv 1) Aj) qN))))) qE)))))))),?_⟩;cases t with
 |num _ _=>exact absurd rfl hne
 |box _=>exact absurd rfl hne
 |late _=>exact absurd rfl hne
 |door _=>exact absurd rfl hne
 |not t=>
  simp only[Tm.D]
  dsimp![↓nW,Of,gz,fo,fj,fq]
  exact Dn.of q
 |bin o t u=>
  obtain⟨a,b,rfl⟩:∃a b,ws=[a,b]:=by
   match ws,hz with
   |[a,b],_=>exact⟨a,b,rfl⟩
  simp only[Tm.D]
  dsimp![↓nW,gy,pO,pP]
  simp only[hl,AU,DB];simp![↓BS]
  refine Cj (λc=>?_) λc=>?_
  .cases GA.nm_inj (b:=.join) c;exact⟨(qQ hw).1,Dn.of q⟩
  .have cj:o≠.join:=λe=>c (by rw[e];rfl);refine⟨?_,Dn.of q⟩;by_cases c1:o=.less\/o=.same
   .exact(aY c1 hw).1
   .exact(V6 cj (λe=>c1 (.inl e)) (λe=>c1 (.inr e)) hw).1
 |pick c t u=>
  obtain⟨d,a,b,rfl⟩:∃d a b,ws=[d,a,b]:=by
   match ws,hz with
   |[d,a,b],_=>exact⟨d,a,b,rfl⟩
  obtain⟨e1,e2,rfl⟩:=qR hw;simp only[Tm.D]
  dsimp![↓W2,gr,ZhL]
  simp only[hl,AU,DB];simp![↓BS]
  exact⟨e1,e2,Dn.of q⟩
 |part t lo many=>
  obtain⟨a,rfl⟩:∃a,ws=[a]:=by
   match ws,hz with
   |[a],_=>exact⟨a,rfl⟩
  obtain⟨e1,rfl⟩:=gU hw;simp only[Tm.D]
  dsimp![↓W2]
  simp only[hl,AU,DB];simp![↓BS]
  exact⟨e1,Dn.of q⟩
abbrev ZfH:DL:=λds M Q=>FW ds λx y=>Cw (Jc x) λt=>PR M y λws=>Cw (t.over ws) λw=>Q (.int w) M
def Zgd:Od T T.x16 1 ZfH:=by
 refine CB.p2 T.x16.d.F ["term", "widths", "form"] λx y M Q hr nN h1=>?_;obtain⟨t,rfl,h2⟩:=OO h1;obtain⟨ws,hl,hs,ho⟩:=nO h2;obtain⟨w,hw,q⟩:=Cm ho;obtain⟨hz,hne⟩:=Tm.over_len hw;refine⟨_,qC (Cv 2 nN 'b') (qC (Ew ((W6 (AV CP (qv 2) BZ) (aH (AV CP (qv 2) BZ)))).pt (qO (CA Aj)) qE) (qC (Ew (AV CP (qv 2) BZ) (qO (CA (Bf Ii (qv 1) Aj))) qE) (qC (Ew (AV CP (qv 2) BZ) (qO (CA (BJ HN (Bf Ii (qv 1) Aj) (Bf Ii (qv 1) Aj)))) qE) (qC (Ew (AV CP (qv 2) BZ) (qO (CA 'b')) qE) (qO (CA (Bf Ii (qv 1) Aj))))))),?_⟩;cases t with
 |num _ _=>exact absurd rfl hne
 |box _=>exact absurd rfl hne
 |late _=>exact absurd rfl hne
 |door _=>exact absurd rfl hne
 |not t=>
  obtain⟨a,rfl⟩:∃a,ws=[a]:=by
   match ws,hz with
   |[a],_=>exact⟨a,rfl⟩
  have e:a=w:=by simpa[Tm.over]using hw
  subst e;simp only[Tm.D]
  dsimp![fo,fj,fq,Zj2,Zj1]
  simp only[hl,AU,DB];simp![↓BS]
  exact Dn.of q
 |bin o t u=>
  obtain⟨a,b,rfl⟩:∃a b,ws=[a,b]:=by
   match ws,hz with
   |[a,b],_=>exact⟨a,b,rfl⟩
  simp only[Tm.D]
  dsimp![pO,pP]
  simp only[hl,AU,DB];simp![↓BS]
  refine Cj (λc=>?_) λc=>Cj (λc2=>?_) λc2=>Cj (λc3=>?_) λc3=>?_
  .cases GA.nm_inj (b:=.less) c;cases(aY (.inl rfl) hw).2;exact Dn.of q
  .cases GA.nm_inj (b:=.same) c2;cases(aY (.inr rfl) hw).2;exact Dn.of q
  .cases GA.nm_inj (b:=.join) c3;cases(qQ hw).2;exact Dn.of q
  .cases(V6 (λe=>c3 (by rw[e];rfl)) (λe=>c (by rw[e];rfl)) (λe=>c2 (by rw[e];rfl)) hw).2;exact Dn.of q
 |pick c t u=>
  obtain⟨d,a,b,rfl⟩:∃d a b,ws=[d,a,b]:=by
   match ws,hz with
   |[d,a,b],_=>exact⟨d,a,b,rfl⟩
  obtain⟨e1,e2,rfl⟩:=qR hw;simp only[Tm.D]
  dsimp![↓W2,ZhK,ZhJ]
  simp only[hl,AU,DB];simp![↓BS]
  exact Dn.of q
 |part t lo many=>
  obtain⟨a,rfl⟩:∃a,ws=[a]:=by
   match ws,hz with
   |[a],_=>exact⟨a,rfl⟩
  obtain⟨e1,rfl⟩:=gU hw;simp only[Tm.D]
  dsimp![↓W2,ZhP,ZhN,ZhO,ZhM]
  exact Dn.of q
abbrev ZeE:DL:=λds M Q=>FW ds λx y=>Fb x λw=>Fb y λn=>(1<=w/\w<=64/\0<=n/\n<2^w.toNat)/\Q (.int w) M
def ZeT:Od T T.x10 3 ZeE:=by
 refine CB.p2 T.x10.d.F ["width", "word"] λx y M Q hr nN h1=>?_;obtain⟨wd,rfl,h2⟩:=C3 h1;obtain⟨n,e1',⟨a1,a2,a3,a4⟩,q⟩:_:=C3 h2;refine⟨_,qC (Fh (BN (rF T) (qA (qv 0) qN))) (qC (Fh (BN (ir T) (qA (qv 0) (qA (qv 1) qN)))) (qO (CA (qv 0)))),?_⟩;right;refine⟨⟨a1,a2⟩,⟨a1,a3,a4⟩,?_⟩;exact Dn.of q
noncomputable def Fv (ws:List (Str×Int)):List (Ck×D):=ws.map λp=>(.inr p.1,.int p.2)
noncomputable def Nc:List (Ck×D)->Option (List (Str×Int))
 |[]=>some []
 |(.inr z,.int n)::r=>(Nc r).map ((z,n)::·)
 |_::_=>none
theorem oU:∀ws,Nc (Fv ws)=some ws
 |[]=>rfl
 |(z,n)::r=>by
  show(Nc (Fv r)).map ((z,n)::·)=_;rw[oU r];rfl
theorem pL:∀{AG:List (Ck×D)}{ws:List (Str×Int)},Nc AG=some ws->AG=Fv ws
 |[],ws,h=>by cases h;rfl
 |(.inr z,.int n)::r,ws,h=>by
  change(Nc r).map ((z,n)::·)=_ at h;cases e:Nc r with
  |none=>rw[e]at h;cases h
  |some us=>rw[e]at h;cases h;rw[pL e];rfl
 |(.inl z,_)::r,ws,h=>by cases h
 |(.inr z,.str _)::r,ws,h=>by cases h
 |(.inr z,.bl _)::r,ws,h=>by cases h
 |(.inr z,.non)::r,ws,h=>by cases h
 |(.inr z,.tup _)::r,ws,h=>by cases h
 |(.inr z,.lst _)::r,ws,h=>by cases h
 |(.inr z,.dic _)::r,ws,h=>by cases h
 |(.inr z,.ref _)::r,ws,h=>by cases h
theorem pK (z:Str):∀ws,DA (Fv ws) (.inr z)=(ws.lookup z).map D.int
 |[]=>rfl
 |(y,n)::r=>by
  by_cases h:y=z
  .subst h;simp[DA,Fv,BL]
  .have h2:(z == y)=false:=by simpa using λe=>h e.symm
   have h3:DA (Fv ((y,n)::r)) (.inr z)=DA (Fv r) (.inr z):=by simp[DA,Fv,Cy,h]
   rw[h3,pK z r,BL,h2]
def JZ (M:Mp)(x:D)(k:List (Str×Int)->Prop):Prop:=Cw (E6 M x) λAG=>Cw (Nc AG) k
def VP {M:Mp}{x:D}{k:List (Str×Int)->Prop}(h:JZ M x k):∃ws,E6 M x=some (Fv ws)/\k ws:=by
 obtain⟨AG,e,h1⟩:=Cm h;obtain⟨ws,e2,q⟩:=Cm h1;rw[pL e2]at e;exact⟨ws,e,q⟩
def aE {M:Mp}{x:D}{ws:List (Str×Int)}{k:List (Str×Int)->Prop}(e:E6 M x=some (Fv ws)):JZ M x k=k ws:=by unfold JZ;rw[e,BS,oU,BS]
def yB :JZ M (.dic (Fv ws)) k=k ws:=aE rfl
abbrev ZeC:DL:=λds M Q=>FW ds λx y=>JZ M x λws=>GG y λz=>Cw (ws.lookup z) λn=>Q (.int n) M
def rG:Od T T.x11 1 ZeC:=by
 refine CB.p2 T.x11.d.F ["widths", "name"] λx y M Q hr nN h1=>?_;obtain⟨ws,hx,h2⟩:=VP h1;obtain⟨z,rfl,h3⟩:=Ea h2;obtain⟨n,hz,q⟩:=Cm h3;refine⟨_,qC (Ew (AV (ψ (KL hr)) (qv 1) (qv 0) (by with_unfolding_all rfl)) (qO P5) qE) (qO (CA (FV (KL hr) (qv 0) (qv 1) (λ_ _=>rfl)))),?_⟩
 dsimp![↓Sq,↓uH]
 simp only[hx,BS,oI,pK,hz,FH,O0,if_true,JA,Gi,if_false];exact Dn.of q
inductive Wd (bs ds:List (Str×Int)):Tm->Int->Prop
 |num {w n:Int}:(1<=w/\w<=64/\0<=n/\n<2^w.toNat)->Wd bs ds (.num w n) w
 |box {x:Str} {w:Int}:bs.lookup x=some w->Wd bs ds (.box x) w
 |late {x:Str} {w:Int}:bs.lookup x=some w->Wd bs ds (.late x) w
 |door {x:Str} {w:Int}:ds.lookup x=some w->Wd bs ds (.door x) w
 |over {t:Tm} {ws:List Int} {w:Int}:(∀(i:Nat) (k:Tm) (a:Int),t.kids[i]? = some k->ws[i]? = some a->Wd bs ds k a)->t.over ws=some w->Wd bs ds t w
noncomputable def Tm.form:Tm->Str
 |.num _ _=>"num" |.box _=>"box" |.late _=>"late" |.door _=>"door" |.not _=>"not" |.bin o _ _=>o.nm | .pick _ _ _=>"pick" |.part _ _ _=>"part"
def fE (t:Tm){M:Mp}{Q:Ef}:Mq t.D (.int 0) M Q=Q (.str t.form) M:=by cases t<;>rfl
def Tm.form_ne {t:Tm}(h:t.kids≠[]):t.form≠"num"/\t.form≠"box"/\t.form≠"late"/\t.form≠"door":=by
 cases t with
 |num _ _=>exact absurd rfl h
 |box _=>exact absurd rfl h
 |late _=>exact absurd rfl h
 |door _=>exact absurd rfl h
 |bin o _ _=>exact⟨GA.nm_ne.1,GA.nm_ne.2.1,GA.nm_ne.2.2.1,GA.nm_ne.2.2.2.1⟩
 |_=>refine⟨?_,?_,?_,?_⟩<;>dsimp only[Tm.form]<;>nofun
def Tm.kids_le (t:Tm):t.kids.length<=3:=by cases t<;>simp[Tm.kids]
abbrev iH (n:Nat)(ds:List D)(M:Mp)(Q:Ef):Prop:=Js ds λx y z=>Cw (Jc x) λt=>JZ M y λbs=>JZ M z λds=>t.deep<=n/\∃w,Wd bs ds t w/\Q (.int w) M
def ZdU {n:Nat}(G_checked_width:Od T T.x9 (n+4) (iH n)):Od T T.x9 (n+5) (iH (n+1)):=by
 refine CB.p3 T.x9.d.F ["term", "boxes", "doors", "form", "widths"] λx y z M Q hr nN h1=>?_;obtain⟨t,rfl,h2⟩:=OO h1;obtain⟨bs,hb,h3⟩:=VP h2;obtain⟨ds,hd,hn,wd,hw,q⟩:_:=VP h3;have bW:∀{k:List (Str×Int)->Prop},JZ M y k=k bs:=aE hb;have dW:∀{k:List (Str×Int)->Prop},JZ M z k=k ds:=aE hd;refine⟨_,qC (Cv 3 nN 'b') (qC (Ew (AV CP (qv 3) BZ) (qO (CA (BN (ZeT T) (qA 'b' (qA 'b' qN))))) qE) (qC (Ew ((W6 (AV CP (qv 3) BZ) (aH (AV CP (qv 3) BZ)))).pt (qO (CA (BN (rG T) (qA (qv 1) (qA 'b' qN))))) qE) (qC (Ew (AV CP (qv 3) BZ) (qO (CA (BN (rG T) (qA (qv 2) (qA 'b' qN))))) qE) (qC (yZ (caps:=[("boxes",1),("doors",2)]) (i:=4) nN rfl rfl ⟨rfl,by rfl,by rfl,by rfl,rfl,by rfl,by nofun⟩ rfl (RN (BN (iK T) (qA (qv 0) qN))) (λ_ _ _ _ _ _=>(BN G_checked_width (qA (qv 0) (qA (qv 1) (qA (qv 2) qN)))))) (qC (Fh (BN (ZhD T) (qA (qv 0) (qA (qv 4) qN)))) (qO (CA (BN (Zgd T) (qA (qv 0) (qA (qv 4) qN)))))))))),?_⟩;cases hw with
 |num a=>simp only[Tm.D];right;exact⟨a,Dn.of q⟩
 |box a=>
  simp only[Tm.D]
  dsimp![c9]
  simp only[bW,a,BS,eO];exact Dn.of q
 |late a=>
  simp only[Tm.D]
  dsimp![fi,fh]
  simp only[bW,a,BS,eO];exact Dn.of q
 |door a=>
  simp only[Tm.D]
  dsimp![fg,fe,gq]
  simp only[dW,a,BS,eO];exact Dn.of q
 | @over _ ws _ kid ho=>
  obtain⟨hz,hne⟩:=Tm.over_len ho;obtain⟨n1,n2,n3,n4⟩:=Tm.form_ne hne;have n1':=eq_false n1;have n2':=eq_false n2;have n3':=eq_false n3;have n4':=eq_false n4
  dsimp![LX,fE]
  simp only[fE,n1',n2',n3',n4'];grind;refine⟨GS (by rw[Ab,<- hz];have:=Tm.kids_le t;ext),λi ys M'=>M'=M/\ys=(ws.take i).map D.int,⟨rfl,rfl⟩,?_,?_,?_⟩
  .rintro i ys M' ⟨rfl,rfl⟩;exact⟨trivial,by rw[Ab,A3];ext⟩
  .rintro i x ys M' hx ⟨rfl,rfl⟩;obtain⟨k,hk,rfl⟩:=Nt hx;have hi:i<ws.length:=by rw[hz];exact(Ah.mp hk).1
   have hwi:ws[i]? = some ws[i]:=Af hi;have dk:=Tm.deep_kid (AB hk)
   simp_all![↓oJ,LX]
   simp only[bW,dW];refine⟨by ext,ws[i],kid i k _ hk hwi,?_⟩;rw[Bb,hwi,AJ];rfl
  .rintro ys M' ⟨rfl,rfl⟩;rw[Ab,<- hz,Bm];simp![↓Xx]
   simp only[ho];exact⟨rfl,Dn.of q⟩
theorem i5 (T:Tv P w K mg base):∀n,Od T T.x9 (n+4) (iH n)
 |0=>by
  have no:∀ds M Q,¬iH 0 ds M Q:=λds M Q h=>by
   obtain⟨x,y,z,e1',h1⟩:_:=Tb h;obtain⟨t,rfl,h2⟩:=OO h1;obtain⟨bs,hb,h3⟩:=VP h2;obtain⟨ds,hd,hn,_⟩:=VP h3;have:=t.deep_pos;ext
  exact XE no
 |n+1=>ZdU T (i5 T n)
abbrev Ziq:DL:=λds M Q=>Js ds λx y z=>Cw (Jc x) λt=>JZ M y λbs=>JZ M z λds=>(t.parts<=100/\t.deep<=12)/\∃w,Wd bs ds t w/\Q (.int w) M
def gm:Od T T.x8 17 Ziq:=by
 refine CB.p3 T.x8.d.F ["T", "boxes", "doors", "size"] λx y z M Q hr nN h1=>?_;obtain⟨t,rfl,h2⟩:=OO h1;obtain⟨bs,hb,h3⟩:=VP h2;obtain⟨ds,hd,⟨hp,hn⟩,wd,hw,q⟩:_:=VP h3;have bW:∀{k:List (Str×Int)->Prop},JZ M y k=k bs:=aE hb;have dW:∀{k:List (Str×Int)->Prop},JZ M z k=k ds:=aE hd;refine⟨_,qC (Cv 3 nN (BN (dm T 12) (qA (qv 0) qN))) (qC (Ew (AV LJ (Bf BE (qv 3) Aj) (IP T.m_MOST_PARTS)) (qO P5) qE) (qC (Ew (AV LJ (Bf BE (qv 3) Aj) (IP T.m_MOST_DEEP)) (qO P5) qE) (qO (CA (BN (i5 T 12) (qA (qv 0) (qA (qv 1) (qA (qv 2) qN)))))))),?_⟩
 dsimp![↓Sq,LX]
 refine⟨hn,Cj (λc=>by ext) λc=>Cj (λc=>by ext) λc2=>?_⟩;simp only[bW,dW];exact⟨hn,wd,hw,Dn.of q⟩
noncomputable def Tm.leaves:Tm->List Tm
 |.not t=>t.leaves
 |.bin _ t u=>t.leaves++u.leaves
 |.pick c t u=>c.leaves++t.leaves++u.leaves
 |.part t _ _=>t.leaves
 |t=>[t]
noncomputable def Cf:List Tm->List Tm
 |[]=>[]
 |t::r=>t.leaves++Cf r
theorem rE (t:Tm):∀l:List Tm,Cf (l++[t])=Cf l++t.leaves
 |[]=>by simp[Cf]
 |x::r=>by rw[EU,Cf,Cf,rE t r,Bv]
theorem i4:∀a b:List Tm,Cf (a++b)=Cf a++Cf b
 |[],b=>rfl
 |x::r,b=>by rw[EU,Cf,Cf,i4 r b,Bv]
def Tm.parts_of_kid {t k:Tm}(h:k∈t.kids):k.parts+1<=t.parts:=by
 cases t<;>simp[Tm.kids]at h<;>simp only[Tm.parts]
 .subst h;ext
 .rcases h with rfl|rfl<;>ext
 .rcases h with rfl|rfl|rfl<;>ext
 .subst h;ext
def Tm.leaves_eq {t:Tm}(h:t.kids≠[]):t.leaves=Cf t.kids:=by
 cases t<;>first | exact absurd rfl h | simp[Tm.leaves,Tm.kids,Cf]
def Tm.leaves_leaf {t:Tm}(h:t.kids=[]):t.leaves=[t]:=by
 cases t<;>first | rfl | exact absurd h (by simp[Tm.kids])
theorem Tm.leaves_len:∀t:Tm,t.leaves.length<=t.parts
 |.not t=>by have:=t.leaves_len;simp only[Tm.leaves,Tm.parts];ext
 |.bin _ t u=>by have:=t.leaves_len;have:=u.leaves_len;simp only[Tm.leaves,Tm.parts,Aq];ext
 |.pick c t u=>by have:=c.leaves_len;have:=t.leaves_len;have:=u.leaves_len;simp only[Tm.leaves,Tm.parts,Aq];ext
 |.part t _ _=>by have:=t.leaves_len;simp only[Tm.leaves,Tm.parts];ext
 |.num _ _ | .box _ | .late _ | .door _=>by simp[Tm.leaves,Tm.parts]
abbrev iG (n:Nat)(ds:List D)(M:Mp)(Q:Ef):Prop:=GH ds λx=>Cw (Jc x) λt=>t.deep<=n/\t.parts<=1000/\∀p,M p=none->Q (.ref p) (put M p (.lst (t.leaves.map Tm.D)))
def ZeS {n:Nat}(G_leaves_of:Od T T.x18 (n+3) (iG n)):Od T T.x18 (n+4) (iG (n+1)):=by
 refine CB.p1 T.x18.d.F ["term", "inner_terms", "leaves", "inner"] λx M Q hr nN h1=>?_;obtain⟨t,e1',hd,hp,q⟩:_:=OO h1;refine⟨_,qC (Cv 1 nN (BN (iK T) (qA (qv 0) qN))) (qC (Ew (AV CP (B6 K6 T.B.len B8 (qA (qv 1) qN)) Aj) (qO (CA (Jg (qA (qv 0) qN)))) qE) (qC (Cv 2 nN (Jg qN)) (EW (LL AK rfl (RN (qv 1)) (NO (i:=3) nN rfl (Cd rfl)) (qO (Fh (Kn AN CD CC Tu (qv 2) (qA (KZ (BN G_leaves_of (qA (qv 3) qN))) qN))))) (qO (CA (qv 2)))))),?_⟩
 dsimp![↓Oy,↓nV,LX]
 by_cases hk:t.kids=[]
 .rw[hk,if_pos 'f'];rw[Tm.leaves_leaf hk]at q;intro p hp;exact Dn.of (q p hp)
 rw[if_neg (by simpa using hk)];intro p hM;have hl:=t.leaves_len;rw[Tm.leaves_eq hk]at q hl;refine⟨λτ M'=>M'=put M p (.lst ((Cf t.kids).map Tm.D))/\∃v3,τ=[some t.D,some (.tup (t.kids.map Tm.D)),some (.ref p),v3],?_,?_⟩
 .grind;refine⟨λk τ M'=>M'=put M p (.lst ((Cf (t.kids.take k)).map Tm.D))/\∃v3,τ=[some t.D,some (.tup (t.kids.map Tm.D)),some (.ref p),v3],⟨rfl,none,rfl⟩,λ_ _ _ _=>trivial,?_,?_⟩
  .rintro k y τ M' hy ⟨rfl,v3,rfl⟩;obtain⟨u,hu,rfl⟩:=Nt hy;have du:=Tm.deep_kid (AB hu);have e1:t.kids.take (k+1)=t.kids.take k++[u]:=by rw[Bb,hu];rfl
   simp![↓Oz,↓So,LX]
   have pu:=Tm.parts_of_kid (AB hu);refine⟨by ext,by ext,λp1 hp1=>?_⟩
   have e2:Cf t.kids=Cf (t.kids.take k)++u.leaves++Cf (t.kids.drop (k+1)):=by
    rw[<- rE,<- e1,<- i4,Fx]
   rw[e2]at hl;simp only[Aq]at hl;rw[Di];dsimp only;rw[UL hp1,nT];refine⟨by rw[Ab,Ab];exact GS (by ext),?_,_,rfl⟩;rw[e1,rE,AJ]
  .rintro τ M' ⟨rfl,v3,rfl⟩;refine⟨?_,v3,rfl⟩;rw[Ab,Bm]
 .rintro τ M' ⟨rfl,v3,rfl⟩;grind;exact Dn.of (q p hM)
theorem gx (T:Tv P w K mg base):∀n:Nat,Od T T.x18 (n+3) (iG n)
 |0=>by
  have no:∀ds M Q,¬iG 0 ds M Q:=λds M Q h=>by
   obtain⟨x,rfl,h1⟩:=GV h;obtain⟨t,e1',hd,hp,q⟩:_:=OO h1;have:=t.deep_pos;ext
  exact XE no
 |n+1=>ZeS T (gx T n)
def Ev.fil {α:Type}{ks:List α}{g:α->D}{f:α->Option D}{S:Mp->Prop}{caps:List (Str×Nat)}{tt:Lj}{te:DZ}{τ:GK}{M:Mp}{Q:List D->Mp->Prop}(hz:ks.length<=An)(hS:S M)
  (h:∀k∈ks,∀R:Bool->Mp->Prop,R (f k).isSome M->tt (MC τ caps (some (g k))) M R) (h2:∀k∈ks,∀d,f k=some d->∀R:Ef,R d M->te (MC τ caps (some (g k))) M R) (q:Q (ks.filterMap f) M):Ev (ks.map g) S caps tt te τ M Q:=by
 refine⟨by rw[Ab];exact hz,λi ys M'=>M'=M/\ys=(ks.take i).filterMap f,⟨rfl,rfl⟩,?_,?_,?_⟩
 .rintro i ys M' ⟨rfl,rfl⟩;exact⟨hS,A4 (D3 _ _) (by rw[A3];ext)⟩
 .rintro i x ys M' hx ⟨rfl,rfl⟩;rw[AI]at hx;cases e:ks[i]? with
  |none=>rw[e]at hx;cases hx
  |some k=>
   rw[e]at hx;cases hx;have et:ks.take (i+1)=ks.take i++[k]:=by rw[Bb,e];rfl
   refine h k (AB e) _ ?_;cases fk:f k with
   |none=>rw[if_neg 'f'];refine⟨rfl,?_⟩;rw[et,Io];simp[fk]
   |some d=>rw[if_pos (by rfl)];refine h2 k (AB e) d fk _ ⟨rfl,?_⟩;rw[et,Io];simp[fk]
 .rintro ys M' ⟨rfl,rfl⟩;rw[Ab,Bm];exact q
def fu:((Al "box":Str)=Al "late")=False:=eq_false 'k'
def qU:((Al "box":Str)=Al "door")=False:=eq_false 'k'
def df:((Al "box":Str)=Al "num")=False:=eq_false 'k'
def fw:((Al "late":Str)=Al "box")=False:=eq_false 'k'
def rJ:((Al "late":Str)=Al "door")=False:=eq_false 'k'
def ga:((Al "late":Str)=Al "num")=False:=eq_false 'k'
def qV:((Al "door":Str)=Al "box")=False:=eq_false 'k'
def rH:((Al "door":Str)=Al "late")=False:=eq_false 'k'
def fv:((Al "door":Str)=Al "num")=False:=eq_false 'k'
def dg:((Al "num":Str)=Al "box")=False:=eq_false 'k'
def gf:((Al "num":Str)=Al "late")=False:=eq_false 'k'
def gc:((Al "num":Str)=Al "door")=False:=eq_false 'k'
noncomputable def Tm.nameOf (form:Str):Tm->Option Str
 |.box x=>if form = "box" then some x else none
 |.late x=>if form = "late" then some x else none
 |.door x=>if form = "door" then some x else none
 |_=>none
theorem P6:∀ss:List Str,EG (ss.map D.str)=some ss
 |[]=>rfl
 |s::ss=>by rw[AU,EG,P6 ss];rfl
def Ik (f:Str):Prop:=f = "box"\/f = "late"\/f = "door"
abbrev Ziu:DL:=λds M Q=>FW ds λx f=>∃ls:List Tm,(∀l∈ls,l.kids=[])/\x=.lst (ls.map Tm.D)/\ls.length<=1000/\GG f λform=>Ik form/\(fm (ls.filterMap (Tm.nameOf form))).length<64/\∀p,M p=none->Q (.ref p) (put M p (.lst ((Je (ls.filterMap (Tm.nameOf form))).map D.str)))
def qW:Od T T.x19 1 Ziu:=by
 refine CB.p2 T.x19.d.F ["leaves", "form"] λx f M Q hr nN h=>?_;obtain⟨ls,hk,e1',hl,h2⟩:_:=h;obtain⟨form,e1',hn,h64,q⟩:_:=Ea h2;refine⟨_,qO (CA (sR rfl T.B.sorted T.B.set (JH (caps:=[("form",1)]) ⟨rfl,by rfl,by rfl,by rfl,rfl,by rfl,by nofun⟩ rfl (J3 (qv 0)) (λ_ _ _ _ _ _=>'b') (λ_ _ _ _ _ _=>(AV CP 'b' (qv 1)))))),?_⟩
 dsimp![↓Zl]
 refine Ev.fil (f:=λl=>(Tm.nameOf form l).map D.str) (GS hl) trivial ?_ ?_ ?_
 .intro k hkm R hR;have hkk:=hk k hkm;cases k<;>(try (simp[Tm.kids]at hkk;done))
  all_goals
   simp only[Tm.D];walk_at "cap";rcases hn with rfl|rfl|rfl<;>simpa[Tm.nameOf,fu,qU,df,fw,rJ,ga,qV,rH,fv,dg,gf,gc]using hR
 .intro k hkm d hd R hR;have hkk:=hk k hkm;cases k<;>(try (simp[Tm.kids]at hkk;done))
  all_goals
   simp only[Tm.D];walk_at "cap";rcases hn with rfl|rfl|rfl<;>simp[Tm.nameOf,fu,qU,df,fw,rJ,ga,qV,rH,fv,dg,gf,gc]at hd<;>(try (subst hd))<;>(try exact hR)
 .have e1:(ls.filterMap λl=>(Tm.nameOf form l).map D.str)=(ls.filterMap (Tm.nameOf form)).map D.str:=by
   rw[Qq]
  rw[e1,P6];have:=D3 (Tm.nameOf form) ls;refine⟨by unfold Bh;ext,h64,?_⟩;intro p hp;exact Dn.of (q p hp)
theorem Tm.leaves_kids:∀(t:Tm),∀l∈t.leaves,l.kids=[]
 |.not t,l,h=>t.leaves_kids l h
 |.bin _ t u,l,h=>(AQ.mp h).elim (t.leaves_kids l) (u.leaves_kids l)
 |.pick c t u,l,h=>(AQ.mp h).elim (λh=>(AQ.mp h).elim (c.leaves_kids l) (t.leaves_kids l)) (u.leaves_kids l)
 |.part t _ _,l,h=>t.leaves_kids l h
 |.num _ _,l,h | .box _,l,h | .late _,l,h | .door _,l,h=>by cases AD.mp h;rfl
noncomputable def Tm.names (form:Str)(t:Tm):List Str:=t.leaves.filterMap (Tm.nameOf form)
noncomputable def MW (form:Str)(t:Tm):MO:=.lst ((Je (t.names form)).map D.str)
abbrev η:DL:=λds M Q=>GH ds λx=>Cw (Jc x) λt=>t.deep<=12/\t.parts<=1000/\(∀f,Ik f->(fm (t.names f)).length<64) /\
 ∀p0 p1 p2,M p0=none->M p1=none->M p2=none->p1≠p0->p2≠p0->p2≠p1->Q (.tup [.ref p0,.ref p1,.ref p2]) (put (put (put M p0 (MW "box" t)) p1 (MW "late" t)) p2 (MW "door" t))
def gQ:Od T T.x17 16 η:=by
 refine CB.p1 T.x17.d.F ["T", "leaves"] λx M Q hr nN h1=>?_;obtain⟨t,e1',hd,hp,h64,q⟩:_:=OO h1;refine⟨_,qC (Cv 1 nN (KZ (BN (gx T 12) (qA (qv 0) qN)))) (qO (CA (CJ (qA (BN (qW T) (qA (qv 1) (qA BZ qN))) (qA (BN (qW T) (qA (qv 1) (qA BZ qN))) (qA (BN (qW T) (qA (qv 1) (qA BZ qN))) qN)))))),?_⟩
 dsimp![↓Oy,↓So,reduceCtorEq,false_and,LX]
 have hl:t.leaves.length<=1000:=A4 t.leaves_len hp;refine⟨hd,hp,λp hM=>?_⟩;rw[Di,UL hM];dsimp only;refine⟨t.leaves,t.leaves_kids,rfl,hl,.inl rfl,h64 _ (.inl rfl),λp0 m0=>?_⟩;refine⟨t.leaves,t.leaves_kids,rfl,hl,.inr (.inl rfl),h64 _ (.inr (.inl rfl)),λp1 m1=>?_⟩;refine⟨t.leaves,t.leaves_kids,rfl,hl,.inr (.inr rfl),h64 _ (.inr (.inr rfl)),λp2 m2=>?_⟩;have n1:p1≠p0:=λe=>by rw[e,Di]at m1;cases m1
 have n2:p2≠p1:=λe=>by rw[e,Di]at m2;cases m2
 have m2':=pY m2;have n3:p2≠p0:=λe=>by rw[e,Di]at m2';cases m2'
 (try grind)
 exact Dn.of (q p0 p1 p2 m0 (pY m1) (pY m2') n1 n3 n2)
def gE (ha:0<=a)(hb:0<=b):AF a b=2*AF (a / 2) (b / 2)+(a%2)*(b%2):=by
 obtain⟨m,rfl⟩:∃m:Nat,a=(m:Int):=⟨a.toNat,by ext⟩;obtain⟨n,rfl⟩:∃n:Nat,b=(n:Int):=⟨b.toNat,by ext⟩;rw[Iy ha hb,Iy (by ext) (by ext)];have e1:((m:Int) / 2).toNat=m / 2:=by ext
 have e2:((n:Int) / 2).toNat=n / 2:=by ext
 rw[e1,e2,BH,BH];have h1:(m &&& n) / 2=m / 2 &&& n / 2:=Nat.and_div_two;have h2:(m &&& n)%2=(m%2) &&& (n%2):=by have:=Nat.and_mod_two_pow (a:=m) (b:=n) (n:=1);simpa using this
 have h3:((m%2) &&& (n%2):Nat)=(m%2)*(n%2):=by
  have a1:m%2=0\/m%2=1:=by ext
  have a2:n%2=0\/n%2=1:=by ext
  rcases a1 with a1|a1<;>rcases a2 with a2|a2<;>rw[a1,a2]<;>rfl
 have h4:(m &&& n)=2*(m / 2 &&& n / 2)+(m%2)*(n%2):=by
  have:=Nat.div_add_mod (m &&& n) 2;rw[h1,h2,h3]at this;ext
 rw[h4]
 push_cast
 rfl
def OI (a:Int):a%2=0\/a%2=1:=by ext
def ZkR (ha:0<=a)(hb:0<=b):AF a b%2=(a%2)*(b%2)/\AF a b / 2=AF (a / 2) (b / 2):=by
 have h:=gE ha hb;rcases OI a with e|e<;>rcases OI b with e' | e'<;>rw[e,e']at h<;>rw[e,e']<;>ext
def ZlN (ha:0<=a)(hb:0<=b):AM a b%2=max (a%2) (b%2)/\AM a b / 2=AM (a / 2) (b / 2):=by
 have h:=gE ha hb;rw[F5,F5];rcases OI a with e|e<;>rcases OI b with e' | e'<;>rw[e,e']at h<;>rw[e,e']<;>ext
def ZjX (ha:0<=a)(hb:0<=b):Bd a b%2=(a%2+b%2)%2/\Bd a b / 2=Bd (a / 2) (b / 2):=by
 have h:=gE ha hb;unfold Bd;rw[F5,F5];rcases OI a with e|e<;>rcases OI b with e' | e'<;>rw[e,e']at h<;>rw[e,e']<;>ext
theorem hX {f:Int->Int->Int}(hf0:f 0 0=0)(h:∀a b,0<=a->0<=b->f a b / 2=f (a / 2) (b / 2)):∀w a b,0<=a->a<2^w->0<=b->b<2^w->0<=f a b/\f a b<2^w
 |0,a,b,ha,ha2,hb,hb2=>by
  have e1:a=0:=by simp at ha2;ext
  have e2:b=0:=by simp at hb2;ext
  rw[e1,e2,hf0];simp
 |w+1,a,b,ha,ha2,hb,hb2=>by
  rw[Gm]at ha2 hb2 ⊢;have:=hX hf0 h w (a / 2) (b / 2) (by ext) (by ext) (by ext) (by ext);rw[<- h a b ha hb]at this;ext
noncomputable def Lg:List Int->Int
 |[]=>0
 |m::ms=>(if m=1 then 1 else 0)+2*Lg ms
noncomputable def LW:List Int->Int
 |[]=>0
 |m::ms=>(if m=0 then 0 else 1)+2*LW ms
def Mk (m:Int):Prop:=m=0\/m=1\/m=2
def LN (ms:List Int):Prop:=∀m∈ms,Mk m
theorem UC:∀ms,0<=Lg ms
 |[]=>dF _
 |m::ms=>by
  have:=UC ms;unfold Lg;split<;>ext
theorem UA:∀ms,0<=LW ms
 |[]=>dF _
 |m::ms=>by
  have:=UA ms;unfold LW;split<;>ext
theorem tS:∀ms,Lg ms<2^ms.length
 |[]=>by decide
 |m::ms=>by
  have:=tS ms;rw[AO,Gm];unfold Lg;split<;>ext
theorem uD:∀ms,LW ms<2^ms.length
 |[]=>by decide
 |m::ms=>by
  have:=uD ms;rw[AO,Gm];unfold LW;split<;>ext
theorem vd (m:Int)(ms:List Int):Lg (m::ms)=(if m=1 then 1 else 0)+2*Lg ms:=rfl
theorem uw (m:Int)(ms:List Int):LW (m::ms)=(if m=0 then 0 else 1)+2*LW ms:=rfl
noncomputable def andM (a b:Int):Int:=if a=0\/b=0 then 0 else if a=1/\b=1 then 1 else 2
noncomputable def orM (a b:Int):Int:=if a=1\/b=1 then 1 else if a=0/\b=0 then 0 else 2
def xS {b x:Int}(h:b=0\/b=1):(b+2*x)%2=b:=by rcases h with rfl | rfl<;>ext
def xQ {b x:Int}(h:b=0\/b=1):(b+2*x) / 2=x:=by rcases h with rfl | rfl<;>ext
def kh {c:Prop}[Decidable c]:(if c then(1:Int)else 0)=0\/(if c then(1:Int)else 0)=1:=by split<;>simp
def j9 {c:Prop}[Decidable c]:(if c then(0:Int)else 1)=0\/(if c then(0:Int)else 1)=1:=by split<;>simp
def xM {a b x y:Int}(ha:a=0\/a=1)(hb:b=0\/b=1)(hx:0<=x)(hy:0<=y):AF (a+2*x) (b+2*y)=a*b+2*AF x y:=by
 have h:=gE (a:=a+2*x) (b:=b+2*y) (by rcases ha with rfl | rfl<;>ext) (by rcases hb with rfl | rfl<;>ext);rw[xS ha,xS hb,xQ ha,xQ hb]at h;ext
def aF (ha:a=0\/a=1)(hb:b=0\/b=1)(hx:0<=x)(hy:0<=y):AM (a+2*x) (b+2*y)=(a+b-a*b)+2*AM x y:=by
 rw[F5,F5,xM ha hb hx hy];ext
def Tk {w u:Int}(hw:0<=w)(hu:0<=u):AF w (-u-1)=w-AF w u:=by
 unfold AF;rw[decide_eq_true hw,decide_eq_false (show¬ 0<=-u-1 by ext),decide_eq_true hu];show w-((w.toNat &&& (Ep (-u-1)).toNat:Nat):Int)=w-((w.toNat &&& u.toNat:Nat):Int);rw[show Ep (-u-1)=u by unfold Ep;ext]
def gF {a b x y:Int}(ha:a=0\/a=1)(hb:b=0\/b=1)(hx:0<=x)(hy:0<=y):AF (a+2*x) (-(b+2*y)-1)=(a-a*b)+2*AF x (-y-1):=by
 rw[Tk (by rcases ha with rfl | rfl<;>ext) (by rcases hb with rfl | rfl<;>ext),xM ha hb hx hy,Tk hx hy];ext
def vZ (hx:0<=x)(hy:0<=y):0<=AF x y:=by
 unfold AF;rw[decide_eq_true hx,decide_eq_true hy];exact Int.ofNat_nonneg _
def fV (hx:0<=x)(hy:0<=y):AF x y<=y:=by
 obtain⟨m,rfl⟩:∃m:Nat,x=(m:Int):=⟨x.toNat,by ext⟩;obtain⟨n,rfl⟩:∃n:Nat,y=(n:Int):=⟨y.toNat,by ext⟩;unfold AF;rw[decide_eq_true hx,decide_eq_true hy];show((m &&& n:Nat):Int)<=n;exact Yk.mpr Nat.and_le_right
def ux {x:Int}{w:Nat}(h0:0<=x)(h1:x<2^w):(-x-1)%2^w=2^w-1-x:=by
 rw[<- Int.add_emod_right (-x-1) (2^w)];rw[show -x-1+2^w=2^w-1-x by ext];exact Int.emod_eq_of_lt (by ext) (by ext)
noncomputable def bl (m:Int):Int:=if m=1 then 1 else 0
noncomputable def bh (m:Int):Int:=if m=0 then 0 else 1
def RF (m):bl m=0\/bl m=1:=kh
def RG (m):bh m=0\/bh m=1:=j9
theorem Tt (m:Int)(ms:List Int):Lg (m::ms)=bl m+2*Lg ms:=rfl
theorem Ts (m:Int)(ms:List Int):LW (m::ms)=bh m+2*LW ms:=rfl
noncomputable def sl (x y c:Int):Int:=(bl x+bl y+bl c)%2
noncomputable def ob (a b:Int):Int:=a+b-a*b
noncomputable def b2 (m:Int):Int:=if m=2 then 1 else 0
def sS:Mk 1:=.inr (.inl rfl)
theorem pZ (hx:0<=x):∀n {y:Int},0<=y->y<2^n->AM (x*2^n) y=y+2^n*x
 |0,y,h0,h1=>by
  have:y=0:=by rw[Yj]at h1;ext
  subst this;rw[F5,cZ,Yj];ext
 |n+1,y,h0,h1=>by
  have e1:x*2^(n+1)=0+2*(x*2^n):=by rw[Gm,<- WP];ext
  have e2:y=y%2+2*(y / 2):=by ext
  have hp:=XG n;rw[Gm]at h1;have ih:=pZ hx n (y:=y / 2) (by ext) (by ext);conv=>lhs;rw[e1,e2]
  rw[aF (.inl rfl) (OI y) (Va hx (by ext)) (by ext),ih,Gm,Yl (2^n) 2,WP];ext
noncomputable def NG (ms:List Int):D:=.tup [.int ms.length,.int (Lg ms),.int (LW ms)]
def bN (ms:List Int):Prop:=LN ms/\1<=ms.length/\ms.length<=64
theorem ny :Mq (NG ms) (.int 0) M Q=Q (.int ms.length) M:=rfl
theorem nz :Mq (NG ms) (.int 1) M Q=Q (.int (Lg ms)) M:=rfl
theorem og :Mq (NG ms) (.int 2) M Q=Q (.int (LW ms)) M:=rfl
def bn (x):Ep x=-x-1:=by unfold Ep;ext
def lZ (hx:0<=x):AM x 0=x:=by
 have:=pZ hx 0 (y:=0) 'g' 'g';simpa using this
def RH {x:Int}(hx:0<=x):AF x (-0-1)=x:=by
 rw[Tk hx 'g'];have h:=fV hx (show(0:Int)<=0 by decide);have h2:=vZ hx (show(0:Int)<=0 by decide);ext
def eX (p):(0:Int)<=2^p:=Og (XG p)
def gA (p):(2:Int)^(p+1)=0+2*2^p:=by rw[Gm];ext
theorem xY:∀(ms:List Int) (p:Nat),p<ms.length->Lg (ms.set p 1)=AM (Lg ms) (2^p)
 |m::ms,0,_=>by
  rw[Bo,Tt,Tt,show(2:Int)^0=1+2*0 by decide,aF (RF m) (.inr rfl) (UC ms) 'g',lZ (UC ms)];show(1:Int)+2*Lg ms=_;rcases RF m with e|e<;>rw[e]<;>ext
 |m::ms,p+1,h=>by
  rw[Ba,Tt,Tt,gA,aF (RF m) (.inl rfl) (UC ms) (eX p),xY ms p (Dw h)];ext
theorem pC (hv:v≠0):∀(ms:List Int) (p:Nat),p<ms.length->LW (ms.set p v)=AM (LW ms) (2^p)
 |m::ms,0,_=>by
  rw[Bo,Ts,Ts,show(2:Int)^0=1+2*0 by decide,aF (RG m) (.inr rfl) (UA ms) 'g',lZ (UA ms),show bh v=1 from if_neg hv];rcases RG m with e|e<;>rw[e]<;>ext
 |m::ms,p+1,h=>by
  rw[Ba,Ts,Ts,gA,aF (RG m) (.inl rfl) (UA ms) (eX p),pC hv ms p (Dw h)];ext
theorem pF (hv:v≠1):∀(ms:List Int) (p:Nat),p<ms.length->Lg (ms.set p v)=AF (Lg ms) (-(2^p)-1)
 |m::ms,0,_=>by
  rw[Bo,Tt,Tt,show(2:Int)^0=1+2*0 by decide,gF (RF m) (.inr rfl) (UC ms) 'g',RH (UC ms),show bl v=0 from if_neg hv];ext
 |m::ms,p+1,h=>by
  rw[Ba,Tt,Tt,gA,gF (RF m) (.inl rfl) (UC ms) (eX p),pF hv ms p (Dw h)];ext
theorem xI:∀(ms:List Int) (p:Nat),p<ms.length->LW (ms.set p 0)=AF (LW ms) (-(2^p)-1)
 |m::ms,0,_=>by
  rw[Bo,Ts,Ts,show(2:Int)^0=1+2*0 by decide,gF (RG m) (.inr rfl) (UA ms) 'g',RH (UA ms)];show(0:Int)+2*LW ms=_;ext
 |m::ms,p+1,h=>by
  rw[Ba,Ts,Ts,gA,gF (RG m) (.inl rfl) (UA ms) (eX p),xI ms p (Dw h)];ext
theorem wQ:∀n,Lg (Az n 2)=0
 |0=>rfl
 |n+1=>by rw[C8,Tt,wQ n];rfl
theorem wI:∀n,LW (Az n 2)=2^n-1
 |0=>rfl
 |n+1=>by
  rw[C8,Ts,wI n,Gm];show(1:Int)+_=_;ext
abbrev Sn:=Int×Int×Int
noncomputable def HC (s:Sn):L3.D:=.tup [.int s.1,.int s.2.1,.int s.2.2]
theorem QE :Mq (HC s) (.int 0) M Q=Q (.int s.1) M:=rfl
theorem NN :Mq (HC s) (.int 1) M Q=Q (.int s.2.1) M:=rfl
theorem OP :Mq (HC s) (.int 2) M Q=Q (.int s.2.2) M:=rfl
noncomputable def Ph (a:Sn):Int:=Bd a.2.1 a.2.2
noncomputable def W1 (w x u:Int):Sn:=(w,AF x (-u-1),AM x u)
noncomputable def OH (s:Sn):Sn:=(s.1,(-s.2.2-1)%2^s.1.toNat,(-s.2.1-1)%2^s.1.toNat)
noncomputable def PL (a b:Sn)(c:Int):Sn:=W1 a.1 ((a.2.1+b.2.1+c)%2^a.1.toNat) (AM (AM (Ph a) (Ph b)) (Bd (Bd (Bd (a.2.1+b.2.1+c) a.2.1) b.2.1) (Bd (Bd (a.2.2+b.2.2+c) a.2.2) b.2.2))%2^a.1.toNat)
noncomputable def Nl (a b:Sn):Sn:=(1,if a.2.2<b.2.1 then 1 else 0,if a.2.1<b.2.2 then 1 else 0)
noncomputable def JE (a b:Sn):Sn:=if AF (Bd a.2.1 b.2.1) (-(AM (Ph a) (Ph b))-1)=0 then(1,if AM (Ph a) (Ph b)=0 then 1 else 0,1)else(1,0,0)
noncomputable def JI (c a b:Sn):Sn:=if c.2.1=1 then a else if c.2.2=0 then b else(a.1,AF a.2.1 b.2.1,AM a.2.2 b.2.2)
noncomputable def Nm (a b:Sn):Sn:=(a.1+b.1,AM (a.2.1*2^b.1.toNat) b.2.1,AM (a.2.2*2^b.1.toNat) b.2.2)
noncomputable def Nj (s:Sn)(lo m:Int):Sn:=(m,s.2.1 / 2^lo.toNat%2^m.toNat,s.2.2 / 2^lo.toNat%2^m.toNat)
def Kb (w:Int)(x:Int):Prop:=0<=x/\x<2^w.toNat
structure Rg (s:Sn):Prop where
 w:1<=s.1/\s.1<=64
 l:Kb s.1 s.2.1
 h:Kb s.1 s.2.2
def fI {w x y:Int}(hx:Kb w x)(hy:Kb w y):Kb w (AF x y):=hX 'g' (λa b ha hb=>(ZkR ha hb).2) w.toNat x y hx.1 hx.2 hy.1 hy.2
def aD {w x y:Int}(hx:Kb w x)(hy:Kb w y):Kb w (AM x y):=hX 'g' (λa b ha hb=>(ZlN ha hb).2) w.toNat x y hx.1 hx.2 hy.1 hy.2
def vY {w x y:Int}(hx:Kb w x)(hy:Kb w y):Kb w (Bd x y):=hX 'g' (λa b ha hb=>(ZjX ha hb).2) w.toNat x y hx.1 hx.2 hy.1 hy.2
def VW (w x:Int):Kb w (x%2^w.toNat):=⟨Co _ (by have:=XG w.toNat;ext),BP _ (XG _)⟩
def tZ {w x u:Int}(hw:1<=w/\w<=64)(hx:Kb w x)(hu:Kb w u):Rg (W1 w x u):=by
 refine⟨hw,?_,aD hx hu⟩;have a1:=vZ hx.1 hu.1;have a2:=fI hx hu;have e:=Tk hx.1 hu.1
 have a3:AF x u<=x:=by
  have:=fV hu.1 hx.1;rw[show AF x u=AF u x by rw[Iy hx.1 hu.1,Iy hu.1 hx.1,Ye]];exact this
 have:=hx.2;show Kb w (AF x (-u-1));rw[e];exact⟨by ext,by ext⟩
def wU (h:Rg s):Rg (OH s):=⟨h.w,VW _ _,VW _ _⟩
def tX (h:Rg s):Kb s.1 (Ph s):=vY h.l h.h
def vT (ha:Rg a)(c:Int):Rg (PL a b c):=tZ ha.w (VW _ _) (VW _ _)
def oC (c:Prop)[Decidable c]:Kb 1 (if c then 1 else 0):=by split<;>exact⟨by decide,by decide⟩
def vc (a b:Sn):Rg (Nl a b):=⟨⟨by show(1:Int)<=1;decide,by show(1:Int)<=64;decide⟩,oC _,oC _⟩
def xj (a b:Sn):Rg (JE a b):=by
 unfold JE;split
 .exact⟨⟨by show(1:Int)<=1;decide,by show(1:Int)<=64;decide⟩,oC _,⟨by show(0:Int)<=1;decide,by show(1:Int)<2^(1:Int).toNat;decide⟩⟩
 .exact⟨⟨by show(1:Int)<=1;decide,by show(1:Int)<=64;decide⟩,⟨by show(0:Int)<=0;decide,by show(0:Int)<2^(1:Int).toNat;decide⟩,⟨by show(0:Int)<=0;decide,by show(0:Int)<2^(1:Int).toNat;decide⟩⟩
def oR (e:a.1=b.1)(ha:Rg a)(hb:Rg b){f g:Int->Int->Int}(hf:∀{w x y:Int},Kb w x->Kb w y->Kb w (f x y))(hg:∀{w x y:Int},Kb w x->Kb w y->Kb w (g x y)):Rg (a.1,f a.2.1 b.2.1,g a.2.2 b.2.2):=⟨ha.w,hf ha.l (e ▸ hb.l),hg ha.h (e ▸ hb.h)⟩
def yc (e:a.1=b.1)(ha:Rg a)(hb:Rg b):Rg (JI c a b):=by
 unfold JI;split
 .exact ha
 .split
  .exact hb
  .exact oR e ha hb fI aD
def xL {v w x y:Int}(hv:1<=v)(hw:1<=w)(hx:Kb v x)(hy:Kb w y):Kb (v+w) (AM (x*2^w.toNat) y):=by
 rw[pZ hx.1 _ hy.1 hy.2];have p:=XG w.toNat
 have e:(2:Int)^(v+w).toNat=2^w.toNat*2^v.toNat:=by rw[show(v+w).toNat=w.toNat+v.toNat by ext,Int.pow_add]
 have m0:=Va (Og p) hx.1;have m1:=Int.mul_le_mul_of_nonneg_left (show x+1<=2^v.toNat by have:=hx.2;ext) (Og p);rw[Int.mul_add,dE]at m1;have:=hy.1;have:=hy.2;refine⟨by ext,?_⟩;rw[e];ext
def u6 {a b:Sn}(ha:Rg a)(hb:Rg b)(h:a.1+b.1<=64):Rg (Nm a b):=⟨⟨by show 1<=a.1+b.1;have:=ha.w;have:=hb.w;ext,h⟩,xL ha.w.1 hb.w.1 ha.l hb.l,xL ha.w.1 hb.w.1 ha.h hb.h⟩
def xr {lo m:Int}(h:1<=m/\m<=64):Rg (Nj s lo m):=⟨h,VW _ _,VW _ _⟩
def Hh (s:Sn):Prop:=s.2.1=s.2.2
def zJ (h:0<=x):Bd x x=0:=by
 have e:AF x x=x:=by rw[Iy h h,Nat.and_self];ext
 unfold Bd;rw[F5,e];ext
def Xb (h:Rg s)(k:Hh s):Ph s=0:=by unfold Ph;rw[<- k];exact zJ h.l.1
def tY {w x:Int}(h:0<=x):Hh (W1 w x 0):=by
 show AF x (-0-1)=AM x 0;rw[RH h,lZ h]
def wT (k:Hh s):Hh (OH s):=by unfold Hh OH at *;rw[k]
def vS (ha:Rg a)(hb:Rg b)(hc:0<=c)(ka:Hh a)(kb:Hh b):Hh (PL a b c):=by
 unfold PL;rw[Xb ha ka,Xb hb kb,<- ka,<- kb]
 have nn:∀{x y:Int},0<=x->0<=y->0<=Bd x y:=λ{x y} hx hy=>by
  unfold Bd;have h1:=F5 x y;have h2:=fV hx hy;have h3:=fV hy hx;rw[show AF y x=AF x y by rw[Iy hx hy,Iy hy hx,Ye]]at h3;rw[h1];ext
 have n0:0<=a.2.1+b.2.1+c:=by have:=ha.l.1;have:=hb.l.1;ext
 rw[zJ (nn (nn n0 ha.l.1) hb.l.1),show AM (AM 0 0) 0%2^a.1.toNat=0 by rw[show AM (AM 0 0) 0=(0:Int) by decide,Int.zero_emod]];exact tY (VW _ _).1
def vb (ka:Hh a)(kb:Hh b):Hh (Nl a b):=by
 show(if a.2.2<b.2.1 then(1:Int)else 0)=if a.2.1<b.2.2 then 1 else 0
 rw[ka,kb]
def xi (ha:Rg a)(hb:Rg b)(ka:Hh a)(kb:Hh b):Hh (JE a b):=by
 unfold JE;rw[Xb ha ka,Xb hb kb,show AM 0 0=(0:Int) by decide];split
 .rfl
 .rfl
def yb (hc:Rg c)(h1:c.1=1)(kc:Hh c)(ka:Hh a)(kb:Hh b):Hh (JI c a b):=by
 unfold JI;split
 .exact ka
 .next n1=>
  rw[if_pos]
  .exact kb
  .have h:=hc.l;rw[h1]at h;have:c.2.1<2:=h.2;have:=h.1;rw[<- kc];ext
def u5 (ka:Hh a)(kb:Hh b):Hh (Nm a b):=by unfold Hh Nm at *;dsimp only;rw[ka,kb]
def xq (k:Hh s)(lo m:Int):Hh (Nj s lo m):=by unfold Hh Nj at *;dsimp only;rw[k]
noncomputable def SY (o:GA)(a b:Sn):Sn:=match o with
 |.and=>(a.1,AF a.2.1 b.2.1,AF a.2.2 b.2.2)
 |.or=>(a.1,AM a.2.1 b.2.1,AM a.2.2 b.2.2)
 |.xor=>W1 a.1 (Bd a.2.1 b.2.1) (AM (Ph a) (Ph b))
 |.plus=>PL a b 0
 |.minus=>PL a (OH b) 1
 |.less=>Nl a b
 |.same=>JE a b
 |.join=>Nm a b
noncomputable def n0:Sn:=(1,0,0)
noncomputable def Tm.rv (t:Tm)(hs:List Sn):Sn:=match t with
 |.not _=>OH (hs.headD n0)
 |.bin o _ _=>SY o (hs.headD n0) (hs.tail.headD n0)
 |.pick _ _ _=>JI (hs.headD n0) (hs.tail.headD n0) (hs.tail.tail.headD n0)
 |.part _ lo m=>Nj (hs.headD n0) lo m
 |_=>n0
structure bO where
 b:Str->Sn
 l:Str->Sn
 d:Str->Sn
noncomputable def Tm.rs (e:bO):Tm->Sn
 |.num w n=>(w,n,n)
 |.box x=>e.b x
 |.late x=>e.l x
 |.door x=>e.d x
 |.not t=>(Tm.not t).rv [t.rs e]
 |.bin o t u=>(Tm.bin o t u).rv [t.rs e,u.rs e]
 |.pick c t u=>(Tm.pick c t u).rv [c.rs e,t.rs e,u.rs e]
 |.part t lo m=>(Tm.part t lo m).rv [t.rs e]
def Tm.rs_kids {t:Tm}(h:t.kids≠[]):t.rs e=t.rv (t.kids.map (Tm.rs e)):=by cases t<;>first | exact absurd rfl h | rfl
def Pa (h:l.length=n+1):∃a r,l=a::r/\r.length=n:=by cases l with
 |nil=>cases h
 |cons a r=>exact⟨a,r,rfl,He h⟩
def qb {t:Tm}{w:Int}(ho:t.over (hs.map (·.1))=some w)(hall:∀s∈hs,Rg s):(Rg (t.rv hs)/\(t.rv hs).1=w)/\((∀s∈hs,Hh s)->Hh (t.rv hs)):=by
 obtain⟨hl,-⟩:=Tm.over_len ho;rw[Ab]at hl;cases t with
 |not u=>
  obtain⟨a,r,rfl,e0⟩:=Pa hl;cases AH e0;have ha:=hall a 'f';have e:a.1=w:=by simpa[Tm.over]using ho
  exact⟨⟨wU ha,e⟩,λk=>wT (k a 'f')⟩
 |part u lo m=>obtain⟨a,r,rfl,e0⟩:=Pa hl;cases AH e0;have ha:=(hall a (by simp)).w;obtain⟨⟨b1,b2,b3⟩,e⟩:=gU ho;have b3:lo+m<=a.1:=b3;exact⟨⟨xr ⟨b2,by ext⟩,e.symm⟩,λk=>xq (k a (by simp)) _ _⟩
 |pick c u v=>
  obtain⟨c,r,rfl,e0⟩:=Pa hl;obtain⟨a,r,rfl,e1⟩:=Pa e0;obtain⟨b,r,rfl,e2⟩:=Pa e1;cases AH e2;obtain⟨q1,q2,q3⟩:=qR ho;have q2:a.1=b.1:=q2;have q3:w=a.1:=q3;refine⟨⟨yc q2 (hall a 'f') (hall b 'f'),?_⟩,λk=>yb (hall c 'f') q1 (k c 'f') (k a 'f') (k b 'f')⟩;show(JI c a b).1=w;unfold JI;split
  .exact q3.symm
  .split
   .rw[<- q2];exact q3.symm
   .exact q3.symm
 |bin o u v=>
  obtain⟨a,r,rfl,e0⟩:=Pa hl;obtain⟨b,r,rfl,e1⟩:=Pa e0;cases AH e1;have ha:=hall a 'f';have hb:=hall b 'f';show(Rg (SY o a b)/\(SY o a b).1=w)/\_;have kk:∀{P:Prop},(Hh a->Hh b->P)->(∀s∈[a,b],Hh s)->P:=λf k=>f (k a 'f') (k b 'f');cases o with
  |join=>obtain⟨q1,q2⟩:=qQ ho;exact⟨⟨u6 ha hb q1,q2.symm⟩,kk u5⟩
  |less=>obtain⟨-,q2⟩:=aY (.inl rfl) ho;exact⟨⟨vc a b,q2.symm⟩,kk vb⟩
  |same=>obtain⟨-,q2⟩:=aY (.inr rfl) ho;refine⟨⟨xj a b,?_⟩,kk (xi ha hb)⟩;show(JE a b).1=w;unfold JE;split<;>exact q2.symm
  |and=>obtain⟨q1,q2⟩:=V6 'f' 'f' 'f' ho;exact⟨⟨oR q1 ha hb fI fI,q2.symm⟩,kk λk1 k2=>by show AF a.2.1 b.2.1=AF a.2.2 b.2.2;rw[k1,k2]⟩
  |or=>obtain⟨q1,q2⟩:=V6 'f' 'f' 'f' ho;exact⟨⟨oR q1 ha hb aD aD,q2.symm⟩,kk λk1 k2=>by show AM a.2.1 b.2.1=AM a.2.2 b.2.2;rw[k1,k2]⟩
  |xor=>obtain⟨q1,q2⟩:=V6 'f' 'f' 'f' ho;have q1:a.1=b.1:=q1;have x:=vY ha.l (q1 ▸ hb.l);refine⟨⟨tZ ha.w x (aD (tX ha) (q1 ▸ tX hb)),q2.symm⟩,kk λk1 k2=>?_⟩;show Hh (W1 a.1 (Bd a.2.1 b.2.1) (AM (Ph a) (Ph b)));rw[Xb ha k1,Xb hb k2,show AM 0 0=(0:Int) by decide];exact tY x.1
  |plus=>obtain⟨q1,q2⟩:=V6 'f' 'f' 'f' ho;exact⟨⟨vT ha 0,q2.symm⟩,kk λk1 k2=>vS ha hb 'g' k1 k2⟩
  |minus=>obtain⟨q1,q2⟩:=V6 'f' 'f' 'f' ho;exact⟨⟨vT ha 1,q2.symm⟩,kk λk1 k2=>vS ha (wU hb) 'g' k1 (wT k2)⟩
 |_=>cases ho
noncomputable def mB (lo hi:Int):Int:=if lo%2=hi%2 then lo%2 else 2
def UK (h:M p=none):J2 (put M p o) p=M:=by
 funext b;unfold J2 put;by_cases e:b=p
 .simp[e,h]
 .simp[e]
abbrev Ziv:DL:=λds M Q=>GH ds λx=>∃s:Sn,x=HC s/\s.1=1/\∀p,M p=none->Q (.ref p) (put M p (.lst [.int (mB s.2.1 s.2.2)]))
def ZiL:Od T T.x20 2 Ziv:=by
 refine CB.p1 T.x20.d.F ["span", "lows", "highs"] λx M Q hr nN h=>?_;obtain⟨s,rfl,hs,q⟩:=h;refine⟨_,qC (Cv 1 nN (KZ (BN (dh T) (qA 'b' (qA 'b' qN))))) (qC (Cv 2 nN (KZ (BN (dh T) (qA 'b' (qA 'b' qN))))) (qO (CA (Vu (ns:=["high"]) (caps:=[]) ⟨⟨rfl,by rfl,by rfl,by rfl,rfl,by rfl,by nofun⟩,by rfl,by nofun⟩ rfl (um T.B.zip (qA (qv 1) (qA (qv 2) qN))) (λ_ _ _ _ _ _=>(JX (AV CP (qv 0) (qv 1)) (qv 0) Aj)) (λ_ _ _ _ _ _=>(Nu (ME (i:=0) (show(["low", "high"]:List Str).Nodup by nofun) rfl (Cd rfl)) (Nu (ME (i:=1) (show(["low", "high"]:List Str).Nodup by nofun) rfl (Cd rfl)) V4))))))),?_⟩
 dsimp![↓Oy,↓vm,↓So,↓w9,↓QE,↓NN,↓OP]
 rw[hs];refine⟨by decide,λp hp=>?_⟩;rw[Di];dsimp only;rw[UK hp];refine⟨by decide,λp' hp'=>?_⟩;rw[Di];dsimp only;rw[UK hp'];refine LZ.ints (λx y=>if x=y then x else 2) (GS (by rw[al];decide)) trivial (λx y hxy R r=>?_) ?_
 .simp only[capT,AU,DB,EU,Hl];simp![↓S1]
  split at r
  .next h=>rw[if_pos h];exact r
  .next h=>rw[if_neg h];exact r
 .intro p2 hp2;have e2:∀x:Int,Ih (1:Int).toNat x=[x%2]:=λx=>by rw[show(1:Int).toNat=0+1 from rfl,ZkN];rfl
  rw[e2,e2];exact Dn.of (q p2 hp2)
abbrev Zdz:DL:=λds M Q=>GH ds λx=>Fb x λn=>(1<=n/\n<=64)/\Q (NG (Az n.toNat 2)) M
def ZdN:Od T T.x21 2 Zdz:=by
 refine CB.p1 T.x21.d.F ["width"] λx M Q hr nN h1=>?_;obtain⟨n,e1',⟨n1,n64⟩,q⟩:_:=C3 h1;refine⟨_,qO (CA (CJ (qA (qv 0) (qA Aj (qA (BN (V0 T) (qA (qv 0) (qA (Sf fB Aj) qN))) qN))))),?_⟩;unfold NG at q;rw[wQ,wI,Bu,show((n.toNat:Nat):Int)=n by ext]at q
 dsimp![↓Ow,↓Ox,DI]
 refine⟨⟨by ext,by ext⟩,?_⟩;have e:=ux (x:=0) (w:=n.toNat) 'g' (XG _);rw[show(-1:Int)=-0-1 by decide,e,Int.sub_zero];exact Dn.of q
abbrev ZgR:DL:=λds M Q=>Js ds λx y z=>∃(ms:List Int) (p:Nat) (m:Int),x=NG ms/\y=.int p/\z=.int m/\bN ms/\p<ms.length/\Mk m/\Q (NG (ms.set p m)) M
def Zhp:Od T T.x22 1 ZgR:=by
 refine CB.p3 T.x22.d.F ["span", "place", "mark", "bit", "low", "high"] λx y z M Q hr nN h=>?_;obtain⟨ms,p,m,e1',e2',e3',hs,hp,hm,q⟩:_:=h;refine⟨_,qC (Cv 3 nN (BJ W5 Aj (qv 1))) (qC (Cv 4 nN (JX (AV CP (qv 2) Aj) (BJ Ky 'b' (qv 3)) (BJ UD 'b' (Sf Xg (qv 3))))) (qC (Cv 5 nN (JX (AV CP (qv 2) Aj) (BJ UD 'b' (Sf Xg (qv 3))) (BJ Ky 'b' (qv 3)))) (qO (CA (CJ (qA 'b' (qA (qv 4) (qA (qv 5) qN)))))))),?_⟩;unfold NG at q;rw[List.length_set]at q;have p64:p<64:=by have:=hs.2.2;ext
 have cp:P8 1 (p:Int):=⟨by ext,by ext,by decide⟩;rcases hm with rfl|rfl|rfl<;>(simp only[Mn,Ml,Mm];simp -implicitDefEqProofs only[↓uV,↓Zp,↓Zq,↓sL,↓Zj,↓Zm,↓Zo,↓S1,↓vN,↓Zi,↓uG,↓uM,Of,decide_false,Gi,↓reduceIte,↓Zk,↓nz,↓Ow,↓Zh,↓Ox,↓uU,↓Zn,decide_true,↓og,↓uO,↓uY,↓vJ,↓ny,↓Zg,↓Zf,↓uK,bn,AO,Fq,ES,Nb,SJ,sJ,true_and];rw[WD,BH])
 .rw[pF 'g' ms p hp,xI ms p hp]at q;exact⟨cp,Dn.of q⟩
 .rw[xY ms p hp,pC 'g' ms p hp]at q;exact⟨cp,Dn.of q⟩
 .rw[pF 'g' ms p hp,pC 'g' ms p hp]at q;exact⟨cp,Dn.of q⟩
abbrev ε:DL:=λds M Q=>GH ds λx=>∃s,x=HC s/\Q (.int (Ph s)) M
def XF:Od T T.x26 1 ε:=by
 refine CB.p1 T.x26.d.F ["span"] λx M Q hr nN h=>?_;obtain⟨s,rfl,q⟩:=h;refine⟨_,qO (CA (BJ UE 'b' 'b')),?_⟩
 dsimp![↓NN,↓OP]
 exact Dn.of q
abbrev ZgW:DL:=λds M Q=>FW ds λx y=>∃a b,x=HC a/\y=HC b/\Q (HC (JE a b)) M
def Zhu:Od T T.x31 2 ZgW:=by
 refine CB.p2 T.x31.d.F ["one", "other", "unknown"] λx y M Q hr nN h=>?_;obtain⟨a,b,e1',e2',q⟩:_:=h;refine⟨_,qC (Cv 2 nN (BJ Ky (BN (XF T) (qA (qv 0) qN)) (BN (XF T) (qA (qv 1) qN)))) (qC (Ew (AV ZC (BJ UD (BJ UE 'b' (Bf BE (qv 1) Aj)) (Sf Xg (qv 2))) Aj) (qO (CA (CJ (ZZ (.int (.int (.int .nil))))))) qE) (qO (CA (CJ (qA Aj (qA (JX (AV CP (qv 2) Aj) Aj Aj) (qA Aj qN))))))),?_⟩
 dsimp![↓Ow,↓S1,↓Ro,↓Ox,↓uJ,decide_eq_false_iff_not,bn,↓NN]
 refine⟨a,rfl,b,rfl,?_⟩
 (try grind)
 unfold JE at q;refine Cj (λc=>?_) λc=>?_
 .rw[if_neg c]at q;exact Dn.of q
 .rw[if_pos (Decidable.not_not.mp c)]at q;refine Cj (λd=>?_) λd=>?_
  .rw[if_pos d]at q;exact Dn.of q
  .rw[if_neg d]at q;exact Dn.of q
abbrev Zk6:DL:=λds M Q=>Js ds λx y z=>∃i a b:Int,x=.int i/\y=.int a/\z=.int b/\Q (HC (W1 i a b)) M
def di:Od T T.x27 1 Zk6:=by
 refine CB.p3 T.x27.d.F ["width", "word", "unknown"] λx y z M Q hr nN h=>?_;obtain⟨i,a,b,e1',e2',e3',q⟩:_:=h;refine⟨_,qO (CA (CJ (qA (qv 0) (qA (BJ UD (qv 1) (Sf Xg (qv 2))) (qA (BJ Ky (qv 1) (qv 2)) qN))))),?_⟩
 dsimp![↓Ow,↓Ox,bn]
 exact Dn.of q
abbrev Zis:DL:=λds M Q=>Js ds λx y z=>∃(a b:Sn) (c:Int),x=HC a/\y=HC b/\z=.int c/\(1<=a.1/\a.1<=64)/\Q (HC (PL a b c)) M
def gi:Od T T.x29 2 Zis:=by
 refine CB.p3 T.x29.d.F ["one", "other", "carry", "low", "high", "low_carries", "high_carries", "unknown"] λx y z M Q hr nN h=>?_;obtain⟨a,b,c,e1',e2',e3',hw,q⟩:_:=h;refine⟨_,qC (Cv 3 nN (BJ HN (BJ HN 'b' (Bf BE (qv 1) Aj)) (qv 2))) (qC (Cv 4 nN (BJ HN (BJ HN 'b' (Bf BE (qv 1) Aj)) (qv 2))) (qC (Cv 5 nN (BJ UE (BJ UE (qv 3) 'b') (Bf BE (qv 1) Aj))) (qC (Cv 6 nN (BJ UE (BJ UE (qv 4) 'b') (Bf BE (qv 1) Aj))) (qC (Cv 7 nN (BJ Ky (BJ Ky (BN (XF T) (qA (qv 0) qN)) (BN (XF T) (qA (qv 1) qN))) (BJ UE (qv 5) (qv 6)))) (qO (CA (BN (di T) (qA 'b' (qA (BN (V0 T) (qA 'b' (qA (qv 3) qN))) (qA (BN (V0 T) (qA 'b' (qA (qv 7) qN))) qN)))))))))),?_⟩
 dsimp![↓PP,↓QE,↓NN,↓OP]
 refine⟨a,rfl,b,rfl,?_⟩
 (try grind)
 exact⟨⟨by ext,by ext⟩,⟨by ext,by ext⟩,_,_,_,rfl,rfl,rfl,Dn.of q⟩
abbrev Zh2:DL:=λds M Q=>FW ds λx y=>∃a b,x=HC a/\y=HC b/\Q (HC (Nl a b)) M
def ZhA:Od T T.x30 1 Zh2:=by
 refine CB.p2 T.x30.d.F ["one", "other"] λx y M Q hr nN h=>?_;obtain⟨a,b,e1',e2',q⟩:_:=h;refine⟨_,qO (CA (CJ (qA Aj (qA (JX (AV Kz 'b' (Bf BE (qv 1) Aj)) Aj Aj) (qA (JX (AV Kz 'b' (Bf BE (qv 1) Aj)) Aj Aj) qN))))),?_⟩
 dsimp![↓S1,↓NN,↓OP]
 unfold Nl HC at q;by_cases c1:a.2.2<b.2.1<;>by_cases c2:a.2.1<b.2.2<;>simp only[c1,c2,if_true,if_false]at q ⊢<;>exact Dn.of q
abbrev Zit:DL:=λds M Q=>GH ds λx=>∃s:Sn,x=HC s/\(1<=s.1/\s.1<=64)/\Q (HC (OH s)) M
def gh:Od T T.x28 2 Zit:=by
 refine CB.p1 T.x28.d.F ["span"] λx M Q hr nN h=>?_;obtain⟨s,rfl,hw,q⟩:=h;refine⟨_,qO (CA (CJ (qA 'b' (qA (BN (V0 T) (qA 'b' (qA (Sf Xg 'b') qN))) (qA (BN (V0 T) (qA 'b' (qA (Sf Xg 'b') qN))) qN))))),?_⟩
 dsimp![↓Ow,↓Ox,bn,↓QE,↓NN,↓OP]
 exact⟨⟨by ext,by ext⟩,⟨by ext,by ext⟩,Dn.of q⟩
abbrev ZeD:DL:=λds M Q=>Js ds λx y z=>∃(o:GA) (a b:Sn),x=.str o.nm/\y=HC a/\z=HC b/\(1<=a.1/\a.1<=64)/\(1<=b.1/\b.1<=64)/\o≠.join/\Q (HC (SY o a b)) M
def ZeR:Od T T.x25 3 ZeD:=by
 refine CB.p3 T.x25.d.F ["form", "one", "other"] λx y z M Q hr nN h=>?_;obtain⟨o,a,b,e1',e2',e3',ha,hb,hj,q⟩:_:=h;refine⟨_,qC (Ew (AV CP (qv 0) BZ) (qO (CA (CJ (qA (Bf BE (qv 1) Aj) (qA (BJ UD (Bf BE (qv 1) Aj) (Bf BE (qv 2) Aj)) (qA (BJ UD (Bf BE (qv 1) Aj) (Bf BE (qv 2) Aj)) qN)))))) qE) (qC (Ew (AV CP (qv 0) BZ) (qO (CA (CJ (qA (Bf BE (qv 1) Aj) (qA (BJ Ky (Bf BE (qv 1) Aj) (Bf BE (qv 2) Aj)) (qA (BJ Ky (Bf BE (qv 1) Aj) (Bf BE (qv 2) Aj)) qN)))))) qE) (qC (Ew (AV CP (qv 0) BZ) (qO (CA (BN (di T) (qA (Bf BE (qv 1) Aj) (qA (BJ UE (Bf BE (qv 1) Aj) (Bf BE (qv 2) Aj)) (qA (BJ Ky (BN (XF T) (qA (qv 1) qN)) (BN (XF T) (qA (qv 2) qN))) qN)))))) qE) (qC (Ew (AV CP (qv 0) BZ) (qO (CA (BN (gi T) (qA (qv 1) (qA (qv 2) (qA Aj qN)))))) qE) (qC (Ew (AV CP (qv 0) BZ) (qO (CA (BN (gi T) (qA (qv 1) (qA (BN (gh T) (qA (qv 2) qN)) (qA Aj qN)))))) qE) (qC (Ew (AV CP (qv 0) BZ) (qO (CA (BN (ZhA T) (qA (qv 1) (qA (qv 2) qN))))) qE) (qO (CA (BN (Zhu T) (qA (qv 1) (qA (qv 2) qN)))))))))),?_⟩;cases o<;>simp only[GA.nm]
 case and=>
  dsimp![↓QE,↓NN,↓OP]
  exact Dn.of q
 case or=>
  dsimp![↓QE,↓NN,↓OP]
  exact Dn.of q
 case xor=>
  dsimp![↓QE,↓NN,↓OP]
  rw[if_neg 'k',if_neg 'k'];exact⟨a,rfl,b,rfl,_,_,_,rfl,rfl,rfl,Dn.of q⟩
 case plus=>
  dsimp![↓QE,↓NN,↓OP]
  exact⟨a,b,0,rfl,rfl,rfl,ha,Dn.of q⟩
 case minus=>
  dsimp![↓QE,↓NN,↓OP]
  exact⟨b,rfl,hb,a,OH b,1,rfl,rfl,rfl,ha,Dn.of q⟩
 case less=>
  dsimp![↓QE,↓NN,↓OP]
  exact⟨a,b,rfl,rfl,Dn.of q⟩
 case same=>
  dsimp![↓QE,↓NN,↓OP]
  exact⟨a,b,rfl,rfl,Dn.of q⟩
 case join=>exact absurd rfl hj
abbrev Zh0:DL:=λds M Q=>Js ds λx y z=>∃(s:Sn) (lo m:Int),x=HC s/\y=.int lo/\z=.int m/\(0<=lo/\1<=m/\m<=64)/\Q (HC (Nj s lo m)) M
def Zhy:Od T T.x34 2 Zh0:=by
 refine CB.p3 T.x34.d.F ["span", "low", "many"] λx y z M Q hr nN h=>?_;obtain⟨ms,lo,m,e1',e2',e3',⟨h0,h1,h2⟩,q⟩:_:=h;refine⟨_,qO (CA (CJ (qA (qv 2) (qA (BN (V0 T) (qA (qv 2) (qA (BJ nM 'b' (qv 1)) qN))) (qA (BN (V0 T) (qA (qv 2) (qA (BJ nM 'b' (qv 1)) qN))) qN))))),?_⟩
 dsimp![↓NN,↓OP]
 exact⟨h0,⟨by ext,by ext⟩,h0,⟨by ext,by ext⟩,Dn.of q⟩
abbrev ZgZ:DL:=λds M Q=>Js ds λx y z=>∃c a b,x=HC c/\y=HC a/\z=HC b/\Q (HC (JI c a b)) M
def Zhx:Od T T.x32 1 ZgZ:=by
 refine CB.p3 T.x32.d.F ["chosen", "one", "other"] λx y z M Q hr nN h=>?_;obtain⟨c,a,b,e1',e2',e3',q⟩:_:=h;refine⟨_,qC (Ew (AV CP 'b' Aj) (qO (CA (qv 1))) qE) (qC (Ew (AV CP 'b' Aj) (qO (CA (qv 2))) qE) (qO (CA (CJ (qA (Bf BE (qv 1) Aj) (qA (BJ UD (Bf BE (qv 1) Aj) (Bf BE (qv 2) Aj)) (qA (BJ Ky (Bf BE (qv 1) Aj) (Bf BE (qv 2) Aj)) qN))))))),?_⟩
 dsimp![↓QE,↓NN,↓OP]
 unfold JI at q;refine Cj (λd=>?_) λd=>Cj (λd2=>?_) λd2=>?_
 .rw[if_pos d]at q;exact Dn.of q
 .rw[if_neg d,if_pos d2]at q;exact Dn.of q
 .rw[if_neg d,if_neg d2]at q;exact Dn.of q
abbrev Zh3:DL:=λds M Q=>FW ds λx y=>∃a b,x=HC a/\y=HC b/\Rg a/\Rg b/\Q (HC (Nm a b)) M
def ZhB:Od T T.x33 1 Zh3:=by
 refine CB.p2 T.x33.d.F ["one", "other"] λx y M Q hr nN h=>?_;obtain⟨a,b,e1',e2',ha,hb,q⟩:_:=h;refine⟨_,qO (CA (CJ (qA (BJ HN 'b' (Bf BE (qv 1) Aj)) (qA (BJ Ky (BJ W5 'b' (Bf BE (qv 1) Aj)) (Bf BE (qv 1) Aj)) (qA (BJ Ky (BJ W5 'b' (Bf BE (qv 1) Aj)) (Bf BE (qv 1) Aj)) qN))))),?_⟩
 dsimp![↓QE,↓NN,↓OP]
 have wb:=hb.w
 have c1:∀{x:Int},Kb a.1 x->P8 x b.1:=λ{x} h=>by
  have h2:(2:Int)^a.1.toNat<=2^64:=yf (by have:=ha.w;ext);have h3:x<2^64:=Int.lt_of_lt_of_le h.2 h2;have:=h.1;exact⟨by ext,by ext,by ext⟩
 exact⟨c1 ha.l,c1 ha.h,Dn.of q⟩
abbrev ZgU:DL:=λds M Q=>FW ds λx y=>∃(t:Tm) (hs:List Sn) (w:Int),x=t.D/\y=.lst (hs.map HC)/\t.over (hs.map (·.1))=some w/\(∀h∈hs,Rg h)/\Q (HC (t.rv hs)) M
def Zhr:Od T T.x24 4 ZgU:=by
 refine CB.p2 T.x24.d.F ["term", "held", "form"] λx y M Q hr nN h=>?_;obtain⟨t,hs,wd,e1',e2',ho,hall,q⟩:_:=h;refine⟨_,qC (Cv 2 nN 'b') (qC (Ew (AV CP (qv 2) BZ) (qO (CA (BN (gh T) (qA (Bf Ii (qv 1) Aj) qN)))) qE) (qC (Ew (AV CP (qv 2) BZ) (qO (CA (BN (Zhy T) (qA (Bf Ii (qv 1) Aj) (qA 'b' (qA 'b' qN)))))) qE) (qC (Ew (AV CP (qv 2) BZ) (qO (CA (BN (Zhx T) (qA (Bf Ii (qv 1) Aj) (qA (Bf Ii (qv 1) Aj) (qA (Bf Ii (qv 1) Aj) qN)))))) qE) (qC (Ew (AV CP (qv 2) BZ) (qO (CA (BN (ZhB T) (qA (Bf Ii (qv 1) Aj) (qA (Bf Ii (qv 1) Aj) qN))))) qE) (qO (CA (BN (ZeR T) (qA (qv 2) (qA (Bf Ii (qv 1) Aj) (qA (Bf Ii (qv 1) Aj) qN)))))))))),?_⟩;obtain⟨hz,hne⟩:=Tm.over_len ho;rw[Ab]at hz;cases t with
 |num _ _=>exact absurd rfl hne
 |box _=>exact absurd rfl hne
 |late _=>exact absurd rfl hne
 |door _=>exact absurd rfl hne
 |not t=>obtain⟨a,r,rfl,e0⟩:=Pa hz;cases AH e0;simp only[Tm.D,AU,DB];right;exact⟨a,rfl,(hall a (by simp)).w,Dn.of q⟩
 |part t lo many=>
  obtain⟨a,r,rfl,e0⟩:=Pa hz;cases AH e0;obtain⟨⟨b1,b2,b3⟩,_⟩:=gU ho;have b3:lo+many<=a.1:=b3;have h64:=(hall a 'f').w;simp only[Tm.D,AU,DB]
  dsimp![↓W2]
  exact⟨a,lo,many,rfl,rfl,rfl,⟨b1,b2,by ext⟩,Dn.of q⟩
 |pick c t u=>
  obtain⟨c,r,rfl,e0⟩:=Pa hz;obtain⟨a,r,rfl,e1⟩:=Pa e0;obtain⟨b,r,rfl,e2⟩:=Pa e1;cases AH e2;simp only[Tm.D,AU,DB]
  dsimp![↓W2,gr]
  exact⟨c,a,b,rfl,rfl,rfl,Dn.of q⟩
 |bin o t u=>
  obtain⟨a,r,rfl,e0⟩:=Pa hz;obtain⟨b,r,rfl,e1⟩:=Pa e0;cases AH e1;have hA:=hall a 'f';have hB:=hall b 'f';simp only[Tm.D,AU,DB]
  dsimp![pO,pP]
  have hn:=GA.nm_ne (o:=o)
  (try rw[if_neg hn.2.2.2.2.1])
  (try rw[if_neg hn.2.2.2.2.2.2])
  (try rw[if_neg hn.2.2.2.2.2.1])
  by_cases hj:o=.join
  .subst hj;rw[if_pos (show GA.join.nm=Al "join" from rfl)];exact⟨a,b,rfl,rfl,hA,hB,Dn.of q⟩
  .rw[if_neg (show¬o.nm=Al "join" from λe=>hj (GA.nm_inj e))];exact⟨o,a,b,rfl,rfl,rfl,hA.w,hB.w,hj,Dn.of q⟩
def Tm.kid_leaf {t k l:Tm}(hk:k∈t.kids)(h:l∈k.leaves):l∈t.leaves:=by
 cases t<;>simp[Tm.kids,Tm.leaves]at hk ⊢
 .subst hk;exact h
 .rcases hk with rfl|rfl
  .exact .inl h
  .exact .inr h
 .rcases hk with rfl|rfl|rfl
  .exact .inl h
  .exact .inr (.inl h)
  .exact .inr (.inr h)
 .subst hk;exact h
structure DT (k0 k1 k2:List (Ck×D))(bs es:List (Str×Int))(e:bO)(t:Tm):Prop where
 b:∀x,Tm.box x∈t.leaves->∃w,bs.lookup x=some w/\(Rg (e.b x)/\(e.b x).1=w)/\DA k0 (.inr x)=some (HC (e.b x))
 l:∀x,Tm.late x∈t.leaves->∃w,bs.lookup x=some w/\(Rg (e.l x)/\(e.l x).1=w)/\DA k1 (.inr x)=some (HC (e.l x))
 d:∀x,Tm.door x∈t.leaves->∃w,es.lookup x=some w/\(Rg (e.d x)/\(e.d x).1=w)/\DA k2 (.inr x)=some (HC (e.d x))
def DT.kid {k0 k1 k2:List (Ck×D)}{bs es:List (Str×Int)}{e:bO}{t k:Tm}(h:DT k0 k1 k2 bs es e t)(hk:k∈t.kids):DT k0 k1 k2 bs es e k:=⟨λx m=>h.b x (Tm.kid_leaf hk m),λx m=>h.l x (Tm.kid_leaf hk m),λx m=>h.d x (Tm.kid_leaf hk m)⟩
def bu {ks:List Tm}{ws:List Int}(hl:ws.length=ks.length)(h:∀(i:Nat) (k:Tm) (a:Int),ks[i]? = some k->ws[i]? = some a->(k.rs e).1=a):(ks.map (Tm.rs e)).map (·.1)=ws:=by
 apply FM;intro i;rw[AI,AI];cases q:ks[i]? with
 |none=>have:=EM.mp q;rw[EM.mpr (by ext)];rfl
 |some k=>have hi:=(Ah.mp q).1;have e1:=Af (by omega:i<ws.length);rw[e1];simp only[FH];rw[h i k _ q e1]
def nY {k0 k1 k2:List (Ck×D)}{bs es:List (Str×Int)}{e:bO}{t:Tm}{w:Int}(hw:Wd bs es t w):DT k0 k1 k2 bs es e t->(Rg (t.rs e)/\(t.rs e).1=w)/\((∀x,Hh (e.b x)/\Hh (e.l x)/\Hh (e.d x))->Hh (t.rs e)):=by
 induction hw with
 |num c=>exact λ_=>⟨⟨⟨⟨c.1,c.2.1⟩,c.2.2,c.2.2⟩,rfl⟩,λ_=>rfl⟩
 | @box x w c=>intro h;obtain⟨w',a1,a2,_⟩:=h.b x (AD.mpr rfl);rw[c]at a1;cases a1;exact⟨a2,λk=>(k x).1⟩
 | @late x w c=>intro h;obtain⟨w',a1,a2,_⟩:=h.l x (AD.mpr rfl);rw[c]at a1;cases a1;exact⟨a2,λk=>(k x).2.1⟩
 | @door x w c=>intro h;obtain⟨w',a1,a2,_⟩:=h.d x (AD.mpr rfl);rw[c]at a1;cases a1;exact⟨a2,λk=>(k x).2.2⟩
 | @over t ws w kid ho ih=>
  intro h;obtain⟨hl,hne⟩:=Tm.over_len ho;have e1:=bu hl λi k a h1 h2=>(ih i k a h1 h2 (h.kid (AB h1))).1.2
  have hm:∀s∈t.kids.map (Tm.rs e),Rg s/\((∀x,Hh (e.b x)/\Hh (e.l x)/\Hh (e.d x))->Hh s):=λs hs=>by
   obtain⟨k,hk,rfl⟩:=Ao.mp hs;obtain⟨i,hi⟩:=Bt.mp hk;have hi':=(Ah.mp hi).1;have z:=ih i k _ hi (Af (by omega:i<ws.length)) (h.kid hk);exact⟨z.1.1,z.2⟩
  rw[Tm.rs_kids hne];obtain⟨r1,r2⟩:=qb (by rw[e1];exact ho) λs hs=>(hm s hs).1;exact⟨r1,λk=>r2 λs hs=>(hm s hs).2 k⟩
abbrev iD (n:Nat)(ds:List D)(M:Mp)(Q:Ef):Prop:=FW ds λx y=>Cw (Jc x) λt=>∃d0 d1 d2 k0 k1 k2 bs es e,y=.tup [d0,d1,d2]/\(E6 M d0=some k0/\E6 M d1=some k1/\E6 M d2=some k2)/\t.deep<=n/\(∃w,Wd bs es t w)/\DT k0 k1 k2 bs es e t/\Q (HC (t.rs e)) M
def ZdQ {n:Nat}(G_span_of:Od T T.x23 (n+5) (iD n)):Od T T.x23 (n+6) (iD (n+1)):=by
 refine CB.p2 T.x23.d.F ["term", "spans", "form"] λx y M Q hr nN h1=>?_;obtain⟨t,e1',d0,d1,d2,k0,k1,k2,bs,es,e,e2',⟨c0,c1,c2⟩,hn,⟨wd,hw⟩,dt,q⟩:_:=OO h1;refine⟨_,qC (Cv 2 nN 'b') (qC (Ew (AV CP (qv 2) BZ) (qO (CA (CJ (qA 'b' (qA 'b' (qA 'b' qN)))))) qE) (qC (Ew (AV CP (qv 2) BZ) (qO (CA (FV (KL hr) (Bf BE (qv 1) Aj) 'b' (λ_ _=>rfl)))) qE) (qC (Ew (AV CP (qv 2) BZ) (qO (CA (FV (KL hr) (Bf BE (qv 1) Aj) 'b' (λ_ _=>rfl)))) qE) (qC (Ew (AV CP (qv 2) BZ) (qO (CA (FV (KL hr) (Bf BE (qv 1) Aj) 'b' (λ_ _=>rfl)))) qE) (qO (CA (BN (Zhr T) (qA (qv 0) (qA (F9 (caps:=[("spans",1)]) ⟨rfl,by rfl,by rfl,by rfl,rfl,by rfl,by nofun⟩ rfl (RN (BN (iK T) (qA (qv 0) qN))) (λ_ _ _ _ _ _=>(BN G_span_of (qA (qv 0) (qA (qv 1) qN))))) qN))))))))),?_⟩;by_cases hk:t.kids=[]
 .cases hw with
  |num c=>
   simp only[Tm.D]
   dsimp![↓sh]
   exact Dn.of q
  | @box x _ c=>
   obtain⟨w',a1,a2,a5⟩:=dt.b x (AD.mpr rfl);simp only[Tm.D]
   dsimp![c9]
   rw[c0,BS,a5];exact Dn.of q
  | @late x _ c=>
   obtain⟨w',a1,a2,a5⟩:=dt.l x (AD.mpr rfl);simp only[Tm.D]
   dsimp![fi,fh]
   rw[c1,BS,a5];exact Dn.of q
  | @door x _ c=>
   obtain⟨w',a1,a2,a5⟩:=dt.d x (AD.mpr rfl);simp only[Tm.D]
   dsimp![fg,fe,gq]
   rw[c2,BS,a5];exact Dn.of q
  |over _ ho=>exact absurd hk (Tm.over_len ho).2
 .cases hw with
  |num c=>exact absurd rfl hk
  |box c=>exact absurd rfl hk
  |late c=>exact absurd rfl hk
  |door c=>exact absurd rfl hk
  | @over _ ws _ kid ho=>
   obtain⟨n1,n2,n3,n4⟩:=Tm.form_ne hk;have n1':=eq_false n1;have n2':=eq_false n2;have n3':=eq_false n3;have n4':=eq_false n4;have hk3:=Tm.kids_le t;obtain⟨hl,hne⟩:=Tm.over_len ho;have kd:∀(i:Nat) (k:Tm) (a:Int),t.kids[i]? = some k->ws[i]? = some a->Rg (k.rs e)/\(k.rs e).1=a:=λi k a h1 h2=>(nY (kid i k a h1 h2) (dt.kid (AB h1))).1;have e1:=bu (e:=e) hl λi k a h1 h2=>(kd i k a h1 h2).2
   have kw:∀k∈t.kids,Rg (k.rs e)/\∃w,Wd bs es k w:=λk hkm=>by
    obtain⟨i,hi⟩:=Bt.mp hkm;have hi':i<t.kids.length:=(Ah.mp hi).1;have e2:=Af (by omega:i<ws.length);exact⟨(kd i k _ hi e2).1,_,kid i k _ hi e2⟩
   rw[Tm.rs_kids hne]at q
   dsimp![LX,fE]
   simp only[fE,n1',n2',n3',n4'];grind;refine Ev.of (f:=λk=>HC (k.rs e)) (GS (by ext)) trivial (λk hkm R r=>?_) ?_
   .have dk:=Tm.deep_kid hkm
    simp_all![LX]
    exact⟨d0,d1,d2,k0,k1,k2,bs,es,e,rfl,⟨c0,c1,c2⟩,by ext,(kw k hkm).2,dt.kid hkm,r⟩
   (try grind)
   refine⟨t,t.kids.map (Tm.rs e),wd,rfl,by rw[BB];rfl,by rw[e1];exact ho,λm hm=>?_,Dn.of q⟩;obtain⟨k,hkm,rfl⟩:=Ao.mp hm;exact(kw k hkm).1
theorem dq (T:Tv P w K mg base):∀n,Od T T.x23 (n+5) (iD n)
 |0=>by
  have no:∀ds M Q,¬iD 0 ds M Q:=λds M Q h=>by
   obtain⟨x,y,rfl,h1⟩:=LI h;obtain⟨t,e1',d0,d1,d2,k0,k1,k2,bs,es,e,e2',_,hn,_⟩:_:=OO h1;have:=t.deep_pos;ext
  exact XE no
 |n+1=>ZdQ T (dq T n)
def eY {M:Mp}{x:D}{xs:List D}(h:Bg M x=some xs):HK M x=some xs:=by
 cases x with
 |tup _=>cases h
 |_=>exact h
abbrev ZfT:DL:=λds M Q=>Js ds λx y _=>Cw (Bg M x) λxs=>Fb y λn=>(xs.length:Int)<=n/\Q .non M
def iJ:Od T T.x36 1 ZfT:=by
 refine CB.p3 T.x36.d.F ["things", "most", "called"] λx y z M Q hr nN h1=>?_;obtain⟨xs,hl,h2⟩:=Cm h1;obtain⟨n,rfl,hn,q⟩:=C3 h2;refine⟨_,qO (Ew (AV LJ (B6 K6 T.B.len B8 (qA (qv 0) qN)) (qv 1)) (qO P5) qE),?_⟩
 dsimp![↓Sq]
 rw[eY hl,BS];exact Cj (λc=>absurd c (by ext)) λ_=>Dn.of q
noncomputable def GR (ts:List Str):List (Ck×D):=ts.map λz=>(.inr z,.bl true)
noncomputable def Nf:List (Ck×D)->Option (List Str)
 |[]=>some []
 |(.inr z,.bl true)::r=>(Nf r).map (z::·)
 |_::_=>none
theorem oP:∀ts,Nf (GR ts)=some ts
 |[]=>rfl
 |z::r=>by
  show(Nf (GR r)).map (z::·)=_;rw[oP r];rfl
theorem pJ:∀{AG:List (Ck×D)}{ts:List Str},Nf AG=some ts->AG=GR ts
 |[],ts,h=>by cases h;rfl
 |(.inr z,.bl true)::r,ts,h=>by
  change(Nf r).map (z::·)=_ at h;cases e:Nf r with
  |none=>rw[e]at h;cases h
  |some us=>rw[e]at h;cases h;rw[pJ e];rfl
 |(.inl z,_)::r,ts,h=>by cases h
 |(.inr z,.bl false)::r,ts,h=>by cases h
 |(.inr z,.str _)::r,ts,h=>by cases h
 |(.inr z,.int _)::r,ts,h=>by cases h
 |(.inr z,.non)::r,ts,h=>by cases h
 |(.inr z,.tup _)::r,ts,h=>by cases h
 |(.inr z,.lst _)::r,ts,h=>by cases h
 |(.inr z,.dic _)::r,ts,h=>by cases h
 |(.inr z,.ref _)::r,ts,h=>by cases h
theorem vU (z:Str):∀ts,((GR ts).any λkv=>decide (kv.1=.inr z))=decide (z∈ts)
 |[]=>rfl
 |y::r=>by
  show(decide ((FU y:Ck)=.inr z) || (GR r).any λkv=>decide (kv.1=.inr z))=_;rw[vU z r];by_cases e:y=z
  .subst e;simp
  .have e':¬z=y:=λq=>e q.symm;simp[e,e']
theorem vW (z:Str):∀ts,(DA (GR ts) (.inr z)).isSome=decide (z∈ts)
 |[]=>rfl
 |y::r=>by
  by_cases e:y=z
  .subst e;simp[DA,GR]
  .have h3:DA (GR (y::r)) (.inr z)=DA (GR r) (.inr z):=by simp[DA,GR,Cy,e]
   have e':¬z=y:=λq=>e q.symm;rw[h3,vW z r];simp[e']
def vV {z:Str}{ts:List Str}(h:z∉ts):HM (GR ts) (.inr z) (.bl true)=GR (ts++[z]):=by
 unfold HM;rw[vU,decide_eq_false h];simp[GR]
def yV (ts:List Str):(GR ts).length=ts.length:=by unfold GR;rw[Ab]
def Ta (M:Mp)(x:D)(k:List Str->Prop):Prop:=Cw (E6 M x) λAG=>Cw (Nf AG) k
def ng (h:Ta M x k):∃ts,E6 M x=some (GR ts)/\k ts:=by
 obtain⟨AG,e,h1⟩:=Cm h;obtain⟨ts,e2,q⟩:=Cm h1;rw[pJ e2]at e;exact⟨ts,e,q⟩
def vE {M:Mp}{x:D}{ts:List Str}{k:List Str->Prop}(e:E6 M x=some (GR ts)):Ta M x k=k ts:=by unfold Ta;rw[e,BS,oP,BS]
def OD (M:Mp)(x:D)(k:Av->List Str->Prop):Prop:=Ko x λp=>K1 (M p) λAG=>Cw (Nf AG) λts=>k p ts
def eV {M:Mp}{x:D}{k:Av->List Str->Prop}(h:OD M x k):∃p ts,x=.ref p/\M p=some (.dic (GR ts))/\k p ts:=by
 obtain⟨p,rfl,h1⟩:=IG h;cases e:M p with
 |none=>rw[e]at h1;exact h1.elim
 |some o=>
  cases o with
  |lst _=>rw[e]at h1;exact h1.elim
  |dct _=>rw[e]at h1;exact h1.elim
  |obj _ _=>rw[e]at h1;exact h1.elim
  |dic AG=>rw[e]at h1;obtain⟨ts,e2,q⟩:=Cm h1;rw[pJ e2]at e;exact⟨p,ts,rfl,e,q⟩
def Xf {M:Mp}{p:Av}{ts:List Str}{k:Av->List Str->Prop}(e:M p=some (.dic (GR ts))):OD M (.ref p) k=k p ts:=by
 unfold OD;rw[RK,e,Xo,oP,BS]
abbrev ZfS:DL:=λds M Q=>FW ds λx y=>GG x λz=>Ta M y λts=>z∉ts/\Q .non M
def iq:Od T T.x39 1 ZfS:=by
 refine CB.p2 T.x39.d.F ["name", "taken"] λx y M Q hr nN h1=>?_;obtain⟨z,rfl,h2⟩:=Ea h1;obtain⟨ts,ht,hz,q⟩:=ng h2;refine⟨_,qO (Ew (AV (nc (KL hr)) (qv 0) (qv 1) (by with_unfolding_all rfl)) (qO P5) qE),?_⟩
 dsimp![↓Sq,↓uH]
 simp only[ht,BS,oI,vW,decide_eq_false hz];exact Dn.of q
noncomputable def small (c:Nat):Bool:=decide (97<=c/\c<=122)
noncomputable def GW (z:Str):Bool:=decide (1<=z.length/\z.length<=8) && z.cps.toList.all small
def eG (z:Str):Prop:=(z.cps.all λc=>decide (c<128))=true
abbrev Zk5:DL:=λds M Q=>GH ds λx=>GG x λz=>(eG z/\z.length<=1000)/\Q (.bl (GW z)) M
def Zkk:Od T T.x37 1 Zk5:=by
 refine CB.p1 T.x37.d.F ["text"] λx M Q hr nN h1=>?_;obtain⟨z,e1',⟨ha,hz⟩,q⟩:_:=Ea h1;refine⟨_,qO (CA (Rs (OC Rx Rx Aj (B6 ZmM T.B.len B8 (qA (qv 0) qN)) (IP T.m_LONGEST_NAME)) (OB (B6 (tU rfl) T.B.all boot_all (qA (F9 (caps:=[]) ⟨rfl,by rfl,by rfl,by rfl,rfl,by rfl,by nofun⟩ rfl (ul (qv 0)) (λ_ _ _ _ _ _=>(OC af af BZ (qv 0) BZ))) qN))))),?_⟩
 dsimp![↓pU,↓aI,↓vj]
 refine⟨GS hz,Cj (λc1=>Cj (λc2=>⟨ha,?_⟩) λc2=>?_) λc1=>?_⟩
 .unfold KW;refine Ev.of (f:=λc=>.bl (small c)) (GS (by rw[BI];exact hz)) trivial (λc hc R r=>?_) ?_
  .simp_all![↓pU,decide_eq_false_iff_not]
   rw[show(Al "a").cps.toList=[97] by nofun,show(Al "z").cps.toList=[122] by nofun];have l1:([c] < ([97]:List Nat))↔c<97:=by simp[Oe]
   have l2:(([122]:List Nat) < [c])↔122<c:=by simp[Oe]
   refine Cj (λh=>?_) λh=>?_
   .rw[l1]at h;rw[show small c=!decide (([122]:List Nat) < [c]) by unfold small;rw[Dz];simp only[l2,decide_eq_true_eq,Oh,JA,decide_eq_false_iff_not];ext]at r;exact r
   .rw[l1]at h;rw[show small c=false by unfold small;rw[decide_eq_false_iff_not];ext]at r;exact r
  .rw[show(z.cps.toList.map λc=>D.bl (small c))=(z.cps.toList.map small).map D.bl by rw[BB];rfl,qX,BS];refine Dn.of ?_;rw[QX];rw[show GW z=z.cps.toList.all small by unfold GW;rw[decide_eq_true (by ext),Jy]]at q;exact q
 .rw[show GW z=false by unfold GW;rw[decide_eq_false (by ext),DU]]at q;exact Dn.of q
 .rw[show GW z=false by unfold GW;rw[decide_eq_false (by ext),DU]]at q;exact Dn.of q
abbrev ZgT:DL:=λds M Q=>FW ds λx y=>GG x λz=>OD M y λp ts=>((eG z/\z.length<=1000)/\GW z=true/\z∉ts/\ts.length<=100)/\Q .non (put M p (.dic (GR (ts++[z]))))
def rN:Od T T.x38 2 ZgT:=by
 refine CB.p2 T.x38.d.F ["name", "taken"] λx y M Q hr nN h1=>?_;obtain⟨z,rfl,h2⟩:=Ea h1;obtain⟨p,ts,e1',ht,⟨ha,hn,hz,hl⟩,q⟩:_:=eV h2;refine⟨_,qC (Ew (Ni (GF (BN (Zkk T) (qA (qv 0) qN)))) (qO P5) qE) (qC (Fh (BN (iq T) (qA (qv 0) (qA (qv 1) qN)))) (qO (Xw (KL hr) (qv 1) (qv 0) S6 rfl))),?_⟩
 dsimp![↓Z0,↓Sq,↓Xl]
 refine⟨ha,Cj (λc=>by rw[hn]at c;cases c) λ_=>?_⟩;rw[vE (sW ht),ht,Xo,vV hz,yV];exact⟨hz,BU (by ext),Dn.of q⟩
noncomputable def E8 (b:Str×Int×Int):D:=.tup [.str b.1,.int b.2.1,.int b.2.2]
noncomputable def GY (d:Str×Int):D:=.tup [.str d.1,.int d.2]
def KD (z:Str):Prop:=(eG z/\z.length<=1000)/\GW z=true
def V3 {M:Mp}{p:Av}{o:MO}{x:D}{xs:List D}(hp:∀ys,M p≠some (.lst ys))(h:Bg M x=some xs):Bg (put M p o) x=some xs:=by
 cases x with
 |ref q=>
  have hq:q≠p:=λe=>by
   subst e;cases e2:M q with
   |none=>simp[Bg,e2]at h
   |some u=>
    cases u with
    |lst ys=>exact hp ys e2
    |_=>simp[Bg,e2]at h
  unfold Bg at h ⊢;simp only[DJ hq];exact h
 |_=>exact h
def Zw {M:Mp}{p q:Av}{a b c d:MO}(h:q≠p):put (put (put (put M p a) q b) p c) q d=put (put M p c) q d:=by
 funext r;unfold put;by_cases e:r=q<;>by_cases e':r=p<;>simp[e,e']
def wW {ws:List (Str×Int)}{z:Str}{n:Int}(h:z∉ws.map (·.1)):HM (Fv ws) (.inr z) (.int n)=Fv (ws++[(z,n)]):=by
 have e:((Fv ws).any λkv=>decide (kv.1=.inr z))=false:=by
  rw[Q4];intro kv hkv;obtain⟨p,hp,rfl⟩:=Ao.mp hkv;simp only[decide_eq_true_eq,Sum.inr.injEq];intro e;exact h (by rw[<- e];exact FG hp)
 unfold HM;rw[e];simp[Fv]
def iB {α:Type}{f:α->Str}{ts:List Str}{bs:List α}{k:Nat}{b:α}(h:(ts++bs.map f).Nodup)(hb:bs[k]? = some b):f b∉ts++(bs.take k).map f:=by
 obtain⟨hk,e⟩:=Ah.mp hb
 have e2:bs=bs.take k++b::bs.drop (k+1):=by
  rw[<- e,<- EN hk,Fx]
 rw[e2,AJ,AU,<- Bv]at h;intro hm;have e3:(bs.take k++b::bs.drop (k+1)).take k=bs.take k:=by rw[<- e2]
 exact(Ci.mp h).2.2 _ hm _ Aw rfl
def rY (ts:List Str)(bs:List (Str×Int×Int)):Prop:=ts.length+bs.length<=100/\(∀b∈bs,KD b.1/\1<=b.2.1/\b.2.1<=64/\0<=b.2.2/\b.2.2<2^b.2.1.toNat)/\(ts++bs.map (·.1)).Nodup
abbrev Zda:DL:=λds M Q=>FW ds λx y=>∃bs:List (Str×Int×Int),Bg M x=some (bs.map E8)/\OD M y λp ts=>rY ts bs/\∀q,M q=none->Q (.ref q) (put (put M p (.dic (GR (ts++bs.map (·.1))))) q (.dic (Fv (bs.map λb=>(b.1,b.2.1)))))
def Zdf:Od T T.x40 3 Zda:=by
 refine CB.p2 T.x40.d.F ["boxes", "taken", "widths", "name", "width", "first"] λx y M Q hr nN h=>?_;obtain⟨bs,hl,h1⟩:=h;obtain⟨p,ts,e1',ht,⟨hb,hall,hnd⟩,q⟩:_:=eV h1;refine⟨_,qC (Cv 2 nN JG) (EW (LL AK rfl (J3 (qv 0)) (Xj (is:=[3,4,5]) rfl (Nu (ME (i:=3) nN rfl (Cd rfl)) (Nu (ME (i:=4) nN rfl (Cd rfl)) (Nu (ME (i:=5) nN rfl (Cd rfl)) V4)))) (qC (Fh (BN (rN T) (qA (qv 3) (qA (qv 1) qN)))) (qC (Fh (BN (rF T) (qA (qv 4) qN))) (qC (Fh (BN (ir T) (qA (qv 4) (qA (qv 5) qN)))) (qO (Xw (KL hr) (qv 2) (qv 3) (qv 4) rfl)))))) (qO (CA (qv 2)))),?_⟩
 dsimp![↓Xk]
 intro a ha;have hap:a≠p:=λe=>by rw[e,ht]at ha;cases ha
 have hlM:∀o o',Bg (put (put M p o) a o') x=some (bs.map E8):=λo o'=>V3 (λys e=>by rw[DJ hap,ha]at e;cases e) (V3 (λys e=>by rw[ht]at e;cases e) hl)
 have e0:put M a (.dic [])=put (put M p (.dic (GR ts))) a (.dic []):=by
  funext r;unfold put;by_cases e:r=a<;>by_cases e':r=p<;>simp[e,e',ht]
 rw[e0];refine⟨λτ M'=>∃v3 v4 v5,τ=[some x,some (.ref p),some (.ref a),v3,v4,v5]/\M'=put (put M p (.dic (GR (ts++bs.map (·.1))))) a (.dic (Fv (bs.map λb=>(b.1,b.2.1)))),?_,?_⟩
 .grind;simp only[hlM,BS];refine⟨λk τ M'=>∃v3 v4 v5,τ=[some x,some (.ref p),some (.ref a),v3,v4,v5]/\M'=put (put M p (.dic (GR (ts++(bs.take k).map (·.1))))) a (.dic (Fv ((bs.take k).map λb=>(b.1,b.2.1)))),⟨none,none,none,rfl,by simp[Fv]⟩,?_,?_,?_⟩
  .intro k τ M';ext1⟨v3,v4,v5,e1',e2'⟩;exact hlM _ _
  .intro k d τ M' hd;ext1⟨v3,v4,v5,e1',e2'⟩;obtain⟨b,hbk,rfl⟩:=Nt hd;obtain⟨⟨nm1,nm2⟩,w1,w2,f1,f2⟩:_:=hall b (AB hbk);have et:bs.take (k+1)=bs.take k++[b]:=by rw[Bb,hbk];rfl
   have hk:(bs.take k).length<=bs.length:=by rw[A3];ext
   simp only[E8];simp![↓Xl,Xn,Xr,Xq,Bo,Ba]
   have hnot:=iB (f:=λb:Str×Int×Int=>b.1) hnd hbk;rw[Xf (ts:=ts++(bs.take k).map (·.1)) (by rw[DJ (λe=>hap e.symm),Di])];refine⟨⟨nm1,nm2,hnot,by rw[Aq,Ab];ext⟩,⟨w1,w2⟩,⟨w1,f1,f2⟩,?_⟩;rw[DJ hap,Di,Xo];refine⟨BU (by unfold Fv;rw[Ab,Ab];ext),_,_,_,rfl,?_⟩;rw[wW (by rw[BB];exact λhm=>hnot (AS _ hm)),Zw hap,et,AJ,AJ,<- Bv];rfl
  .intro τ M';ext1⟨v3,v4,v5,e1',e2'⟩;rw[Ab,Bm];exact⟨v3,v4,v5,rfl,rfl⟩
 .intro τ M';ext1⟨v3,v4,v5,e1',e2'⟩;grind;exact Dn.of (q a ha)
def rW (ts:List Str)(bs:List (Str×Int)):Prop:=ts.length+bs.length<=100/\(∀b∈bs,KD b.1/\1<=b.2/\b.2<=64)/\(ts++bs.map (·.1)).Nodup
abbrev Zd9:DL:=λds M Q=>FW ds λx y=>∃bs:List (Str×Int),Bg M x=some (bs.map GY)/\OD M y λp ts=>rW ts bs/\∀q,M q=none->Q (.ref q) (put (put M p (.dic (GR (ts++bs.map (·.1))))) q (.dic (Fv bs)))
def Zde:Od T T.x41 3 Zd9:=by
 refine CB.p2 T.x41.d.F ["doors", "taken", "widths", "name", "width"] λx y M Q hr nN h=>?_;obtain⟨bs,hl,h1⟩:=h;obtain⟨p,ts,e1',ht,⟨hb,hall,hnd⟩,q⟩:_:=eV h1;refine⟨_,qC (Cv 2 nN JG) (EW (LL AK rfl (J3 (qv 0)) (Xj (is:=[3,4]) rfl (Nu (ME (i:=3) nN rfl (Cd rfl)) (Nu (ME (i:=4) nN rfl (Cd rfl)) V4))) (qC (Fh (BN (rN T) (qA (qv 3) (qA (qv 1) qN)))) (qC (Fh (BN (rF T) (qA (qv 4) qN))) (qO (Xw (KL hr) (qv 2) (qv 3) (qv 4) rfl))))) (qO (CA (qv 2)))),?_⟩
 dsimp![↓Xk]
 intro a ha;have hap:a≠p:=λe=>by rw[e,ht]at ha;cases ha
 have hlM:∀o o',Bg (put (put M p o) a o') x=some (bs.map GY):=λo o'=>V3 (λys e=>by rw[DJ hap,ha]at e;cases e) (V3 (λys e=>by rw[ht]at e;cases e) hl)
 have e0:put M a (.dic [])=put (put M p (.dic (GR ts))) a (.dic []):=by
  funext r;unfold put;by_cases e:r=a<;>by_cases e':r=p<;>simp[e,e',ht]
 rw[e0];refine⟨λτ M'=>∃v3 v4,τ=[some x,some (.ref p),some (.ref a),v3,v4]/\M'=put (put M p (.dic (GR (ts++bs.map (·.1))))) a (.dic (Fv bs)),?_,?_⟩
 .grind;simp only[hlM,BS];refine⟨λk τ M'=>∃v3 v4,τ=[some x,some (.ref p),some (.ref a),v3,v4]/\M'=put (put M p (.dic (GR (ts++(bs.take k).map (·.1))))) a (.dic (Fv (bs.take k))),⟨none,none,rfl,by simp[Fv]⟩,?_,?_,?_⟩
  .intro k τ M';ext1⟨v3,v4,e1',e2'⟩;exact hlM _ _
  .intro k d τ M' hd;ext1⟨v3,v4,e1',e2'⟩;obtain⟨b,hbk,rfl⟩:=Nt hd;obtain⟨⟨nm1,nm2⟩,w1,w2⟩:=hall b (AB hbk);have et:bs.take (k+1)=bs.take k++[b]:=by rw[Bb,hbk];rfl
   have hk:(bs.take k).length<=bs.length:=by rw[A3];ext
   simp only[GY];simp![↓Xl,Xn,Xr,Xq,Bo,Ba]
   have hnot:=iB (f:=λb:Str×Int=>b.1) hnd hbk;rw[Xf (ts:=ts++(bs.take k).map (·.1)) (by rw[DJ (λe=>hap e.symm),Di])];refine⟨⟨nm1,nm2,hnot,by rw[Aq,Ab];ext⟩,⟨w1,w2⟩,?_⟩;rw[DJ hap,Di,Xo];refine⟨BU (by unfold Fv;rw[Ab];ext),_,_,rfl,?_⟩;rw[wW (by exact λhm=>hnot (AS _ hm)),Zw hap,et,AJ,<- Bv];rfl
  .intro τ M';ext1⟨v3,v4,e1',e2'⟩;rw[Ab,Bm];exact⟨v3,v4,rfl,rfl⟩
 .intro τ M';ext1⟨v3,v4,e1',e2'⟩;grind;exact Dn.of (q a ha)
noncomputable def KU (w:Str×Tm):D:=.tup [.str w.1,w.2.D]
def OR (bs es:List (Str×Int))(t:Tm)(n:Int):Prop:=(t.parts<=100/\t.deep<=12)/\Wd bs es t n
structure RU (bs es:List (Str×Int))(g:Tm)(wr:List (Str×Tm)):Prop where
 g:OR bs es g 1
 l:wr.length<=6
 w:∀w∈wr,∃n,bs.lookup w.1=some n/\OR bs es w.2 n
 nd:(wr.map (·.1)).Nodup
def Ru (y:D)(k:List (Str×Int)->Prop):Prop:=Cw (ZQ y) λAG=>Cw (Nc AG) k
def tT {y:D}{k:List (Str×Int)->Prop}(h:Ru y k):∃ws,y=.dic (Fv ws)/\k ws:=by
 obtain⟨AG,e,h1⟩:=Cm h;obtain⟨ws,e2,q⟩:=Cm h1;rw[pL e2]at e;cases y with
 |dic ds=>cases e;exact⟨ws,rfl,q⟩
 |_=>cases e
def sf :Ru (.dic (Fv ws)) k=k ws:=by unfold Ru ZQ;rw[BS,oU,BS]
abbrev ZfQ:DL:=λds M Q=>Vy ds λr y bx dx=>∃(nm:Str) (g:Tm) (wx:D) (wr:List (Str×Tm)),r=.tup [.str nm,g.D,wx]/\Bg M wx=some (wr.map KU)/\OD M y λp ts=>Ru bx λbs=>Ru dx λes=>(KD nm/\nm∉ts/\ts.length<=100/\RU bs es g wr)/\Q .non (put M p (.dic (GR (ts++[nm]))))
def Zgi:Od T T.x42 18 ZfQ:=by
 refine CB.p4 T.x42.d.F ["rule", "taken", "box_widths", "door_widths", "written", "box", "term", "width"] λx y z v M Q hr nN h=>?_;obtain⟨nm,g,wx,wr,e1',hl,h1⟩:_:=h;obtain⟨p,ts,e1',ht,h2⟩:_:=eV h1;obtain⟨bs,rfl,h3⟩:=tT h2;obtain⟨es,e1',⟨hn,hnt,hlen,rok⟩,q⟩:_:=tT h3;refine⟨_,qC (Fh (BN (rN T) (qA 'b' (qA (qv 1) qN)))) (qC (Fh (BN (bL T) (qA (BN (gm T) (qA 'b' (qA (qv 2) (qA (qv 3) qN)))) (qA Aj qN)))) (qC (Fh (BN (iJ T) (qA 'b' (qA (IP T.m_MOST_WRITES) (qA BZ qN))))) (qC (Cv 4 nN JG) (qO (LL AK rfl (J3 'b') (Xj (is:=[5,6]) rfl (Nu (ME (i:=5) nN rfl (Cd rfl)) (Nu (ME (i:=6) nN rfl (Cd rfl)) V4))) (qC (Cv 7 nN (BN (rG T) (qA (qv 2) (qA (qv 5) qN)))) (qC (Fh (BN (iq T) (qA (qv 5) (qA (qv 4) qN)))) (qC (Xw (KL hr) (qv 4) (qv 5) S6 rfl) (qO (Fh (BN (bL T) (qA (BN (gm T) (qA (qv 6) (qA (qv 2) (qA (qv 3) qN)))) (qA (qv 7) qN))))))))))))),?_⟩
 dsimp![↓Xk,LX,yB]
 rw[Xf ht];have hlM:∀o,Bg (put M p o) wx=some (wr.map KU):=λo=>V3 (λys e=>by rw[ht]at e;cases e) hl;rw[hlM,BS];refine⟨⟨hn.1,hn.2,hnt,hlen⟩,rok.g.1,1,rok.g.2,rfl,by rw[Ab];have:=rok.l;ext,λa ha=>?_⟩;generalize hM2:put M p (.dic (GR (ts++[nm])))=M2 at ha ⊢;have hl2:Bg M2 wx=some (wr.map KU):=by rw[<- hM2];exact hlM _
 have hl3:∀o,Bg (put M2 a o) wx=some (wr.map KU):=λo=>V3 (λys e=>by rw[ha]at e;cases e) hl2;rw[hM2]at q;rw[hl3,BS];refine⟨λk τ M'=>∃v5 v6 v7,τ=[some (D.tup [D.str nm,g.D,wx]),some (D.ref p),some (D.dic (Fv bs)),some (D.dic (Fv es)),some (D.ref a),v5,v6,v7]/\M'=put M2 a (.dic (GR ((wr.take k).map (·.1)))),⟨none,none,none,rfl,rfl⟩,?_,?_,?_⟩
 .intro k τ M';ext1⟨v5,v6,v7,e1',e2'⟩;exact hl3 _
 .intro k d τ M' hd;ext1⟨v5,v6,v7,e1',e2'⟩;obtain⟨b,hbk,rfl⟩:=Nt hd;obtain⟨n,hb,tok⟩:=rok.w b (AB hbk);have et:wr.take (k+1)=wr.take k++[b]:=by rw[Bb,hbk];rfl
  have hk:(wr.take k).length<=6:=by rw[A3];have:=rok.l;ext
  have hnot:b.1∉(wr.take k).map (·.1):=by
   have:=iB (ts:=[]) (f:=λb:Str×Tm=>b.1) (by simpa using rok.nd) hbk;simpa using this
  simp only[KU];simp![↓PP,↓Xl,↓xb,Xn,Xr,Xq,Bo,Ba,LX,yB]
  simp only[hb,BS]
  (try grind)
  rw[vE (ts:=(wr.take k).map (·.1)) (sW Di)];refine⟨hnot,?_⟩;rw[vV hnot,QG,yV,Ab];refine⟨BU (by ext),tok.1,n,tok.2,rfl,_,_,_,rfl,?_⟩;rw[et,AJ];rfl
 .intro τ M';ext1⟨v5,v6,v7,e1',e2'⟩;exact RJ (Sub.put ha) q
structure Wk where
 bs:List (Str×Int×Int)
 ds:List (Str×Int)
 rs:List (Str×Tm×List (Str×Tm))
noncomputable def Mr (r:Str×Tm×List (Str×Tm)):D:=.tup [.str r.1,r.2.1.D,.tup (r.2.2.map KU)]
noncomputable def Wk.D (w:Wk):D:=.tup [.tup (w.bs.map E8),.tup (w.ds.map GY),.tup (w.rs.map Mr)]
noncomputable def Wk.ws (w:Wk):List (Str×Int):=w.bs.map λb=>(b.1,b.2.1)
structure Wk.Ok (w:Wk):Prop where
 b:w.bs.length<=12/\∀b∈w.bs,KD b.1/\1<=b.2.1/\b.2.1<=64/\0<=b.2.2/\b.2.2<2^b.2.1.toNat
 d:w.ds.length<=6/\∀d∈w.ds,KD d.1/\1<=d.2/\d.2<=64
 r:w.rs.length<=8/\∀r∈w.rs,KD r.1/\RU w.ws w.ds r.2.1 r.2.2
 nd:(w.bs.map (·.1)++w.ds.map (·.1)++w.rs.map (·.1)).Nodup
def sM (M:Mp)(x:D)(r:Str×Tm×List (Str×Tm)):Prop:=∃wx,x=.tup [.str r.1,r.2.1.D,wx]/\Bg M wx=some (r.2.2.map KU)
abbrev yr:DL:=λds M Q=>Js ds λx y z=>∃(w:Wk) (xs:List D),w.Ok/\Bg M x=some (w.bs.map E8)/\Bg M y=some (w.ds.map GY)/\Bg M z=some xs/\xs.length=w.rs.length/\(∀(i:Nat) x r,xs[i]? = some x->w.rs[i]? = some r->sM M x r)/\Q w.D M
def wq:Od T T.x35 19 yr:=by
 refine CB.p3 T.x35.d.F ["boxes", "doors", "rules", "taken", "box_widths", "door_widths", "rule"] λx y z M Q hr nN h=>?_;obtain⟨wk,xs,ok,h1,h2,h3,hlen,hr1,q⟩:_:=h;refine⟨_,qC (Fh (BN (iJ T) (qA (qv 0) (qA (IP T.m_MOST_BOXES) (qA BZ qN))))) (qC (Fh (BN (iJ T) (qA (qv 1) (qA (IP T.m_MOST_DOORS) (qA BZ qN))))) (qC (Fh (BN (iJ T) (qA (qv 2) (qA (IP T.m_MOST_RULES) (qA BZ qN))))) (EW (Cv 3 nN JG) (EW (Cv 4 nN (KZ (BN (Zdf T) (qA (qv 0) (qA (qv 3) qN))))) (EW (Cv 5 nN (KZ (BN (Zde T) (qA (qv 1) (qA (qv 3) qN))))) (EW (LL AK rfl (J3 (qv 2)) (NO (i:=6) nN rfl (Cd rfl)) (qO (Fh (BN (Zgi T) (qA (qv 6) (qA (qv 3) (qA (qv 4) (qA (qv 5) qN)))))))) (qO (CA (CJ (qA (Ee aM T.B.tuple I8 (qA (qv 0) qN)) (qA (Ee aM T.B.tuple I8 (qA (qv 1) qN)) (qA (Ee aM T.B.tuple I8 (qA (F9 (caps:=[]) ⟨rfl,by rfl,by rfl,by rfl,rfl,by rfl,by nofun⟩ rfl (J3 (qv 2)) (λ_ _ _ _ _ _=>(CJ (qA 'b' (qA 'b' (qA (Ee aM T.B.tuple I8 (qA 'b' qN)) qN)))))) qN)) qN)))))))))))),?_⟩;right;rw[h1,BS,h2,BS,h3,BS];have hb:=ok.b;have hd:=ok.d;have hrr:=ok.r;have hnd:=ok.nd;refine⟨by rw[Ab];ext,by rw[Ab];ext,by ext,?_⟩;refine⟨λτ M'=>∃p,M p=none/\τ=[some x,some y,some z,some (.ref p),none,none,none]/\M'=put M p (.dic (GR [])),?_,?_⟩
 .simp![↓Xk]
  exact λp hp=>⟨p,hp,rfl,rfl⟩
 intro τ M';ext1⟨p,hp,e1',e2'⟩;have keep:∀{x:D} {xs:List D} (o:MO),Bg M x=some xs->Bg (put M p o) x=some xs:=λo h=>V3 (λys e=>by rw[hp]at e;cases e) h;refine⟨λτ M'=>τ=[some x,some y,some z,some (.ref p),some (.dic (Fv wk.ws)),none,none]/\M'=put M p (.dic (GR (wk.bs.map (·.1)))),?_,?_⟩
 .simp![↓So]
  refine⟨wk.bs,keep _ h1,?_⟩;rw[Xf Di];refine⟨⟨by simp;ext,hb.2,by rw[Bv]at hnd;simpa using(Ci.mp hnd).1⟩,λa ha=>?_⟩;rw[QG,Di];dsimp only
  have ha':put M p (.dic (GR ([]++wk.bs.map (·.1)))) a=none:=by
   have hap:a≠p:=λe=>by rw[e,Di]at ha;cases ha
   rw[DJ hap]at ha ⊢;exact ha
  rw[UK ha',Hl];exact⟨rfl,rfl⟩
 rintro τ M' ⟨rfl,rfl⟩;refine⟨λτ M'=>τ=[some x,some y,some z,some (.ref p),some (.dic (Fv wk.ws)),some (.dic (Fv wk.ds)),none]/\M'=put M p (.dic (GR (wk.bs.map (·.1)++wk.ds.map (·.1)))),?_,?_⟩
 .simp![↓So]
  refine⟨wk.ds,keep _ h2,?_⟩;rw[Xf Di];refine⟨⟨by simp;ext,hd.2,(Ci.mp hnd).1⟩,λa ha=>?_⟩;rw[QG,Di];dsimp only
  have ha':put M p (.dic (GR (wk.bs.map (·.1)++wk.ds.map (·.1)))) a=none:=by
   have hap:a≠p:=λe=>by rw[e,Di]at ha;cases ha
   rw[DJ hap]at ha ⊢;exact ha
  rw[UK ha'];exact⟨rfl,rfl⟩
 rintro τ M' ⟨rfl,rfl⟩;refine⟨λτ M'=>∃v6,τ=[some x,some y,some z,some (.ref p),some (.dic (Fv wk.ws)),some (.dic (Fv wk.ds)),v6]/\M'=put M p (.dic (GR (wk.bs.map (·.1)++wk.ds.map (·.1)++wk.rs.map (·.1)))),?_,?_⟩
 .grind;rw[keep _ h3,BS];refine⟨λk τ M'=>∃v6,τ=[some x,some y,some z,some (.ref p),some (.dic (Fv wk.ws)),some (.dic (Fv wk.ds)),v6]/\M'=put M p (.dic (GR (wk.bs.map (·.1)++wk.ds.map (·.1)++(wk.rs.take k).map (·.1)))),⟨none,rfl,by simp⟩,?_,?_,?_⟩
  .rintro k τ M' ⟨v6,rfl,rfl⟩;exact keep _ h3
  .rintro k d τ M' hdk ⟨v6,rfl,rfl⟩;have hk:k<wk.rs.length:=by rw[<- hlen];exact(Ah.mp hdk).1
   have hrk:wk.rs[k]? = some wk.rs[k]:=Af hk;generalize wk.rs[k]=r at hrk;obtain⟨wx,rfl,hwx⟩:=hr1 k d r hdk hrk;obtain⟨nok,rok⟩:=hrr.2 r (AB hrk);have et:wk.rs.take (k+1)=wk.rs.take k++[r]:=by rw[Bb,hrk];rfl
   have hkl:(wk.rs.take k).length<=8:=by rw[A3];ext
   have hnot:=iB (f:=λb:Str×Tm×List (Str×Tm)=>b.1) hnd hrk;simp![↓kU,↓W8,sf]
   refine⟨r.1,r.2.1,wx,r.2.2,rfl,keep _ hwx,?_⟩;rw[Xf Di];refine⟨⟨nok,hnot,by simp;ext,rok⟩,some (.tup [.str r.1,r.2.1.D,wx]),rfl,?_⟩;rw[QG,et,AJ,<- Bv];rfl
  .rintro τ M' ⟨v6,rfl,rfl⟩;rw[hlen,Bm];exact⟨v6,rfl,rfl⟩
 rintro τ M' ⟨v6,rfl,rfl⟩;grind;rw[eY (keep _ h1),BS,eY (keep _ h2),BS,keep _ h3,BS];have hsub:=Sub.put (o:=.dic (GR (wk.bs.map (·.1)++wk.ds.map (·.1)++wk.rs.map (·.1)))) hp;have h3':=keep (.dic (GR (wk.bs.map (·.1)++wk.ds.map (·.1)++wk.rs.map (·.1)))) h3
 have hr2:∀(i:Nat) x r,xs[i]? = some x->wk.rs[i]? = some r->sM (put M p (.dic (GR (wk.bs.map (·.1)++wk.ds.map (·.1)++wk.rs.map (·.1))))) x r:=λi x r hx hr=>by
  obtain⟨wx,e,hw⟩:=hr1 i x r hx hr;exact⟨wx,e,keep _ hw⟩
 generalize put M p (.dic (GR (wk.bs.map (·.1)++wk.ds.map (·.1)++wk.rs.map (·.1))))=Mx at hsub h3' hr2 ⊢;refine⟨GS (by ext),λi ys M''=>M''=Mx/\ys=(wk.rs.take i).map Mr,⟨rfl,rfl⟩,?_,?_,?_⟩
 .rintro i ys M'' ⟨rfl,rfl⟩;exact⟨h3',by rw[Ab,A3];ext⟩
 .rintro i d ys M'' hdi ⟨rfl,rfl⟩;have hi:i<wk.rs.length:=by rw[<- hlen];exact(Ah.mp hdi).1
  have hri:wk.rs[i]? = some wk.rs[i]:=Af hi;generalize wk.rs[i]=r at hri;obtain⟨wx,rfl,hwx⟩:=hr2 i d r hdi hri
  simp_all![↓oJ]
  rw[eY hwx,BS];rw[Bb,hri,AJ];rfl
 .rintro ys M'' ⟨rfl,rfl⟩;rw[hlen,Bm];exact RJ hsub q
noncomputable def DW (z:Str)(r:Str×Tm×List (Str×Tm)):Bool:=decide (r.1=z)
abbrev Zk4:DL:=λds M Q=>FW ds λx y=>GG y λz=>∃(wk:Wk) (r:Str×Tm×List (Str×Tm)),x=wk.D/\wk.rs.find? (DW z)=some r/\Q (Mr r) M
def Wc:Od T T.x43 1 Zk4:=by
 refine CB.p2 T.x43.d.F ["works", "name", "rule"] λx y M Q hr nN h1=>?_;obtain⟨z,e1',wk,r,e2',hf,q⟩:_:=Ea h1;refine⟨_,EW (LL AK rfl (RN 'b') (NO (i:=2) nN rfl (Cd rfl)) (qO (Ew (AV CP (Bf BE (qv 2) Aj) (qv 1)) (qO (CA (qv 2))) qE))) (qO P5),?_⟩
 (try simp only[Mn,Ml,Mm])
 refine⟨λ_ _=>False,?_,λ_ _ h=>h.elim⟩;simp only[Wk.D];grind;refine⟨λk τ M'=>∃v,τ=[some (.tup [.tup (wk.bs.map E8),.tup (wk.ds.map GY),.tup (wk.rs.map Mr)]),some (.str z),v]/\M'=M/\(wk.rs.drop k).find? (DW z)=some r,⟨none,rfl,rfl,hf⟩,λ_ _ _ _=>trivial,?_,?_⟩
 .intro k d τ M' hd;ext1⟨v,e1',e2',hk⟩;obtain⟨r',hr',rfl⟩:=Nt hd
  have e:wk.rs.drop k=r'::wk.rs.drop (k+1):=by
   obtain⟨hkl,e⟩:=Ah.mp hr';rw[<- e];exact EN hkl
  rw[e,Cy]at hk;simp only[Mr];simp![↓kY]
  refine Cj (λc=>?_) λc=>?_
  .rw[show DW z r'=true from decide_eq_true c]at hk;cases hk;exact Dn.of q
  .rw[show DW z r'=false from decide_eq_false c]at hk;exact⟨_,rfl,hk⟩
 .intro τ M';ext1⟨v,e1',e2',hk⟩;rw[Ab,KH]at hk;cases hk
abbrev ZfJ:DL:=λds M Q=>GH ds λx=>∃wk:Wk,x=wk.D/\wk.Ok/\Q (.lst (wk.rs.map λr=>.str r.1)) M
def iL:Od T T.x44 1 ZfJ:=by
 refine CB.p1 T.x44.d.F ["works"] λx M Q hr nN h=>?_;obtain⟨wk,rfl,ok,q⟩:=h;refine⟨_,qO (CA (F9 (caps:=[]) ⟨rfl,by rfl,by rfl,by rfl,rfl,by rfl,by nofun⟩ rfl (RN 'b') (λ_ _ _ _ _ _=>'b'))),?_⟩;simp only[Wk.D];have hr8:=ok.r.1;right;refine Ev.of (ks:=wk.rs) (g:=Mr) (f:=λr=>.str r.1) (GS (by ext)) trivial (λb hb R r=>?_) ?_
 .simp only[Mr];walk_at "cap";exact r
 exact Dn.of q
theorem db:∀(ps acc:List (Ck×D)),((acc++ps).map (·.1)).Nodup->Ji acc ps=acc++ps
 |[],acc,_=>by rw[Cc];rfl
 |p::ps,acc,h=>by
  have hn:HM acc p.1 p.2=acc++[p]:=by
   unfold HM;rw[if_neg];intro hc;rw[Dh]at hc;obtain⟨kv,hkv,he⟩:=hc;rw[AJ,El]at h;exact h.2.2 kv.1 (Ao.mpr ⟨kv,hkv,rfl⟩) p.1 'f' (of_decide_eq_true he)
  have ih:=db ps (acc++[p]) (by rw[Bv];exact h);unfold Ji at ih ⊢;rw[DY,hn,ih,Bv];rfl
def iA (ps)(h:(ps.map (·.1)).Nodup):Ji [] ps=ps:=db ps [] h
def qD (ws)(h:(ws.map (·.1)).Nodup):((Fv ws).map (·.1)).Nodup:=by
 unfold Fv;rw[BB];have:Fm ((λx:Ck×D=>x.1) ∘ λp:Str×Int=>((.inr p.1:Ck),D.int p.2)) ws=(ws.map (·.1)).map FU:=by rw[BB];rfl
 rw[this];unfold FD at h ⊢;rw[C4];exact h.imp λhab e=>hab (EZ e)
abbrev ZgS:DL:=λds M Q=>GH ds λx=>∃wk:Wk,x=wk.D/\wk.Ok/\Q (.tup [.dic (Fv wk.ws),.dic (Fv wk.ds)]) M
def Zhq:Od T T.x45 1 ZgS:=by
 refine CB.p1 T.x45.d.F ["works"] λx M Q hr nN h=>?_;obtain⟨wk,rfl,ok,q⟩:=h;refine⟨_,qO (CA (CJ (qA (Ee (gG rfl) T.B.dict Qe (qA (F9 (caps:=[]) ⟨rfl,by rfl,by rfl,by rfl,rfl,by rfl,by nofun⟩ rfl (RN 'b') (λ_ _ _ _ _ _=>(CJ (qA 'b' (qA 'b' qN))))) qN)) (qA (Ee (gG rfl) T.B.dict Qe (qA (F9 (caps:=[]) ⟨rfl,by rfl,by rfl,by rfl,rfl,by rfl,by nofun⟩ rfl (RN 'b') (λ_ _ _ _ _ _=>(CJ (qA 'b' (qA 'b' qN))))) qN)) qN)))),?_⟩;simp only[Wk.D];have hb:=ok.b.1;have hd:=ok.d.1
 have n1:(wk.ws.map (·.1)).Nodup:=by
  have:=ok.nd;rw[Bv,El]at this;have e:wk.ws.map (·.1)=wk.bs.map (·.1):=by unfold Wk.ws;rw[BB];rfl
  rw[e];exact this.1
 have n2:(wk.ds.map (·.1)).Nodup:=by
  have:=ok.nd;rw[El]at this;exact(Ci.mp this.1).2.1
 right;refine Ev.of (ks:=wk.bs) (g:=E8) (f:=λb=>.tup [.str b.1,.int b.2.1]) (GS (by ext)) trivial (λb hb R r=>?_) ?_
 .simp only[E8];walk_at "cap";exact r
 refine⟨Fv wk.ws,?_,GS (by unfold Fv Wk.ws;rw[Ab,Ab];ext),?_⟩
 .simp[Bg,Ht,Fv,Wk.ws,kD]
 rw[iA _ (qD _ n1)]
 (try grind)
 refine Ev.of (ks:=wk.ds) (g:=GY) (f:=λb=>.tup [.str b.1,.int b.2]) (GS (by ext)) trivial (λb hb R r=>?_) ?_
 .simp only[GY];walk_at "cap";exact r
 refine⟨Fv wk.ds,?_,GS (by unfold Fv;rw[Ab];ext),?_⟩
 .simp[Bg,Ht,Fv,kD]
 rw[iA _ (qD _ n2)];exact Dn.of q
def xZ (hp:M p=none)(h:Bg M x=some xs):Bg (put M p o) x=some xs:=by
 cases x with
 |ref q=>
  have hq:q≠p:=λe=>by subst e;simp[Bg,hp]at h
  unfold Bg at h ⊢;simp only[DJ hq];exact h
 |_=>exact h
def ur (hp:M p=none)(h:E6 M x=some AG):E6 (put M p o) x=some AG:=by
 cases x with
 |ref q=>
  have hq:q≠p:=λe=>by subst e;simp[E6,hp]at h
  unfold E6 at h ⊢;simp only[DJ hq];exact h
 |_=>exact h
noncomputable def mO (s z:Str)(w:Int)(k:Nat):D:=.tup [.str s,.str z,.int (w-1-k)]
noncomputable def K5 (s z:Str)(w:Int):List D:=(Bx w.toNat).map (mO s z w)
noncomputable def EO (s:Str)(ws:List (Str×Int))(ss:List Str):List D:=ss.flatMap λz=>K5 s z ((ws.lookup z).getD 0)
def ak (h:∀z∈ss,∃w,ws.lookup z=some w/\1<=w/\w<=64):(EO s ws ss).length<=ss.length*64:=by
 induction ss with
 |nil=>exact Ej _
 |cons z ss ih=>obtain⟨w,e,h1,h2⟩:=h z Aw;have:=ih λz hz=>h z (Ay _ hz);unfold EO at this ⊢;rw[List.flatMap_cons,Aq,e,AO,K5,Ab,Ch];simp only[Option.getD_some];ext
abbrev ZfX:DL:=λds M Q=>Js ds λx y z=>GG x λs=>∃(ss:List Str) (ws:List (Str×Int)),Bg M y=some (ss.map D.str)/\E6 M z=some (Fv ws)/\ss.length<=12/\(∀z∈ss,∃w,ws.lookup z=some w/\1<=w/\w<=64)/\∀p,M p=none->Q (.ref p) (put M p (.lst (EO s ws ss)))
def XH:Od T T.x49 1 ZfX:=by
 refine CB.p3 T.x49.d.F ["sort", "names", "widths", "bits", "name"] λx y z M Q hr nN h1=>?_;obtain⟨so,e1',ss,ws,hy,hz,l12,hw,q⟩:_:=Ea h1;refine⟨_,qC (Cv 3 nN (Jg qN)) (EW (LL AK rfl (J3 (qv 1)) (NO (i:=4) nN rfl (Im rfl)) (qO (Fh (Kn AN CD CC Tu (qv 3) (qA (F9 (caps:=[("sort",0),("name",4)]) ⟨rfl,by rfl,by rfl,by rfl,rfl,by rfl,by nofun⟩ rfl (Zlx T.B.range (qA (BJ Nr (FV (KL hr) (qv 2) (qv 4) (λ_ _=>rfl)) Aj) (qA (Sf fB Aj) (qA (Sf fB Aj) qN)))) (λ_ _ _ _ _ _=>(CJ (qA (qv 1) (qA (qv 2) (qA (qv 0) qN)))))) qN))))) (qO (CA (qv 3)))),?_⟩;right;intro p hp;refine⟨λτ M'=>∃v4,M'=put M p (.lst (EO so ws ss))/\τ=[some (.str so),some y,some z,some (.ref p),v4],?_,?_⟩
 .grind;rw[xZ hp hy,BS];refine⟨λk τ M'=>∃v4,M'=put M p (.lst (EO so ws (ss.take k)))/\τ=[some (.str so),some y,some z,some (.ref p),v4],⟨none,rfl,rfl⟩,λ_ _ _ ⟨_,h,_⟩=>(by rw[h];exact xZ hp hy),?_,?_⟩
  .rintro k d τ M' hd ⟨v4,rfl,rfl⟩;obtain⟨nm,hn,rfl⟩:=Nt hd;obtain⟨wd,hl,w1,w64⟩:=hw nm (AB hn);simp![↓xg,↓kX,↓Ow,↓Ox,Gr,DI]
   rw[ur hp hz,BS,pK,hl,FH,BS];simp![DI]
   have rn:Qv (wd-1) (-1)=wd.toNat:=by
    unfold Qv;rw[if_pos (by ext)];ext
   have lt:=ak (s:=so) (ss:=ss.take k) λz hz=>hw z (GO hz);rw[A3]at lt;have k12:k<ss.length:=(Ah.mp hn).1;refine⟨⟨by ext,by ext⟩,?_⟩;rw[rn];unfold Nh;refine Ev.of (f:=λk:Nat=>mO so nm wd k) (GS (by rw[Ch];ext)) trivial (λi hi R q2=>?_) ?_
   .simp_all![DI]
    unfold mO at q2;rw[show wd-1+(i:Int)*-1=wd-1-i by ext];exact q2
   .rw[nT];refine⟨GS (by rw[Ab,Ch];ext),_,?_,rfl⟩;unfold EO;rw[Bb,hn,Pz];simp[hl,K5]
  .rintro τ M' ⟨v4,rfl,rfl⟩;rw[Ab,Bm];exact⟨v4,rfl,rfl⟩
 rintro τ M' ⟨v4,rfl,rfl⟩;grind;exact Dn.of (q p hp)
abbrev Zl8:DL:=λds M Q=>FW ds λx y=>∃xs ys:List Str,Bg M x=some (xs.map D.str)/\Bg M y=some (ys.map D.str)/\xs.length<=12/\ys.length<=12/\Q (.lst ((Ld xs ys).map D.str)) M
def gT:Od T T.x47 1 Zl8:=by
 refine CB.p2 T.x47.d.F ["names", "others"] λx y M Q hr nN h=>?_;obtain⟨xs,ys,hx,hy,l1,l2,q⟩:_:=h;refine⟨_,qO (CA (Zv (.inl rfl) rfl T.B.sorted T.B.set (qv 0) (qv 1))),?_⟩;have sb:(30:Nat)<Bh:=by decide
 have f1:=VY xs;have f2:=VY ys
 dsimp![↓uT]
 rw[hx,BS,P6,BS];refine⟨by ext,by ext,?_⟩
 (try grind)
 rw[hy,BS,P6,BS];refine⟨by ext,by ext,?_⟩
 (try grind)
 rw[show S7 .BitAnd xs ys=Ld xs ys from if_pos rfl];exact Dn.of q
abbrev Zir:DL:=λds M Q=>FW ds λx y=>∃xs ys:List Str,Bg M x=some (xs.map D.str)/\Bg M y=some (ys.map D.str)/\xs.length<=12/\ys.length<=12/\Q (.lst ((LG xs ys).map D.str)) M
def gl:Od T T.x48 1 Zir:=by
 refine CB.p2 T.x48.d.F ["names", "others"] λx y M Q hr nN h=>?_;obtain⟨xs,ys,hx,hy,l1,l2,q⟩:_:=h;refine⟨_,qO (CA (Zv (.inr rfl) rfl T.B.sorted T.B.set (qv 0) (qv 1))),?_⟩;have sb:(30:Nat)<Bh:=by decide
 have f1:=VY xs;have f2:=VY ys
 dsimp![↓uT]
 rw[hx,BS,P6,BS];refine⟨by ext,by ext,?_⟩
 (try grind)
 rw[hy,BS,P6,BS];refine⟨by ext,by ext,?_⟩
 (try grind)
 rw[show S7 .BitXor xs ys=LG xs ys from if_neg 'g'];exact Dn.of q
def Tm.leaf_kid {t l:Tm}(hk:t.kids≠[])(h:l∈t.leaves):∃k∈t.kids,l∈k.leaves:=by
 cases t<;>simp[Tm.kids,Tm.leaves]at hk h ⊢
 .exact h
 .exact h
 .exact h
 .exact h
def Wd.leaf {w:Int}(h:Wd bs es t w):∀l∈t.leaves,∃a,Wd bs es l a:=by
 induction h with
 |num h=>intro l hl;cases AD.mp hl;exact⟨_,.num h⟩
 |box h=>intro l hl;cases AD.mp hl;exact⟨_,.box h⟩
 |late h=>intro l hl;cases AD.mp hl;exact⟨_,.late h⟩
 |door h=>intro l hl;cases AD.mp hl;exact⟨_,.door h⟩
 | @over t ws w hk ho ih=>
  intro l hl;obtain⟨e1,e2⟩:=Tm.over_len ho;obtain⟨k,mk,lk⟩:=Tm.leaf_kid e2 hl;obtain⟨i,hi,hik⟩:=List.getElem_of_mem mk;have hi2:i<ws.length:=by ext
  exact ih i k ws[i] (by rw[Af hi,hik]) (Af hi2) l lk
theorem Tr:∀(xs ys:List Str),xs.Nodup->(∀x∈xs,x∈ys)->xs.length<=ys.length
 |[],_,_,_=>Ej _
 |x::xs,ys,nd,h=>by
  rw[Ek]at nd;have:=Tr xs (ys.erase x) nd.2 λy hy=>(List.mem_erase_of_ne (by rintro rfl;exact nd.1 hy)).mpr (h y (Ay _ hy));rw[List.length_erase_of_mem (h x Aw)]at this;have:=List.length_pos_of_mem (h x Aw);rw[AO];ext
def G3 :x∈Je xs↔x∈xs:=by
 unfold Je;rw[Qp];exact VX xs x
def TB (xs):(Je xs).Nodup:=(D5 _ _).nodup_iff.mpr (ZX xs)
def Xz {xs zs:List Str}(h:∀x∈xs,x∈zs):(Je xs).length<=zs.length:=Tr _ _ (TB xs) λx hx=>h x (G3.mp hx)
def XD {ws:List (Str×Int)}(h:ws.lookup x=some n):x∈ws.map (·.1):=by
 induction ws with
 |nil=>cases h
 |cons p ws ih=>
  rw[By]at h;split at h
  .next e=>exact AR.mpr (.inl (eq_of_beq e))
  .exact Ay _ (ih h)
def b6 {w:Int}(h:Wd bs es t w)(hx:x∈t.names "box"\/x∈t.names "late"):∃n,bs.lookup x=some n:=by
 rcases hx with hx|hx<;>(
  obtain⟨l,hl,hn⟩:=CT.mp hx;obtain⟨a,ha⟩:=h.leaf l hl;have lk:=t.leaves_kids l hl;cases ha with
  |num _=>simp[Tm.nameOf]at hn
  |box e=>simp[Tm.nameOf]at hn;(try obtain⟨_,rfl⟩:=hn);(try subst hn);exact⟨_,e⟩
  |late e=>simp[Tm.nameOf]at hn;(try obtain⟨_,rfl⟩:=hn);(try subst hn);exact⟨_,e⟩
  |door e=>simp[Tm.nameOf,qU,rJ]at hn
  | over _ ho=>exact absurd lk (Tm.over_len ho).2)
def Zkn {w:Int}(h:Wd bs es t w)(hx:x∈t.names "door"):∃n,es.lookup x=some n:=by
 obtain⟨l,hl,hn⟩:=CT.mp hx;obtain⟨a,ha⟩:=h.leaf l hl;have lk:=t.leaves_kids l hl;cases ha with
 |num _=>simp[Tm.nameOf]at hn
 |box e=>simp[Tm.nameOf,qV]at hn
 |late e=>simp[Tm.nameOf,rH]at hn
 |door e=>simp[Tm.nameOf]at hn;(try obtain⟨_,rfl⟩:=hn);(try subst hn);exact⟨_,e⟩
 |over _ ho=>exact absurd lk (Tm.over_len ho).2
def gJ {wk:Wk}(ok:wk.Ok)(h:wk.rs.find? (DW z)=some r):r∈wk.rs/\RU wk.ws wk.ds r.2.1 r.2.2:=by
 have hm:=DP h;exact⟨hm,(ok.r.2 r hm).2⟩
noncomputable def Hg (g:Tm):List Str:=Je (g.names "box")
noncomputable def Nk (g:Tm):List Str:=Je (g.names "late")
noncomputable def Hf (g:Tm):List Str:=Je (g.names "door")
noncomputable def Ti (ws ds:List (Str×Int))(g1 g2:Tm):List D:=
 EO "box" ws (Ld (Hg g1) (Hg g2))++EO "door" ds (Ld (Hf g1) (Hf g2))++EO "box" ws (LG (Hg g1) (Hg g2))++EO "door" ds (LG (Hf g1) (Hf g2))++EO "one" ws (Nk g1)++EO "other" ws (Nk g2)
structure Fs (wk:Wk)(g:Tm):Prop where
 t:g.deep<=12/\g.parts<=100
 b:∀x,x∈g.names "box"\/x∈g.names "late"->x∈wk.ws.map (·.1)/\∃n,wk.ws.lookup x=some n/\1<=n/\n<=64
 d:∀x∈g.names "door",x∈wk.ds.map (·.1)/\∃n,wk.ds.lookup x=some n/\1<=n/\n<=64
 l:(Hg g).length<=12/\(Nk g).length<=12/\(Hf g).length<=12
def zX {ws:List (Str×Int)}(h:ws.lookup x=some n):(x,n)∈ws:=by
 induction ws with
 |nil=>cases h
 |cons p ws ih=>
  rw[By]at h;split at h
  .next e=>cases h;rw[eq_of_beq e];exact Aw
  .exact Ay _ (ih h)
def Fs.of {wk:Wk}(ok:wk.Ok){g:Tm}(h:OR wk.ws wk.ds g 1):Fs wk g:=by
 have hb:∀x,x∈g.names "box"\/x∈g.names "late"->x∈wk.ws.map (·.1)/\∃n,wk.ws.lookup x=some n/\1<=n/\n<=64:=λx hx=>by
  obtain⟨n,e⟩:=b6 h.2 hx;refine⟨XD e,n,e,?_⟩;have:=zX e;unfold Wk.ws at this;obtain⟨b,hb,e2⟩:=Ao.mp this;cases e2;exact⟨(ok.b.2 b hb).2.1,(ok.b.2 b hb).2.2.1⟩
 have hd:∀x∈g.names "door",x∈wk.ds.map (·.1)/\∃n,wk.ds.lookup x=some n/\1<=n/\n<=64:=λx hx=>by
  obtain⟨n,e⟩:=Zkn h.2 hx;exact⟨XD e,n,e,(ok.d.2 _ (zX e)).2⟩
 have l1:=ok.b.1;have l2:=ok.d.1;have lw:(wk.ws.map (·.1)).length<=12:=by unfold Wk.ws;rw[Ab,Ab];exact l1
 have ld:(wk.ds.map (·.1)).length<=12:=by rw[Ab];ext
 exact⟨⟨h.1.2,h.1.1⟩,hb,hd,A4 (Xz λx hx=>(hb x (.inl hx)).1) lw,A4 (Xz λx hx=>(hb x (.inr hx)).1) lw,A4 (Xz λx hx=>(hd x hx).1) ld⟩
def Fs.few (h:Fs wk g):∀f,Ik f->(fm (g.names f)).length<64:=by
 obtain⟨l1,l2,l3⟩:=h.l;unfold Hg at l1;unfold Nk at l2;unfold Hf at l3;rw[pI]at l1 l2 l3;rintro f (rfl|rfl|rfl)<;>ext
def We (M:Mp)(g:Tm)(v:D):Prop:=∃a0 a1 a2,v=.tup [.ref a0,.ref a1,.ref a2]/\M a0=some (MW "box" g)/\M a1=some (MW "late" g)/\M a2=some (MW "door" g)
def We.sub (h:We M g v)(s:Sub M M'):We M' g v:=by
 obtain⟨a0,a1,a2,e,h0,h1,h2⟩:_:=h;exact⟨a0,a1,a2,e,s _ _ h0,s _ _ h1,s _ _ h2⟩
def vQ (m0:M p0=none)(m1:M p1=none)(m2:M p2=none)(n1:¬p1=p0)(n2:¬p2=p0)(n3:¬p2=p1):Sub M (put (put (put M p0 (MW "box" g)) p1 (MW "late" g)) p2 (MW "door" g))/\We (put (put (put M p0 (MW "box" g)) p1 (MW "late" g)) p2 (MW "door" g)) g (.tup [.ref p0,.ref p1,.ref p2]):=by
 refine⟨Sub.puts (Sub.puts (Sub.put m0) m1) m2,p0,p1,p2,rfl,?_,?_,?_⟩
 .rw[DJ (Bk n2),DJ (Bk n1),Di]
 .rw[DJ (Bk n3),Di]
 .rw[Di]
def XA (l:ss.length<=12)(h:∀z∈ss,∃w,ws.lookup z=some w/\1<=w/\w<=64):(EO s ws ss).length<=768:=by
 have:=ak (s:=s) h;ext
def Jb {M:Mp}{p:Av}{xs:List D}(h:M p=some (.lst xs)):NF M (.ref p)=some "list":=WV h
def wH (h:M p=some (.lst xs))(hy:Bg M y=some ys):GD (.ref p) [y] M Q=(xs.length+ys.length<=An/\Q .non (put M p (.lst (xs++ys)))):=by
 unfold GD;rw[RK,eJ,h];simp only[hy,BS]
def zl {M2 M3:Mp}(hs:Sub M2 M3)(hp:M2 p=none)(h:M3 p=some (.lst row))(hp':M3 p'=none)(h1:row.length<=5000)(h2:bs.length<=768)(q:∀M4,Sub M2 M4->M4 p=some (.lst (row++bs))->Q .non M4):GD (.ref p) [.ref p'] (put M3 p' (.lst bs)) Q:=by
 have hM2:M2 p'=none:=by
  cases e:M2 p' with
  |none=>rfl
  |some o=>rw[hs p' o e]at hp';cases hp'
 have ne:p≠p':=λe=>by rw[e,hp']at h;cases h
 rw[wH (by rw[DJ ne];exact h) (Pg Di)];have:(6000:Nat)<=An:=by decide
 exact⟨by ext,q _ (Sub.puts (Sub.puts hs hM2) hp) Di⟩
section
variable (wk:Wk)(g1 g2:Tm)
noncomputable abbrev tI:=EO "box" wk.ws (Ld (Hg g1) (Hg g2))
noncomputable abbrev tG:=tI wk g1 g2++EO "door" wk.ds (Ld (Hf g1) (Hf g2))
noncomputable abbrev tF:=tG wk g1 g2++EO "box" wk.ws (LG (Hg g1) (Hg g2))
noncomputable abbrev tE:=tF wk g1 g2++EO "door" wk.ds (LG (Hf g1) (Hf g2))
noncomputable abbrev tD:=tE wk g1 g2++EO "one" wk.ws (Nk g1)
noncomputable abbrev km:=tD wk g1 g2++EO "other" wk.ws (Nk g2)
end
noncomputable abbrev sQ (wk:Wk)(a b:Str)(u v x:Option D:=none):GK:=[some wk.D,some (.str a),some (.str b),some (.tup [.dic (Fv wk.ws),.dic (Fv wk.ds)]),u,v,x]
abbrev Wu (M2 M:Mp)(p:Av)(row:List D)(n:Nat):Prop:=Sub M2 M/\M2 p=none/\M p=some (.lst row)/\row.length<=n
abbrev Qa (wk:Wk)(a b:Str)(a0 a1 a2 b0 b1 b2:Av)(M2:Mp)(row:List D)(n:Nat)(τ:GK)(M:Mp):Prop:=∃p,Wu M2 M p row n/\τ=sQ wk a b (some (.tup [.ref a0,.ref a1,.ref a2])) (some (.tup [.ref b0,.ref b1,.ref b2])) (some (.ref p))
def aS {M2 M3:Mp}(j:Wu M2 M3 p row n)(hn:n<=5000)(hp':M3 p'=none)(h2:bs.length<=768)(q:∀M4,Wu M2 M4 p (row++bs) (n+768)->Q .non M4):GD (.ref p) [.ref p'] (put M3 p' (.lst bs)) Q:=zl j.1 j.2.1 j.2.2.1 hp' (A4 j.2.2.2 hn) h2 λM4 h h'=>q M4 ⟨h,j.2.1,h',by rw[Aq];exact Nat.add_le_add j.2.2.2 h2⟩
abbrev ZfY:DL:=λds M Q=>Js ds λx y z=>GG y λa=>GG z λb=>∃(wk:Wk) (r1 r2:Str×Tm×List (Str×Tm)),x=wk.D/\wk.Ok/\wk.rs.find? (DW a)=some r1/\wk.rs.find? (DW b)=some r2/\∀p,M p=none->Q (.ref p) (put M p (.lst (Ti wk.ws wk.ds r1.2.1 r2.2.1)))
def Zgl:Od T T.x46 17 ZfY:=by
 refine CB.p3 T.x46.d.F ["works", "one", "other", "widths", "mine", "yours", "row"] λx y z M Q hr nN h1=>?_;obtain⟨a,rfl,h2⟩:=Ea h1;obtain⟨b,e1',wk,r1,r2,e2',ok,f1,f2,q⟩:_:=Ea h2;have o1:=(gJ ok f1).2.g;have o2:=(gJ ok f2).2.g;refine⟨_,EW (Cv 3 nN (BN (Zhq T) (qA (qv 0) qN))) (EW (Cv 4 nN (BN (gQ T) (qA (Bf BE (BN (Wc T) (qA (qv 0) (qA (qv 1) qN))) Aj) qN))) (EW (Cv 5 nN (BN (gQ T) (qA (Bf BE (BN (Wc T) (qA (qv 0) (qA (qv 2) qN))) Aj) qN))) (EW (Cv 6 nN (BN (XH T) (qA BZ (qA (BN (gT T) (qA (Bf BE (qv 4) Aj) (qA (Bf BE (qv 5) Aj) qN))) (qA (Bf BE (qv 3) Aj) qN))))) (EW (Fh (Kn AN CD CC Tu (qv 6) (qA (BN (XH T) (qA BZ (qA (BN (gT T) (qA (Bf BE (qv 4) Aj) (qA (Bf BE (qv 5) Aj) qN))) (qA (Bf BE (qv 3) Aj) qN)))) qN))) (EW (Fh (Kn AN CD CC Tu (qv 6) (qA (BN (XH T) (qA BZ (qA (BN (gl T) (qA (Bf BE (qv 4) Aj) (qA (Bf BE (qv 5) Aj) qN))) (qA (Bf BE (qv 3) Aj) qN)))) qN))) (EW (Fh (Kn AN CD CC Tu (qv 6) (qA (BN (XH T) (qA BZ (qA (BN (gl T) (qA (Bf BE (qv 4) Aj) (qA (Bf BE (qv 5) Aj) qN))) (qA (Bf BE (qv 3) Aj) qN)))) qN))) (EW (Fh (Kn AN CD CC Tu (qv 6) (qA (BN (XH T) (qA BZ (qA (Bf BE (qv 4) Aj) (qA (Bf BE (qv 3) Aj) qN)))) qN))) (EW (Fh (Kn AN CD CC Tu (qv 6) (qA (BN (XH T) (qA BZ (qA (Bf BE (qv 5) Aj) (qA (Bf BE (qv 3) Aj) qN)))) qN))) (qO (CA (qv 6))))))))))),?_⟩
 (try simp only[Mn,Ml,Mm])
 refine⟨λτ M'=>M'=M/\τ=sQ wk a b,?_,?_⟩
 .grind;exact⟨wk,rfl,ok,rfl⟩
 rintro τ M' ⟨rfl,rfl⟩;have k1:=Fs.of ok o1;have k2:=Fs.of ok o2;refine⟨λτ M1=>∃u,(Sub M' M1/\We M1 r1.2.1 u)/\τ=sQ wk a b (some u),?_,?_⟩
 .grind;refine⟨wk,r1,rfl,f1,?_⟩;simp only[Mr];simp![LX]
  refine⟨k1.t.1,A4 k1.t.2 'g',k1.few,λp0 p1 p2 m0 m1 m2 n1 n2 n3=>?_⟩;obtain⟨h1,h2⟩:=vQ (g:=r1.2.1) m0 m1 m2 n1 n2 n3;exact⟨_,⟨h1,h2⟩,rfl⟩
 intro τ M1;ext1⟨u1,⟨sb1,six1⟩,e1'⟩;refine⟨λτ M2=>∃u,(Sub M' M2/\We M2 r1.2.1 u1/\We M2 r2.2.1 u)/\τ=sQ wk a b (some u1) (some u),?_,?_⟩
 .grind;refine⟨wk,r2,rfl,f2,?_⟩;simp only[Mr];simp![LX]
  refine⟨k2.t.1,A4 k2.t.2 'g',k2.few,λp0 p1 p2 m0 m1 m2 n1 n2 n3=>?_⟩;obtain⟨h1,h2⟩:=vQ (g:=r2.2.1) m0 m1 m2 n1 n2 n3;exact⟨_,⟨sb1.trans h1,six1.sub h1,h2⟩,rfl⟩
 intro τ M2;ext1⟨u2,⟨sb2,⟨a0,a1,a2,e1',A0,A1,A2⟩,⟨b0,b1,b2,e2',B0,B1,B2⟩⟩,e3'⟩;have mS:∀{x:Str} {xs ys:List Str},x∈Ld xs ys->x∈xs:=λh=>(Bl.mp (G3.mp h)).1;have hS:∀{xs ys:List Str},xs.length<=12->(Ld xs ys).length<=12:=λh=>A4 (Xz λx hx=>(Bl.mp hx).1) h
 have mU:∀{x:Str} {xs ys:List Str},x∈LG xs ys->x∈xs\/x∈ys:=λh=>by
  rcases AQ.mp (G3.mp h)with h|h
  .exact .inr (Bl.mp h).1
  .exact .inl (Bl.mp h).1
 have lU1:(LG (Hg r1.2.1) (Hg r2.2.1)).length<=12:=A4 (Xz (zs:=wk.ws.map (·.1)) λx hx=>(mU (G3.mpr hx)).elim (λh=>(k1.b _ (.inl (G3.mp h))).1) λh=>(k2.b _ (.inl (G3.mp h))).1) (by unfold Wk.ws;rw[Ab,Ab];exact ok.b.1);have lU2:(LG (Hf r1.2.1) (Hf r2.2.1)).length<=12:=A4 (Xz (zs:=wk.ds.map (·.1)) λx hx=>(mU (G3.mpr hx)).elim (λh=>(k1.d _ (G3.mp h)).1) λh=>(k2.d _ (G3.mp h)).1) (by rw[Ab];have:=ok.d.1;ext);have dB:∀{g x},Fs wk g->x∈Hg g->∃n,wk.ws.lookup x=some n/\1<=n/\n<=64:=λk hx=>(k.b _ (.inl (G3.mp hx))).2;have dL:∀{g x},Fs wk g->x∈Nk g->∃n,wk.ws.lookup x=some n/\1<=n/\n<=64:=λk hx=>(k.b _ (.inr (G3.mp hx))).2;have dD:∀{g x},Fs wk g->x∈Hf g->∃n,wk.ds.lookup x=some n/\1<=n/\n<=64:=λk hx=>(k.d _ (G3.mp hx)).2;have e0:=λz hz=>dB k1 (mS (x:=z) (xs:=Hg r1.2.1) (ys:=Hg r2.2.1) hz);have e1:=λz hz=>dD k1 (mS (x:=z) (xs:=Hf r1.2.1) (ys:=Hf r2.2.1) hz);have e2:=λz hz=>(mU (x:=z) (xs:=Hg r1.2.1) (ys:=Hg r2.2.1) hz).elim (dB k1) (dB k2);have e3:=λz hz=>(mU (x:=z) (xs:=Hf r1.2.1) (ys:=Hf r2.2.1) hz).elim (dD k1) (dD k2);refine⟨Qa wk a b a0 a1 a2 b0 b1 b2 M2 (tI wk r1.2.1 r2.2.1) 768,?_,?_⟩
 .simp![↓W7]
  refine⟨Hg r1.2.1,Hg r2.2.1,Pg A0,Pg B0,k1.l.1,k2.l.1,?_⟩
  (try grind)
  exact⟨_,wk.ws,rfl,rfl,hS k1.l.1,e0,λp hp=>⟨p,⟨Sub.put hp,hp,Di,XA (hS k1.l.1) e0⟩,rfl⟩⟩
 rintro τ M3 ⟨p,j,rfl⟩;refine⟨Qa wk a b a0 a1 a2 b0 b1 b2 M2 (tG wk r1.2.1 r2.2.1) 1536,?_,?_⟩
 .simp![↓W7]
  refine⟨Jb j.2.2.1,Hf r1.2.1,Hf r2.2.1,Pg (j.1 _ _ A2),Pg (j.1 _ _ B2),k1.l.2.2,k2.l.2.2,?_⟩
  (try grind)
  exact⟨_,wk.ds,rfl,rfl,hS k1.l.2.2,e1,λp' h=>aS j 'g' h (XA (hS k1.l.2.2) e1) λM4 h=>⟨p,h,rfl⟩⟩
 clear j;rintro τ M3 ⟨p,j,rfl⟩;refine⟨Qa wk a b a0 a1 a2 b0 b1 b2 M2 (tF wk r1.2.1 r2.2.1) 2304,?_,?_⟩
 .simp![↓W7]
  refine⟨Jb j.2.2.1,Hg r1.2.1,Hg r2.2.1,Pg (j.1 _ _ A0),Pg (j.1 _ _ B0),k1.l.1,k2.l.1,?_⟩
  (try grind)
  exact⟨_,wk.ws,rfl,rfl,lU1,e2,λp' h=>aS j 'g' h (XA lU1 e2) λM4 h=>⟨p,h,rfl⟩⟩
 clear j;rintro τ M3 ⟨p,j,rfl⟩;refine⟨Qa wk a b a0 a1 a2 b0 b1 b2 M2 (tE wk r1.2.1 r2.2.1) 3072,?_,?_⟩
 .simp![↓W7]
  refine⟨Jb j.2.2.1,Hf r1.2.1,Hf r2.2.1,Pg (j.1 _ _ A2),Pg (j.1 _ _ B2),k1.l.2.2,k2.l.2.2,?_⟩
  (try grind)
  exact⟨_,wk.ds,rfl,rfl,lU2,e3,λp' h=>aS j 'g' h (XA lU2 e3) λM4 h=>⟨p,h,rfl⟩⟩
 clear j;rintro τ M3 ⟨p,j,rfl⟩;refine⟨Qa wk a b a0 a1 a2 b0 b1 b2 M2 (tD wk r1.2.1 r2.2.1) 3840,?_,?_⟩
 .simp![↓W7]
  exact⟨Jb j.2.2.1,Nk r1.2.1,wk.ws,Pg (j.1 _ _ A1),rfl,k1.l.2.1,λz=>dL k1,λp' h=>aS j 'g' h (XA k1.l.2.1 λz=>dL k1) λM4 h=>⟨p,h,rfl⟩⟩
 clear j;rintro τ M3 ⟨p,j,rfl⟩;refine⟨Qa wk a b a0 a1 a2 b0 b1 b2 M2 (km wk r1.2.1 r2.2.1) 4608,?_,?_⟩
 .simp![↓W7]
  exact⟨Jb j.2.2.1,Nk r2.2.1,wk.ws,Pg (j.1 _ _ B1),rfl,k2.l.2.1,λz=>dL k2,λp' h=>aS j 'g' h (XA k2.l.2.1 λz=>dL k2) λM4 h=>⟨p,h,rfl⟩⟩
 clear j;intro τ M3;ext1⟨p,⟨sb3,hp,hM,-⟩,e1'⟩;grind;refine RJ (M:=put M' p (.lst (Ti wk.ws wk.ds r1.2.1 r2.2.1))) (λx o e=>?_) (q p ?_)
 .by_cases c:x=p
  .subst c;rw[Di]at e;rw[<- e];exact hM
  .rw[DJ c]at e;exact sb3 _ _ (sb2 _ _ e)
 .cases e:M' p with
  |none=>rfl
  |some o=>rw[sb2 p o e]at hp;cases hp
noncomputable def bD (b:Str×Str×Nat):D:=.tup [.str b.1,.str b.2.1,.int b.2.2]
structure KA where
 o:Av
 q:Av
 m:Av
 d:Av
 b:Av
 e:Av
 f:Av
 g:Av
def Lk (s:Str):Prop:=s = "box"\/s = "door"\/s = "one"\/s = "other"
noncomputable def KA.at (A:KA)(s:Str):Av:=if s = "box" then A.b else if s = "door" then A.e else if s = "one" then A.f else A.g
noncomputable def LS (row:List 'l')(ks:List Int)(s z:Str)(w:Nat):List Int:=(Bx w).map λp=>ks.getD (row.idxOf (s,z,p)) 2
noncomputable def Ip (row:List 'l')(ks:List Int)(E:Str->List (Str×Nat))(s:Str):List (Ck×D):=(E s).map λn=>(.inr n.1,NG (LS row ks s n.1 n.2))
noncomputable def JD (A:KA):List (Ck×D):=[(.inr "box",.ref A.b),(.inr "door",.ref A.e),(.inr "one",.ref A.f),(.inr "other",.ref A.g)]
noncomputable def NK (A:KA):List (Str×D):=[("row",.ref A.q),("marks",.ref A.m),("spans",.ref A.d)]
def wP (A:KA):BL (Al "row") (NK A)=some (.ref A.q):=by
 unfold NK;rw[By,show((Al "row":Str) == ("row":Str))=true by nofun]
def RO (A:KA):BL (Al "marks") (NK A)=some (.ref A.m):=by
 unfold NK;rw[By,show((Al "marks":Str) == ("row":Str))=false by nofun,By,show((Al "marks":Str) == ("marks":Str))=true by nofun]
def bB (A:KA):BL (Al "spans") (NK A)=some (.ref A.d):=by
 unfold NK;rw[By,show((Al "spans":Str) == ("row":Str))=false by nofun,By,show((Al "spans":Str) == ("marks":Str))=false by nofun,By,show((Al "spans":Str) == ("spans":Str))=true by nofun]
def Sl {M:Mp}{p:Av}{AG:List (Ck×D)}(h:M p=some (.dic AG)):E6 M (.ref p)=some AG:=by simp[E6,h]
structure Gg (C:Av)(M:Mp)(A:KA)(E:Str->List (Str×Nat))(row:List (Str×Str×Nat))(ms ks:List Int):Prop where
 o:M A.o=some (.obj C (NK A))
 q:M A.q=some (.lst (row.map bD))
 m:M A.m=some (.lst (ms.map D.int))
 d:M A.d=some (.dic (JD A))
 s:∀s,Lk s->M (A.at s)=some (.dic (Ip row ks E s))
 nd:[A.b,A.e,A.f,A.g].Nodup
 qm:A.q≠A.m
structure OU (E:Str->List (Str×Nat))(row:List (Str×Str×Nat)):Prop where
 nd:row.Nodup
 k:∀b∈row,Lk b.1/\∃w,(b.2.1,w)∈E b.1/\b.2.2<w
 e:∀s,((E s).map (·.1)).Nodup/\(E s).length<=12/\∀n∈E s,1<=n.2/\n.2<=64
 l:row.length<=5000
def JM (A:KA)(M M':Mp):Prop:=∀p,p∉[A.m,A.b,A.e,A.f,A.g]->M' p=M p
def JM.refl (A:KA)(M:Mp):JM A M M:=λ_ _=>rfl
theorem JM.trans {A:KA}{M M1 M2:Mp}(h:JM A M M1)(g:JM A M1 M2):JM A M M2:=λp hp=>(g p hp).trans (h p hp)
def oB (A:KA)(s:Str):A.at s∈[A.m,A.b,A.e,A.f,A.g]:=by
 unfold KA.at
 split
 .simp
 .split
  .simp
  .split<;>simp
def VT (A:KA):A.at "box" = A.b:=if_pos rfl
def V1 (A:KA):A.at "door" = A.e:=by unfold KA.at;rw[if_neg 'k',if_pos rfl]
def VU (A:KA):A.at "one" = A.f:=by unfold KA.at;rw[if_neg 'k',if_neg 'k',if_pos rfl]
def V5 (A:KA):A.at "other" = A.g:=by unfold KA.at;rw[if_neg 'k',if_neg 'k',if_neg 'k']
def wA {A:KA}(nd:[A.b,A.e,A.f,A.g].Nodup)(hs:Lk s)(ht:Lk t)(h:A.at s=A.at t):s=t:=by
 simp only[Ek,BD,AT,or_false,not_or]at nd;obtain⟨⟨n1,n2,n3⟩,⟨n4,n5⟩,n6,-⟩:_:=nd;rcases hs with rfl|rfl|rfl|rfl<;>rcases ht with rfl|rfl|rfl|rfl<;>simp only[VT,V1,VU,V5]at h<;>first|rfl|exact absurd h ‹_› | exact absurd h.symm ‹_›
def vx (A:KA):((JD A).map (·.1)).Nodup:=by
 show([.inr "box",.inr "door",.inr "one",.inr "other"]:List Ck).Nodup;nofun
def Xs {A:KA}{s:Str}(h:Lk s):DA (JD A) (.inr s)=some (.ref (A.at s)):=by
 refine bI (vx A) ?_;rcases h with rfl|rfl|rfl|rfl<;>simp only[VT,V1,VU,V5,JD]<;>simp
def UQ (i:Nat)(m:Int)(ks ks':List Int):Prop:=ks'.getD i 2=m/\∀j,j≠i->ks'.getD j 2=ks.getD j 2
def fT (row:List 'l')(ks:List Int)(s z:Str)(w:Nat):(LS row ks s z w).length=w:=by unfold LS;rw[Ab,Ch]
def qp {row:List 'l'}(nd:row.Nodup)(h:row[i]? = some b):row.idxOf b=i:=by
 obtain⟨hi,e⟩:=Ah.mp h;have hl:=LB (AB h);have e2:=Qr hl;exact(JU nd).mp (e2.trans e.symm)
def wK {row:List 'l'}(h:row[i]? = some b)(ne:c≠b):row.idxOf c≠i:=λe=>by
 obtain⟨hi,e1⟩:=Ah.mp h;have hl:row.idxOf c<row.length:=by ext
 have e2:=Qr hl;exact ne (by rw[<- e1,<- e2];congr 1)
def vf (nd:row.Nodup)(c:UQ i m ks ks'){p w:Nat}(h:row[i]? = some (s,z,p))(hp:p<w):LS row ks' s z w=(LS row ks s z w).set p m:=by
 refine FM λj=>?_;unfold LS;rw[Q3,AI,AI,Ab,Ch];by_cases e:p=j
 .subst e;rw[if_pos rfl,if_pos hp,ET hp];show some (ks'.getD (row.idxOf (s,z,p)) 2)=_;rw[qp nd h,c.1]
 .rw[if_neg e];rcases Hn j w with hj|hj
  .rw[ET hj];show some (ks'.getD (row.idxOf (s,z,j)) 2)=some (ks.getD (row.idxOf (s,z,j)) 2);rw[c.2 _ (wK h λe2=>e (by cases e2;rfl))]
  .rw[BA (by rw[Ch];exact hj)];rfl
def zY {row:List 'l'}{ks ks':List Int}{i:Nat}{m:Int}(c:UQ i m ks ks'){s z:Str}{p:Nat}(h:row[i]? = some (s,z,p)){s' z':Str}(ne:¬(s'=s/\z'=z))(w:Nat):LS row ks' s' z' w=LS row ks s' z' w:=by
 unfold LS;refine D6 λj _=>?_;exact c.2 _ (wK h λe2=>ne (by cases e2;exact⟨rfl,rfl⟩))
def Zla (c:UQ i m ks ks')(h:row[i]? = some (s,z,p))(ne:s'≠s):Ip row ks' E s'=Ip row ks E s':=by
 unfold Ip;refine D6 λn _=>?_;rw[zY c h (λe=>ne e.1)]
def pH {w:Nat}(nd:((E s).map (·.1)).Nodup)(h:(z,w)∈E s):DA (Ip row ks E s) (.inr z)=some (NG (LS row ks s z w)):=by
 refine bI ?_ (Ao.mpr ⟨(z,w),h,rfl⟩);unfold Ip;rw[BB];have e:Fm ((λx:Ck×D=>x.1) ∘ λn:Str×Nat=>((.inr n.1:Ck),NG (LS row ks s n.1 n.2))) (E s)=((E s).map (·.1)).map FU:=by rw[BB];rfl
 rw[e];unfold FD at nd ⊢;rw[C4];exact nd.imp λhab e=>hab (EZ e)
def yp (rn:row.Nodup)(c:UQ i m ks ks'){p w:Nat}(h:row[i]? = some (s,z,p))(hp:p<w)(nd:((E s).map (·.1)).Nodup)(hz:(z,w)∈E s):HM (Ip row ks E s) (.inr z) (NG ((LS row ks s z w).set p m))=Ip row ks' E s:=by
 have hany:((Ip row ks E s).any λkv=>decide (kv.1=.inr z))=true:=Dh.mpr ⟨_,Ao.mpr ⟨(z,w),hz,rfl⟩,decide_eq_true rfl⟩;unfold HM;rw[if_pos hany];unfold Ip;rw[BB];refine D6 λn hn=>?_;show(if (FU n.1:Ck)=.inr z then _ else _)=_;by_cases e:n.1=z
 .have e2:n=(z,w):=by
   obtain⟨i1,h1⟩:=Bt.mp hn;obtain⟨i2,h2⟩:=Bt.mp hz;have g1:((E s).map (·.1))[i1]? = some z:=by rw[AI,h1,<- e];rfl
   have g2:((E s).map (·.1))[i2]? = some z:=by rw[AI,h2];rfl
   obtain⟨l1,f1⟩:=Ah.mp g1;obtain⟨l2,f2⟩:=Ah.mp g2;have:=(JU nd).mp (f1.trans f2.symm);subst this;exact AZ (h1.symm.trans h2)
  subst e2;rw[if_pos rfl,vf rn c h hp]
 .rw[if_neg (λe2=>e (EZ e2)),zY c h (λe2=>e e2.2)]
def o7 {C:Av}{M:Mp}{A:KA}{E:Str->List (Str×Nat)}{row:List 'l'}{ms ks ks':List Int}{i:Nat}{m:Int}{so z:Str}{pl:Nat}(kn:Gg C M A E row ms ks)(hs:Lk so)(c:UQ i m ks ks')(h:row[i]? = some (so,z,pl)):Gg C (put M (A.at so) (.dic (Ip row ks' E so))) A E row ms ks'/\JM A M (put M (A.at so) (.dic (Ip row ks' E so))):=by
 have W3:=kn.s so hs
 have n1:∀{x:Av} {o:MO},M x=some o->(∀AG,o≠.dic AG)->x≠A.at so:=λ{x o} hx hn e=>by
  rw[e,W3]at hx;cases hx;exact hn _ rfl
 have nd:A.d≠A.at so:=λe=>by
  have hd:=kn.d;rw[e,W3]at hd;have e2:Ip row ks E so=JD A:=by injection hd with h;injection h
  unfold Ip JD at e2;cases hE:E so with
  |nil=>rw[hE]at e2;cases e2
  |cons n r=>rw[hE,AU]at e2;have e3:=congrArg TV (Qt e2).1;unfold NG at e3;cases e3
 refine⟨⟨by rw[DJ (n1 kn.o (λ_ e=>nomatch e))];exact kn.o,by rw[DJ (n1 kn.q (λ_ e=>nomatch e))];exact kn.q,by rw[DJ (n1 kn.m (λ_ e=>nomatch e))];exact kn.m,by rw[DJ nd];exact kn.d,λs' h'=>?_,kn.nd,kn.qm⟩,λx hx=>?_⟩
 .by_cases e:s'=so
  .subst e;rw[Di]
  .rw[DJ (λe2=>e (wA kn.nd h' hs e2)),kn.s s' h',Zla c h e]
 .exact DJ λe=>hx (e ▸ oB A so)
def wM {C:Av}{M:Mp}{A:KA}{E:Str->List (Str×Nat)}{row:List 'l'}{ms ks:List Int}(kn:Gg C M A E row ms ks)(ms':List Int):Gg C (put M A.m (.lst (ms'.map D.int))) A E row ms' ks/\JM A M (put M A.m (.lst (ms'.map D.int))):=by
 have no:A.o≠A.m:=λe=>by have h:=kn.o;rw[e,kn.m]at h;cases h
 have nd:A.d≠A.m:=λe=>by have h:=kn.d;rw[e,kn.m]at h;cases h
 have ns:∀s,Lk s->A.at s≠A.m:=λs hs e=>by have h:=kn.s s hs;rw[e,kn.m]at h;cases h
 refine⟨⟨by rw[DJ no];exact kn.o,by rw[DJ kn.qm];exact kn.q,Di,by rw[DJ nd];exact kn.d,λs hs=>by rw[DJ (ns s hs)];exact kn.s s hs,kn.nd,kn.qm⟩,λx hx=>DJ λe=>hx (by rw[e];exact Aw)⟩
def ba (ks:List Int)(m:Int):UQ ks.length m ks (ks++[m]):=by
 refine⟨by rw[Ct,Cr (AL _),JR];rfl,λj hj=>?_⟩;rw[Ct,Ct];rcases Hn j ks.length with h|h
 .rw[C9 h]
 .rw[BA (by rw[Aq];show ks.length+1<=j;ext),BA h]
def ZkL (ks:List Int)(m:Int):UQ ks.length 2 (ks++[m]) ks:=by
 refine⟨by rw[Ct,BA (AL _)];rfl,λj hj=>((ba ks m).2 j hj).symm⟩
def MD {A:KA}{m:Str}(h1:(m == ("row":Str))=false)(h2:(m == ("marks":Str))=false)(h3:(m == ("spans":Str))=false):BL m (NK A)=none:=by
 unfold NK;rw[By,h1,By,h2,By,h3,List.lookup_nil]
def Se {M:Mp}{p:Av}{xs:List D}(h:M p=some (.lst xs)):HK M (.ref p)=some xs:=by simp[HK,Bg,h]
noncomputable def NH (s:Str)(acc:List (Str×Nat))(b:Str×Str×Nat):List (Str×Nat):=if b.1=s/\b.2.1∉acc.map (·.1)then acc++[(b.2.1,b.2.2+1)]else acc
noncomputable def IH (row:List 'l')(s:Str):List (Str×Nat):=row.foldl (NH s) []
abbrev ZcO (C:Av)(ds:List D)(M:Mp)(Q:Ef):Prop:=FW ds λx y=>∃(M0:Mp) (o q:Av) (E:Str->List (Str×Nat)) (row:List 'l'),x=.ref o/\y=.ref q/\M=put M0 o (.obj C [])/\M0 o=none/\M0 q=some (.lst (row.map bD))/\OU E row/\(∀s,Lk s->E s=IH row s)/\∀M' (A:KA),A.o=o->A.q=q->Gg C M' A E row [] []->(∀p∈[A.m,A.b,A.e,A.f,A.g],M0 p=none)->(∀p u,M0 p=some u->M' p=some u)->Q .non M'
def Gg.dne (kn:Gg C M A E row ms ks){s:Str}(hs:Lk s):A.d≠A.at s:=λe=>by
 have hd:=kn.d;rw[e,kn.s s hs]at hd;have e2:Ip row ks E s=JD A:=by injection hd with h;injection h
 unfold Ip JD at e2;cases hE:E s with
 |nil=>rw[hE]at e2;cases e2
 |cons n r=>rw[hE,AU]at e2;have e3:=congrArg TV (Qt e2).1;unfold NG at e3;cases e3
def m7 {C:Av}{M:Mp}{A:KA}{E E':Str->List (Str×Nat)}{row:List 'l'}{ms ks:List Int}{so:Str}(kn:Gg C M A E row ms ks)(hs:Lk so)(h:∀s,s≠so->E' s=E s):Gg C (L3.put M (A.at so) (.dic (Ip row ks E' so))) A E' row ms ks:=by
 have W3:=kn.s so hs
 have n1:∀{x:Av} {o:MO},M x=some o->(∀AG,o≠.dic AG)->x≠A.at so:=λ{x o} hx hn e=>by
  rw[e,W3]at hx;cases hx;exact hn _ rfl
 refine⟨by rw[DJ (n1 kn.o (λ_ e=>nomatch e))];exact kn.o,by rw[DJ (n1 kn.q (λ_ e=>nomatch e))];exact kn.q,by rw[DJ (n1 kn.m (λ_ e=>nomatch e))];exact kn.m,by rw[DJ (kn.dne hs)];exact kn.d,λs' h'=>?_,kn.nd,kn.qm⟩;by_cases e:s'=so
 .subst e;rw[Di]
 .rw[DJ (λe2=>e (wA kn.nd h' hs e2)),kn.s s' h'];unfold Ip;rw[h s' e]
def tQ {C:Av}{M:Mp}{A:KA}{E E':Str->List (Str×Nat)}{row:List 'l'}{ms ks:List Int}(kn:Gg C M A E row ms ks)(h:∀s,Lk s->E' s=E s):Gg C M A E' row ms ks:=⟨kn.o,kn.q,kn.m,kn.d,λs hs=>by rw[kn.s s hs];unfold Ip;rw[h s hs],kn.nd,kn.qm⟩
def vg (row:List 'l')(s z:Str)(w:Nat):LS row [] s z w=Az w 2:=by
 unfold LS;rw[List.eq_replicate_iff,Ab,Ch];refine⟨rfl,λm hm=>?_⟩;obtain⟨j,-,rfl⟩:=Ao.mp hm;rfl
theorem yH (s:Str):∀(l:List 'l') (acc:List (Str×Nat)),(l.foldl (NH s) acc).length<=acc.length+l.length
 |[],acc=>AL _
 |b::l,acc=>by
  refine A4 (yH s l (NH s acc b)) ?_
  have:(NH s acc b).length<=acc.length+1:=by
   unfold NH;split
   .rw[Aq];exact AL _
   .ext
  rw[AO];ext
def zj {row:List 'l'}{i:Nat}{b:Str×Str×Nat}(h:row[i]? = some b)(s:Str):IH (row.take (i+1)) s=NH s (IH (row.take i) s) b:=by
 unfold IH;rw[Bb,h,Kk];rfl
def yU :DA (Ip row ks E s) (.inr z)=none↔z∉(E s).map (·.1):=by
 unfold DA Ip;rw[MS,Fa];constructor
 .intro h hz;obtain⟨n,hn,rfl⟩:=Ao.mp hz;exact h _ (Ao.mpr ⟨n,hn,rfl⟩) (decide_eq_true rfl)
 .intro h kv hkv c;obtain⟨n,hn,rfl⟩:=Ao.mp hkv;exact h (Ao.mpr ⟨n,hn,EZ (of_decide_eq_true c)⟩)
def qf {row:List 'l'}{E E':Str->List (Str×Nat)}{s z:Str}{p:Nat}(h:z∉(E s).map (·.1))(e:E' s=E s++[(z,p)]):HM (Ip row [] E s) (.inr z) (NG (Az p 2))=Ip row [] E' s:=by
 have hn:¬((Ip row [] E s).any λkv=>decide (kv.1=.inr z))=true:=λc=>by
  obtain⟨kv,hkv,ek⟩:=Dh.mp c;obtain⟨n,hn,rfl⟩:=Ao.mp hkv;exact h (Ao.mpr ⟨n,hn,EZ (of_decide_eq_true ek)⟩)
 unfold HM;rw[if_neg hn];unfold Ip;rw[e,AJ,AU,DB,vg]
def pk (x y:D):putO (Al "marks") x (putO (Al "row") y [])=([("row",y),("marks",x)]:List (Str×D)):=by
 simp only[putO,show¬(Al "row" = Al "marks") by nofun,if_false]
def vw (x y z:D):putO (Al "spans") z ([("row",y),("marks",x)]:List (Str×D))=([("row",y),("marks",x),("spans",z)]:List (Str×D)):=by
 simp only[putO,show¬(("row":Str)=Al "spans") by nofun,show¬(("marks":Str)=Al "spans") by nofun,if_false]
def mD {M:Mp}{p:Av}{xs:List D}(h:M p=some (.lst xs)):Bg M (.ref p)=some xs:=by simp[Bg,h]
def JP {M:Mp}{p x:Av}{u:MO}(hp:M p=none)(hx:M x=some u):x≠p:=λe=>by rw[e,hp]at hx;cases hx
def ZcV:Om T T.x50 3 (ZcO T.C_Known):=by
 refine CB.p2 T.x50.d.F ["self", "row", "sort", "name", "place"] λx y M Q hr nN h=>?_;obtain⟨M0,o,rq,E,row,e1',e2',e3',m0,mq,kr,he,q⟩:_:=h;refine⟨_,qC (oH T.cl_Known T.na_Known_row (qv 0) (qv 1)) (qC (oH T.cl_Known T.na_Known_marks (qv 0) (Jg qN)) (qC (oH T.cl_Known T.na_Known_spans (qv 0) (Vt BZ JG BZ JG BZ JG BZ JG)) (qO (LL AK rfl (J3 (qv 1)) (Xj (is:=[2,3,4]) rfl (Nu (ME (i:=2) nN rfl (Cd rfl)) (Nu (ME (i:=3) nN rfl (Cd rfl)) (Nu (ME (i:=4) nN rfl (Cd rfl)) V4)))) (qO (Fh (lQ (FV (KL hr) (Hs T.cl_Known T.na_Known_spans (qv 0)) (qv 2) (λ_ _=>rfl)) (qA (qv 3) (qA (BN (ZdN T) (qA (BJ HN (qv 4) Aj) qN)) qN))))))))),?_⟩
 dsimp![↓uo]
 rw[Di,G1,QG];refine⟨by decide,λm hm=>?_⟩;have nm:m≠o:=λe=>by rw[e,Di]at hm;cases hm
 rw[DJ nm]at hm;rw[DJ (Bk nm),Di,G1];refine⟨HG 'g',?_⟩;rw[xa];have no:rq≠o:=JP m0 mq;have nq:rq≠m:=JP hm mq
 have f1:∀x u,M0 x=some u->put (put (put M0 o (MO.obj T.C_Known (putO (Al "row") (D.ref rq) []))) m (MO.lst [])) o (MO.obj T.C_Known (putO (Al "marks") (D.ref m) (putO (Al "row") (D.ref rq) []))) x=some u:=λx u h=>by
  rw[DJ (JP m0 h),DJ (JP hm h),DJ (JP m0 h)];exact h
 have f2:put (put (put M0 o (MO.obj T.C_Known (putO (Al "row") (D.ref rq) []))) m (MO.lst [])) o (MO.obj T.C_Known (putO (Al "marks") (D.ref m) (putO (Al "row") (D.ref rq) []))) o=_:=Di;have f3:put (put (put M0 o (MO.obj T.C_Known (putO (Al "row") (D.ref rq) []))) m (MO.lst [])) o (MO.obj T.C_Known (putO (Al "marks") (D.ref m) (putO (Al "row") (D.ref rq) []))) m=some (.lst []):=by rw[DJ nm,Di]
 generalize put (put (put M0 o (MO.obj T.C_Known (putO (Al "row") (D.ref rq) []))) m (MO.lst [])) o (MO.obj T.C_Known (putO (Al "marks") (D.ref m) (putO (Al "row") (D.ref rq) [])))=M1 at f1 f2 f3 ⊢;intro d hd;simp![↓Xk]
 intro b hb e he1 f hf g hg;have s1:Sub M1 (put M1 d (.dic [])):=Sub.put hd;have s2:Sub _ (put (put M1 d (.dic [])) b (.dic [])):=Sub.put hb;have s3:Sub _ (put (put (put M1 d (.dic [])) b (.dic [])) e (.dic [])):=Sub.put he1;have s4:Sub _ (put (put (put (put M1 d (.dic [])) b (.dic [])) e (.dic [])) f (.dic [])):=Sub.put hf;have s5:Sub _ (put (put (put (put (put M1 d (.dic [])) b (.dic [])) e (.dic [])) f (.dic [])) g (.dic [])):=Sub.put hg;have s15:=s1.trans (s2.trans (s3.trans (s4.trans s5)));have kd:=s2.trans (s3.trans (s4.trans s5)) d _ Di;have kb:=s3.trans (s4.trans s5) b _ Di;have ke:=s4.trans s5 e _ Di;have kf:=s5 f _ Di;have kg:put (put (put (put (put M1 d (.dic [])) b (.dic [])) e (.dic [])) f (.dic [])) g (.dic []) g=some (.dic []):=Di;have n1:b≠e:=JP he1 Di;have n2:b≠f:=JP hf (s3 b _ Di);have n3:b≠g:=JP hg (s3.trans s4 b _ Di);have n4:e≠f:=JP hf Di;have n5:e≠g:=JP hg (s4 e _ Di);have n6:f≠g:=JP hg Di;have d1:d≠b:=JP hb Di;have d2:d≠e:=JP he1 (s2 d _ Di);have d3:d≠f:=JP hf (s2.trans s3 d _ Di);have d4:d≠g:=JP hg (s2.trans (s3.trans s4) d _ Di)
 have nn:∀{N:Mp} {x:Av},Sub M1 N->N x=none->M0 x=none:=λ{N x} s h=>by
  cases h2:M0 x with
  |none=>rfl
  |some u=>rw[s x u (f1 x u h2)]at h;cases h
 have dn:=nn (Sub.refl M1) hd;have bn:=nn s1 hb;have en:=nn (s1.trans s2) he1;have fn:=nn (s1.trans (s2.trans s3)) hf;have gn:=nn (s1.trans (s2.trans (s3.trans s4))) hg;clear nn;have f1:=λx u h=>s15 x u (f1 x u h);have f2:=s15 _ _ f2;have f3:=s15 _ _ f3;clear hd hb he1 hf hg s1 s2 s3 s4 s5 s15;generalize put (put (put (put (put M1 d (.dic [])) b (.dic [])) e (.dic [])) f (.dic [])) g (.dic [])=M8 at *;refine⟨kd,by nofun,?_⟩;have od:o≠d:=λh=>by rw[h,kd]at f2;cases f2
 have mne:∀{x},M8 x=some (.dic [])->m≠x:=λ{x} h h2=>by rw[<- h2,f3]at h;cases h
 have one:∀{x},M8 x=some (.dic [])->x≠o:=λ{x} h h2=>by rw[h2,f2]at h;cases h
 have rqv:=f1 rq _ mq;have qne:∀{x},M8 x=some (.dic [])->rq≠x:=λ{x} h h2=>by rw[<- h2,rqv]at h;cases h
 rw[DJ od,f2,G1,pk,vw];refine⟨HG (HG 'g'),?_⟩
 have kn0:Gg T.C_Known (put (put M8 d (.dic (JD ⟨o,rq,m,d,b,e,f,g⟩))) o (.obj T.C_Known (NK ⟨o,rq,m,d,b,e,f,g⟩))) ⟨o,rq,m,d,b,e,f,g⟩ (IH (row.take 0)) row [] []:=by
  refine⟨Di,by rw[DJ no,DJ (qne kd)];exact rqv,by rw[DJ nm,DJ (mne kd)];exact f3,by rw[DJ (Bk od),Di],λs hs=>?_,by simp only[Ek,BD,AT,or_false,not_or];exact⟨⟨n1,n2,n3⟩,⟨n4,n5⟩,n6,λh=>h,Iw⟩,nq⟩;rcases hs with rfl|rfl|rfl|rfl
  .rw[VT,DJ (one kb),DJ (Bk d1)];exact kb
  .rw[V1,DJ (one ke),DJ (Bk d2)];exact ke
  .rw[VU,DJ (one kf),DJ (Bk d3)];exact kf
  .rw[V5,DJ (one kg),DJ (Bk d4)];exact kg
 have f9:∀x u,M0 x=some u->put (put M8 d (.dic (JD ⟨o,rq,m,d,b,e,f,g⟩))) o (.obj T.C_Known (NK ⟨o,rq,m,d,b,e,f,g⟩)) x=some u:=λx u h=>by
  rw[DJ (JP m0 h),DJ (JP dn h)];exact f1 x u h
 change Cw (Bg (put (put M8 d (.dic (JD ⟨o,rq,m,d,b,e,f,g⟩))) o (.obj T.C_Known (NK ⟨o,rq,m,d,b,e,f,g⟩))) (.ref rq)) λxs=>Wn xs _ _ _ _ _ (put (put M8 d (.dic (JD ⟨o,rq,m,d,b,e,f,g⟩))) o (.obj T.C_Known (NK ⟨o,rq,m,d,b,e,f,g⟩)));generalize put (put M8 d (.dic (JD ⟨o,rq,m,d,b,e,f,g⟩))) o (.obj T.C_Known (NK ⟨o,rq,m,d,b,e,f,g⟩))=M9 at kn0 f9 ⊢;replace q:=λM'=>q M' ⟨o,rq,m,d,b,e,f,g⟩ rfl rfl;obtain⟨A,ea⟩:∃A:KA,A=⟨o,rq,m,d,b,e,f,g⟩:=⟨_,rfl⟩;rw[<- ea]at kn0 q
 have an:∀s,M0 (A.at s)=none:=λs=>by
  rw[ea];unfold KA.at
  split
  .exact bn
  .split
   .exact en
   .split
    .exact fn
    .exact gn
 have fz:∀p∈[A.m,A.b,A.e,A.f,A.g],M0 p=none:=by
  rw[ea];intro p hp;simp only[BD,AT,or_false]at hp;rcases hp with rfl|rfl|rfl|rfl|rfl
  .exact hm
  .exact bn
  .exact en
  .exact fn
  .exact gn
 have eo:o=A.o:=by rw[ea]
 have eq:rq=A.q:=by rw[ea]
 rw[eo,eq];rw[mD kn0.q,BS];refine⟨λi τ M'=>(Gg T.C_Known M' A (IH (row.take i)) row [] []/\∀x u,M0 x=some u->M' x=some u)/\∃x y z,τ=[some (.ref A.o),some (.ref A.q),x,y,z],⟨⟨kn0,f9⟩,_,_,_,rfl⟩,λi τ M' h=>mD h.1.1.q,?_,?_⟩
 .intro i x τ M' hx;ext1⟨⟨kn,fr⟩,u1,u2,u3,e1'⟩;rw[AI]at hx;obtain⟨bt,hbt,rfl⟩:=Fg.mp hx;obtain⟨so,z,pl⟩:=bt;obtain⟨hs,wd,hw,hp⟩:=kr.k _ (AB hbt);unfold bD;simp![↓nv,Xn,Xr,Xq,Bo,Ba]
  rw[kn.o,G1,bB,BS,Sl kn.d,BS,Xs hs,BS,RK,kn.s so hs,Xo];have hw2:=((kr.e so).2.2 _ hw).2;change wd<=64 at hw2;change pl<wd at hp;refine⟨⟨by ext,by ext⟩,?_⟩;rw[show((pl:Int)+1).toNat=pl+1 by ext];unfold Mo;rw[RK,uL];grind;rw[kn.s so hs,Xo];have en1:=λs=>zj hbt s;refine⟨?_,λdd hdd=>?_,λhnn=>?_⟩
  .have l1:=yH so (row.take i) [];rw[A3]at l1;have l2:=kr.l;unfold Ip IH;rw[Ab];refine FJ (m:=5000) ?_ 'g';change _<=0+_ at l1;ext
  .refine⟨⟨tQ kn λs _=>?_,fr⟩,_,_,_,rfl⟩;rw[en1];unfold NH;rw[if_neg];rintro⟨c1,c2⟩;change so=s at c1;subst c1;rw[yU.mpr c2]at hdd;cases hdd
  .have hz:=yU.mp hnn;rw[qf (E':=IH (row.take (i+1))) hz (by rw[en1];unfold NH;rw[if_pos ⟨rfl,hz⟩])];refine⟨⟨m7 kn hs λs c=>?_,λx u h=>?_⟩,_,_,_,rfl⟩
   .rw[en1];unfold NH;rw[if_neg (λc2=>c c2.1.symm)]
   .rw[DJ (JP (an so) h)];exact fr x u h
 .intro τ M';ext1⟨⟨kn,fr⟩,u1,u2,u3,e1'⟩;rw[Ab,Bm]at kn;exact Dn.of (q M' (tQ kn he) fz fr)
abbrev Zh8 (C:Av)(ds:List D)(M:Mp)(Q:Ef):Prop:=Js ds λx y z=>∃(A:KA) (E:Str->List (Str×Nat)) (row:List 'l') (ms ks ks':List Int) (i:Nat) (m:Int),x=.ref A.o/\y=.int i/\z=.int m/\OU E row/\Gg C M A E row ms ks/\i<row.length/\Mk m/\LN ks/\UQ i m ks ks'/\∀M',Gg C M' A E row ms ks'->JM A M M'->Q .non M'
def gu:Om T T.x56 2 (Zh8 T.C_Known):=by
 refine CB.p3 T.x56.d.F ["self", "number", "mark", "bit", "named"] λx y z M Q hr nN h=>?_;obtain⟨A,E,row,ms,ks,ks',i,m,e1',e2',e3',kr,kn,hi,hm,hk,hc,q⟩:_:=h;have hb:row[i]? = some row[i]:=Af hi;generalize row[i]=b at hb;obtain⟨so,z,pl⟩:=b;obtain⟨hs4,wd,hz,hpl⟩:=kr.k _ (AB hb);have hb2:F3 (row.map bD) (i:Int)=some (bD (so,z,pl)):=Pk (by rw[AI,hb];rfl);obtain⟨en,el,ew⟩:=kr.e so;refine⟨_,qC (Cv 3 nN (Bf Ii (Hs T.cl_Known T.na_Known_row (qv 0)) (qv 1))) (qC (Cv 4 nN (FV (KL hr) (Hs T.cl_Known T.na_Known_spans (qv 0)) (Bf BE (qv 3) Aj) (λ_ _=>rfl))) (qO (Xw (KL hr) (qv 4) (Bf BE (qv 3) Aj) (BN (Zhp T) (qA (FV (KL hr) (qv 4) (Bf BE (qv 3) Aj) (λ_ _=>rfl)) (qA (Bf BE (qv 3) Aj) (qA (qv 2) qN)))) rfl))),?_⟩
 have s64:bN (LS row ks so z wd):=by
  refine⟨λv hv=>?_,by rw[fT];exact(ew _ hz).1,by rw[fT];exact(ew _ hz).2⟩;obtain⟨j,_,rfl⟩:=Ao.mp hv;rw[Ct];cases e:ks[row.idxOf (so,z,j)]? with
  |none=>exact .inr (.inr rfl)
  |some v=>exact hk v (AB e)
 obtain⟨w1,w2⟩:=o7 (m:=m) kn hs4 hc hb;rw[<- yp kr.nd hc hb hpl en hz]at w1 w2
 dsimp![↓Xl]
 rw[kn.o,G1,wP,BS,Pg kn.q,BS,hb2,BS,G1,bB,BS];simp only[bD];grind;rw[Sl kn.d,BS,Xs hs4,BS]
 (try grind)
 rw[Sl (kn.s so hs4),BS,pH en hz,BS]
 (try grind)
 refine⟨_,pl,m,rfl,rfl,rfl,s64,by rw[fT];exact hpl,hm,?_⟩
 (try grind)
 rw[kn.s so hs4];exact⟨BU (by unfold Ip;rw[Ab];ext),Dn.of (q _ w1 w2)⟩
def Xh {M:Mp}{p:Av}{xs:List D}{y:D}{Q:Ef}(h:M p=some (.lst xs)):Hr (.ref p) [y] M Q=(xs.length<An/\Q .non (put M p (.lst (xs++[y])))):=by
 unfold Hr;rw[RK,eJ,h]
abbrev ZeJ (C:Av)(ds:List D)(M:Mp)(Q:Ef):Prop:=FW ds λx z=>∃(A:KA) (E:Str->List (Str×Nat)) (row:List 'l') (ms:List Int) (m:Int),x=.ref A.o/\z=.int m/\OU E row/\Gg C M A E row ms ms/\ms.length<row.length/\Mk m/\LN ms/\∀M',Gg C M' A E row (ms++[m]) (ms++[m])->JM A M M'->Q .non M'
def iw:Om T T.x51 3 (ZeJ T.C_Known):=by
 refine CB.p2 T.x51.d.F ["self", "mark"] λx z M Q hr nN h=>?_;obtain⟨A,E,row,ms,m,e1',e2',kr,kn,hl,hm,hk,q⟩:_:=h;refine⟨_,qC (Fh (Fz T.cl_Known T.x56.d (gu T) nofun (qv 0) (qA (B6 K6 T.B.len B8 (qA (Hs T.cl_Known T.na_Known_marks (qv 0)) qN)) (qA (qv 1) qN)))) (qO (Fh (Kn AN A8 A7 QF (Hs T.cl_Known T.na_Known_marks (qv 0)) (qA (qv 1) qN)))),?_⟩;right;rw[kn.o,G1];refine⟨MD 'k' 'k' 'k',?_⟩;rw[G1,RO,BS,Se kn.m,BS];refine⟨A,E,row,ms,ms,ms++[m],ms.length,m,rfl,by rw[Ab],rfl,kr,kn,hl,hm,hk,ba ms m,λM' kn' ko=>?_⟩;rw[kn'.o,G1,RO,BS,Xh kn'.m];obtain⟨a,b⟩:=wM kn' (ms++[m]);rw[AJ]at a b;have h5:=kr.l;have:(6000:Nat)<=An:=by decide
 exact⟨Jb kn'.m,by rw[Ab];ext,Dn.of (q _ a (ko.trans b))⟩
abbrev ZdD (C:Av)(ds:List D)(M:Mp)(Q:Ef):Prop:=GH ds λx=>∃(A:KA) (E:Str->List (Str×Nat)) (row:List 'l') (ms:List Int) (m:Int),x=.ref A.o/\OU E row/\Gg C M A E row (ms++[m]) (ms++[m])/\ms.length<row.length/\LN (ms++[m])/\∀M',Gg C M' A E row ms ms->JM A M M'->Q .non M'
def rO:Om T T.x52 3 (ZdD T.C_Known):=by
 refine CB.p1 T.x52.d.F ["self"] λx M Q hr nN h=>?_;obtain⟨A,E,row,ms,m,e1',kr,kn,hl,hk,q⟩:_:=h;refine⟨_,qC (Fh (Vw AN MR MQ pj (Hs T.cl_Known T.na_Known_marks (qv 0)))) (qO (Fh (Fz T.cl_Known T.x56.d (gu T) nofun (qv 0) (qA (B6 K6 T.B.len B8 (qA (Hs T.cl_Known T.na_Known_marks (qv 0)) qN)) (qA Aj qN))))),?_⟩
 dsimp![↓nR]
 rw[kn.o,G1,RO,BS,sk,kn.m];refine⟨Jb kn.m,ms.map D.int,.int m,by rw[AJ];rfl,?_⟩;obtain⟨a,b⟩:=wM kn ms;rw[a.o,G1];refine⟨MD 'k' 'k' 'k',?_⟩;rw[G1,RO,BS,Se a.m,BS];exact⟨A,E,row,ms,ms++[m],ms,ms.length,2,rfl,by rw[Ab],rfl,kr,a,hl,.inr (.inr rfl),hk,ZkL ms m,λM' kn' ko=>Dn.of (q M' kn' (b.trans ko))⟩
noncomputable def Ie (n:Nat)(ms:List Int):List Int:=(ms++Az (n-ms.length) 0).take n
def aU {a b:List Int}(ha:LN a)(hb:LN b):LN (a++b):=λm hm=>(AQ.mp hm).elim (ha m) (hb m)
def pM (n:Nat):LN (Az n 0):=λm hm=>.inl (E3 hm)
def zZ {a:List Int}(h:LN a)(n:Nat):LN (a.take n):=λm hm=>h m (GO hm)
def fQ (h:LN ms)(n):LN (Ie n ms):=zZ (aU h (pM _)) n
def aQ (n)(ms):(Ie n ms).length=n:=by
 unfold Ie;rw[A3,Aq,Bu];ext
abbrev Zg3 (C:Av)(ds:List D)(M:Mp)(Q:Ef):Prop:=FW ds λx y=>∃(A:KA) (E:Str->List (Str×Nat)) (row:List 'l') (ms:List Int) (n:Nat),x=.ref A.o/\y=.int n/\OU E row/\Gg C M A E row ms ms/\LN ms/\n<=row.length/\ms.length<=row.length/\∀M',Gg C M' A E row (Ie n ms) (Ie n ms)->JM A M M'->Q .non M'
def io:Om T T.x53 4 (Zg3 T.C_Known):=by
 refine CB.p2 T.x53.d.F ["self", "many"] λx z M Q hr nN h=>?_;obtain⟨A,E,row,ms,n,e1',e2',kr,kn,hk,hn,hl,q⟩:_:=h;refine⟨_,EW (Tw AK (AV Kz (B6 K6 T.B.len B8 (qA (Hs T.cl_Known T.na_Known_marks (qv 0)) qN)) (qv 1)) (qO (Fh (Fz T.cl_Known T.x51.d (iw T) nofun (qv 0) (qA Aj qN))))) (qO (Tw AK (AV LJ (B6 K6 T.B.len B8 (qA (Hs T.cl_Known T.na_Known_marks (qv 0)) qN)) (qv 1)) (qO (Fh (KY T.cl_Known T.x52.d (rO T) nofun (qv 0)))))),?_⟩
 (try simp only[Mn,Ml,Mm])
 refine⟨λτ M'=>(Gg T.C_Known M' A E row (ms++Az (n-ms.length) 0) (ms++Az (n-ms.length) 0)/\JM A M M')/\τ=[some (.ref A.o),some (.int n)],?_,?_⟩
 .refine⟨λk τ M'=>∃j,(k=n-(ms.length+j)/\j<=n-ms.length/\Gg T.C_Known M' A E row (ms++Az j 0) (ms++Az j 0)/\JM A M M')/\τ=[some (.ref A.o),some (.int n)],⟨_,0,⟨rfl,Ej _,by rw[Jq,Cc];exact kn,JM.refl A M⟩,rfl⟩,?_⟩;intro k τ M' hI';refine Am λkk'=>?_;obtain⟨j,⟨e1',hj,kn',ko⟩,e2'⟩:=hI';refine kk' ?_;clear kk';subst e1' e2';grind;rw[kn'.o,G1,RO,BS,Se kn'.m,BS]
  (try simp![G1,Aq])
  rw[Bu];refine Cj (λc=>?_) λc=>?_
  .refine⟨MD 'k' 'k' 'k',A,E,row,ms++Az j 0,0,rfl,rfl,kr,kn',by rw[Aq,Bu];ext,.inl rfl,aU hk (pM j),λM2 k2 o2=>⟨n-(ms.length+(j+1)),by ext,j+1,rfl,by ext,?_,ko.trans o2⟩⟩;rw[O3,<- Bv];exact k2
  .have e:j=n-ms.length:=by ext
   subst e;exact⟨kn',ko⟩
 rintro τ M' ⟨⟨kn',ko⟩,rfl⟩;have e1:(ms++Az (n-ms.length) 0).length=max n ms.length:=by rw[Aq,Bu];ext
 have hk1:LN (ms++Az (n-ms.length) 0):=aU hk (pM _);unfold Ie at q;generalize ms++Az (n-ms.length) 0=ms1 at kn' e1 hk1 q;refine⟨λk τ M2=>(n+k<=ms1.length/\Gg T.C_Known M2 A E row (ms1.take (n+k)) (ms1.take (n+k))/\JM A M' M2)/\τ=[some (.ref A.o),some (.int n)],⟨ms1.length-n,⟨by ext,by rw[BR (by ext)];exact kn',JM.refl A M'⟩,rfl⟩,?_⟩;intro k τ M2 hI';refine Am λkk'=>?_;obtain⟨⟨hk2,kn2,ko2⟩,e1'⟩:=hI';refine kk' ?_;clear kk';subst e1';grind;rw[kn2.o,G1,RO,BS,Se kn2.m,BS]
 (try simp![G1])
 rw[A3];refine Cj (λc=>?_) λc=>?_
 .obtain⟨k',rfl⟩:∃k',k=k'+1:=⟨k-1,by ext⟩;have hlt:n+k' < ms1.length:=by ext
  have e:ms1.take (n+(k'+1))=ms1.take (n+k')++[ms1[n+k']'hlt]:=Ki hlt;have hm:=zZ hk1 (n+(k'+1));rw[e]at kn2 hm;exact⟨MD 'k' 'k' 'k',A,E,row,ms1.take (n+k'),_,rfl,kr,kn2,by rw[A3];ext,hm,λM3 k3 o3=>⟨k',by ext,by ext,k3,ko2.trans o3⟩⟩
 .have e:k=0:=by ext
  subst e;exact Dn.of (q M2 kn2 (ko.trans ko2))
noncomputable def dS (ms:List Int):Sn:=(ms.length,Lg ms,LW ms)
noncomputable def Sj (row:List 'l')(ks:List Int)(E:Str->List (Str×Nat))(s x:Str):Sn:=((E s).lookup x).elim n0 λw=>dS (LS row ks s x w)
noncomputable def eF (row:List 'l')(ks:List Int)(E:Str->List (Str×Nat))(so:Str):bO:=⟨Sj row ks E "box",Sj row ks E so,Sj row ks E "door"⟩
noncomputable def gM (row:List 'l')(ks:List Int)(E:Str->List (Str×Nat))(so:Str)(t:Tm):Int:=mB (t.rs (eF row ks E so)).2.1 (t.rs (eF row ks E so)).2.2
structure XO (E:Str->List (Str×Nat))(so:Str)(bs es:List (Str×Int))(t:Tm):Prop where
 w:Wd bs es t 1
 n:t.deep<=12
 b:∀x,Tm.box x∈t.leaves->∃w:Nat,bs.lookup x=some (w:Int)/\(x,w)∈E "box"
 l:∀x,Tm.late x∈t.leaves->∃w:Nat,bs.lookup x=some (w:Int)/\(x,w)∈E so
 d:∀x,Tm.door x∈t.leaves->∃w:Nat,es.lookup x=some (w:Int)/\(x,w)∈E "door"
theorem wO :∀{l:List (Str×α)},(l.map (·.1)).Nodup->(z,v)∈l->l.lookup z=some v
 |[],_,h=>nomatch h
 |p::l,nd,h=>by
  rw[AU,Ek]at nd;rw[By];rcases AR.mp h with e|h
  .subst e;simp
  .have ne:z≠p.1:=λe=>nd.1 (e ▸ FG h);rw[show(z == p.1)=false by simpa using ne];exact wO nd.2 h
def pd (kr:OU E row)(ks:List Int){w:Nat}(h:(z,w)∈E s):Sj row ks E s z=dS (LS row ks s z w):=by
 unfold Sj;rw[wO (kr.e s).1 h];rfl
def qe {w:Nat}(h:ms.length=w)(h1:1<=w)(h2:w<=64):Rg (dS ms)/\(dS ms).1=w:=by
 have l1:=tS ms;have l2:=uD ms;refine⟨⟨?_,⟨UC ms,?_⟩,⟨UA ms,?_⟩⟩,?_⟩
 .show(1:Int)<=ms.length/\(ms.length:Int)<=64;ext
 .show Lg ms<2^(ms.length:Int).toNat
  rw[BH];exact l1
 .show LW ms<2^(ms.length:Int).toNat
  rw[BH];exact l2
 .show(ms.length:Int)=w;rw[h]
def XO.dt {E:Str->List (Str×Nat)}{row:List 'l'}(kr:OU E row)(g:XO E so bs es t):DT (Ip row ks E "box") (Ip row ks E so) (Ip row ks E "door") bs es (eF row ks E so) t:=by
 have go:∀{s x:Str} {w:Nat},(x,w)∈E s->(Rg (Sj row ks E s x)/\(Sj row ks E s x).1=w)/\DA (Ip row ks E s) (.inr x)=some (HC (Sj row ks E s x)):=λ{s x w} h=>by
  have e:=(kr.e s).2.2 _ h;rw[pd kr ks h];exact⟨qe (fT ..) e.1 e.2,pH (kr.e s).1 h⟩
 refine⟨λx hx=>?_,λx hx=>?_,λx hx=>?_⟩
 .obtain⟨w,h1,h2⟩:=g.b x hx;exact⟨_,h1,go h2⟩
 .obtain⟨w,h1,h2⟩:=g.l x hx;exact⟨_,h1,go h2⟩
 .obtain⟨w,h1,h2⟩:=g.d x hx;exact⟨_,h1,go h2⟩
abbrev Zc8 (C:Av)(ds:List D)(M:Mp)(Q:Ef):Prop:=Js ds λx y z=>∃(A:KA) (E:Str->List (Str×Nat)) (row:List 'l') (ms:List Int) (t:Tm) (so:Str) (bs es:List (Str×Int)),x=.ref A.o/\y=t.D/\z=.str so/\Lk so/\OU E row/\Gg C M A E row ms ms/\LN ms/\XO E so bs es t/\Q (.int (gM row ms E so t)) M
def jb:Om T T.x59 19 (Zc8 T.C_Known):=by
 refine CB.p3 T.x59.d.F ["self", "guard", "sort"] λx y z M Q hr nN h=>?_;obtain⟨A,E,row,ms,t,so,bs,es,e1',e2',e3',hs,kr,kn,hk,gd,q⟩:_:=h;refine⟨_,qO (CA (Bf Ii (BN (ZiL T) (qA (BN (dq T 12) (qA (qv 1) (qA (CJ (qA (FV (KL hr) (Hs T.cl_Known T.na_Known_spans (qv 0)) BZ (λ_ _=>rfl)) (qA (FV (KL hr) (Hs T.cl_Known T.na_Known_spans (qv 0)) (qv 2) (λ_ _=>rfl)) (qA (FV (KL hr) (Hs T.cl_Known T.na_Known_spans (qv 0)) BZ (λ_ _=>rfl)) qN)))) qN))) qN)) Aj)),?_⟩
 dsimp![↓UB,LX]
 rw[kn.o,G1,bB,BS,Sl kn.d,BS]
 (try simp![G1])
 rw[Xs (.inl rfl),BS,bB,BS,Sl kn.d,BS,Xs hs,BS,BS,Sl kn.d,BS,Xs (.inr (.inl rfl)),BS];have e1:=(nY gd.w (gd.dt (ks:=ms) kr)).1
 (try grind)
 refine⟨_,_,_,_,_,_,bs,es,eF row ms E so,rfl,⟨Sl (kn.s "box" (.inl rfl)),Sl (kn.s so hs),Sl (kn.s "door" (.inr (.inl rfl)))⟩,gd.n,⟨1,gd.w⟩,gd.dt kr,_,rfl,e1.2,λp hp=>?_⟩;exact RJ (Sub.put hp) q
structure bV (E:Str->List (Str×Nat))(bs es:List (Str×Int))(t u:Tm):Prop where
 a:XO E "one" bs es t
 b:XO E "other" bs es u
abbrev Zc1 (C:Av)(ds:List D)(M:Mp)(Q:Ef):Prop:=FW ds λx y=>∃(A:KA) (E:Str->List (Str×Nat)) (row:List 'l') (ms:List Int) (t u:Tm) (bs es:List (Str×Int)),x=.ref A.o/\y=.tup [t.D,u.D]/\OU E row/\Gg C M A E row ms ms/\LN ms/\bV E bs es t u/\Q (.tup [.int (gM row ms E "one" t),.int (gM row ms E "other" u)]) M
def jd:Om T T.x58 20 (Zc1 T.C_Known):=by
 refine CB.p2 T.x58.d.F ["self", "guards"] λx y M Q hr nN h=>?_;obtain⟨A,E,row,ms,t,u,bs,es,e1',e2',kr,kn,hk,gd,q⟩:_:=h;refine⟨_,qO (CA (CJ (qA (Fz T.cl_Known T.x59.d (jb T) nofun (qv 0) (qA (Bf BE (qv 1) Aj) (qA BZ qN))) (qA (Fz T.cl_Known T.x59.d (jb T) nofun (qv 0) (qA (Bf BE (qv 1) Aj) (qA BZ qN))) qN)))),?_⟩;right;rw[kn.o,G1];refine⟨MD 'k' 'k' 'k',A,E,row,ms,t, "one",bs,es,rfl,rfl,rfl,.inr (.inr (.inl rfl)),kr,kn,hk,gd.a,?_⟩
 (try simp![G1])
 refine⟨MD 'k' 'k' 'k',A,E,row,ms,u, "other",bs,es,rfl,rfl,rfl,.inr (.inr (.inr rfl)),kr,kn,hk,gd.b,?_⟩
 (try grind)
 exact Dn.of q
noncomputable def Sd (row:List 'l')(E:Str->List (Str×Nat))(t u:Tm)(ms:List Int):Bool:=decide (gM row ms E "one" t=0\/gM row ms E "other" u=0\/(gM row ms E "one" t=1/\gM row ms E "other" u=1))
abbrev Zc7 (C:Av)(ds:List D)(M:Mp)(Q:Ef):Prop:=Js ds λx n y=>∃(A:KA) (E:Str->List (Str×Nat)) (row:List 'l') (ms:List Int) (t u:Tm) (bs es:List (Str×Int)) (k:Nat),x=.ref A.o/\n=.int k/\y=.tup [t.D,u.D]/\OU E row/\Gg C M A E row ms ms/\LN ms/\bV E bs es t u/\k<=row.length/\ms.length<=row.length/\∀M',Gg C M' A E row (Ie k ms) (Ie k ms)->JM A M M'->Q (.bl (Sd row E t u (Ie k ms))) M'
def jc:Om T T.x55 21 (Zc7 T.C_Known):=by
 refine CB.p3 T.x55.d.F ["self", "many", "guards", "held"] λx n y M Q hr nN h=>?_;obtain⟨A,E,row,ms,t,u,bs,es,k,e1',e2',e3',kr,kn,hk,gd,h1,h2,q⟩:_:=h;refine⟨_,qC (Fh (Fz T.cl_Known T.x53.d (io T) nofun (qv 0) (qA (qv 1) qN))) (qC (Cv 3 nN (Fz T.cl_Known T.x58.d (jd T) nofun (qv 0) (qA (qv 2) qN))) (qO (CA (lV (JY OG Aj (qv 3) (by with_unfolding_all rfl)) (OB (JY (eT (J0 hr)) (qv 3) (CJ (qA Aj (qA Aj qN))))))))),?_⟩
 dsimp![↓nU,↓vL,↓yA,↓vK,↓LH,↓nV,EV,WN,Fk,WM,JB,Jz,IW,xV,xW,FH]
 rw[kn.o,G1];refine⟨MD 'k' 'k' 'k',A,E,row,ms,k,rfl,rfl,kr,kn,hk,h1,h2,λM' kn' ko=>?_⟩
 (try grind)
 rw[kn'.o,G1];refine⟨MD 'k' 'k' 'k',A,E,row,_,t,u,bs,es,rfl,rfl,kr,kn',fQ hk k,gd,?_⟩
 (try grind)
 have z:=q M' kn' ko;unfold Sd at z;refine Cj (λc=>?_) λc=>?_
 .rw[decide_eq_true (c.elim .inl λh=>.inr (.inl h))]at z;exact Dn.of z
 .rw[<- SW];rw[decide_eq_decide.mpr ⟨λh=>h.elim (λh=>absurd (.inl h) c) λh=>h.elim (λh=>absurd (.inr h) c) id,λh=>.inr (.inr h)⟩]at z;exact Dn.of z
def fK (h:ms.length<=n):Ie n ms=ms++Az (n-ms.length) 0:=by
 unfold Ie;exact BR (by rw[Aq,Bu];ext)
def π (ms:List Int):Ie ms.length ms=ms:=by rw[fK (AL _),JR,Jq,Cc]
def aP {a b:Nat}{ms:List Int}(ha:ms.length<=a)(hb:ms.length<=b):Ie b (Ie a ms)=Ie b ms:=by
 rw[fK hb];unfold Ie;have e:(ms++Az (a-ms.length) (0:Int)).take a=ms++Az (a-ms.length) 0:=fK ha;rw[e,Aq,Bu,Bv,List.replicate_append_replicate,List.take_append,BR hb,List.take_replicate];congr 2
 ext
noncomputable def WT (st:Nat->Bool)(b L:Nat):Nat->Nat->Nat->Nat×Nat
 |0,lo,hi=>(lo,hi)
 |f+1,lo,hi=>if st hi=true then(lo,hi)else WT st b L f (hi+1) (min (b+2*(hi+1-b)) L)
noncomputable def W0 (st:Nat->Bool):Nat->Nat->Nat->Nat
 |0,_,hi=>hi
 |f+1,lo,hi=>if lo<hi then(if st ((lo+hi) / 2)=true then W0 st f lo ((lo+hi) / 2)else W0 st f ((lo+hi) / 2+1) hi)else hi
noncomputable def eE (st:Nat->Bool)(b L:Nat):Nat:=W0 st (L+1) (WT st b L (L+1) b b).1 (WT st b L (L+1) b b).2
abbrev ZeK (C:Av)(ds:List D)(M:Mp)(Q:Ef):Prop:=FW ds λx y=>∃(A:KA) (E:Str->List (Str×Nat)) (row:List 'l') (ms:List Int) (t u:Tm) (bs es:List (Str×Int)) (st:Nat->Bool),x=.ref A.o/\y=.tup [t.D,u.D]/\OU E row/\Gg C M A E row ms ms/\LN ms/\bV E bs es t u/\ms.length<=row.length/\(∀k,Sd row E t u (Ie k ms)=st k)/\st row.length=true/\∀M' N,eE st ms.length row.length=N->ms.length<=N->N<=row.length->st N=true->Gg C M' A E row (Ie N ms) (Ie N ms)->JM A M M'->Q .non M'
def ZeX:Om T T.x54 22 (ZeK T.C_Known):=by
 refine CB.p2 T.x54.d.F ["self", "guards", "begin", "low", "high", "middle"] λx y M Q hr nN h=>?_;obtain⟨A,E,row,ms,t,u,bs,es,st,e1',e2',kr,kn,hk,gd,n1,hst,hL,q⟩:_:=h;have r5:=kr.l;refine⟨_,qC (Cv 2 nN (B6 K6 T.B.len B8 (qA (Hs T.cl_Known T.na_Known_marks (qv 0)) qN))) (qC (Cv 3 nN (qv 2)) (qC (Cv 4 nN (qv 2)) (EW (Tw AK (Ni (GF (Fz T.cl_Known T.x55.d (jc T) nofun (qv 0) (qA (qv 4) (qA (qv 1) qN))))) (qC (Cv 3 nN (BJ HN (qv 4) Aj)) (qO (Cv 4 nN (B6 (mw rfl) T.B.min boot_min (qA (BJ HN (qv 2) (BJ VO Aj (BJ Nr (qv 3) (qv 2)))) (qA (B6 K6 T.B.len B8 (qA (Hs T.cl_Known T.na_Known_row (qv 0)) qN)) qN))))))) (EW (Tw AK (AV Kz (qv 3) (qv 4)) (qC (Cv 5 nN (BJ Li (BJ HN (qv 3) (qv 4)) Aj)) (qO (Ew (GF (Fz T.cl_Known T.x55.d (jc T) nofun (qv 0) (qA (qv 5) (qA (qv 1) qN)))) (qO (Cv 4 nN (qv 5))) (qO (Cv 3 nN (BJ HN (qv 5) Aj))))))) (qO (Fh (Fz T.cl_Known T.x53.d (io T) nofun (qv 0) (qA (qv 4) qN)))))))),?_⟩;right;rw[kn.o,G1,RO,BS,Se kn.m,BS,Ab]
 (try grind)
 generalize hG:D.tup [t.D,u.D]=G;unfold eE at q;generalize hP:WT st ms.length row.length (row.length+1) ms.length ms.length=P0 at q;refine⟨λτ M'=>∃lo hi c:Nat,((ms.length<=lo/\lo<=hi/\hi<=row.length/\P0=(lo,hi)/\st hi=true)/\(ms.length<=c/\c<=row.length)/\Gg T.C_Known M' A E row (Ie c ms) (Ie c ms)/\JM A M M')/\τ=[some (.ref A.o),some G,some (.int ms.length),some (.int lo),some (.int hi),none],?_,?_⟩
 .refine⟨λk τ M'=>∃lo hi c:Nat,((ms.length<=lo/\lo<=hi/\hi<=row.length/\row.length-hi+1<=k/\WT st ms.length row.length k lo hi=P0)/\(ms.length<=c/\c<=row.length)/\Gg T.C_Known M' A E row (Ie c ms) (Ie c ms)/\JM A M M')/\τ=[some (.ref A.o),some G,some (.int ms.length),some (.int lo),some (.int hi),none],⟨row.length+1,ms.length,ms.length,ms.length,⟨⟨AL _,AL _,n1,by ext,hP⟩,⟨AL _,n1⟩,by rw[π];exact kn,JM.refl A M⟩,rfl⟩,?_⟩;intro k τ M' hI';refine Am λkk'=>?_;obtain⟨lo,hi,c,⟨⟨h1,h3,h4,hf,hu⟩,⟨c1,c2⟩,kn',ko⟩,e1'⟩:=hI';refine kk' ?_;clear kk';subst e1';obtain⟨k,rfl⟩:∃k',k=k'+1:=⟨k-1,by ext⟩;rw[WT]at hu;simp![↓Z0]
  rw[kn'.o,G1];subst hG;refine⟨MD 'k' 'k' 'k',A,E,row,_,t,u,bs,es,hi,rfl,rfl,rfl,kr,kn',fQ hk c,gd,h4,by rw[aQ];exact c2,λM2 k2 o2=>?_⟩;rw[aP c1 (by ext)]at k2;rw[aP c1 (by ext),hst];cases es0:st hi with
  |true=>
   rw[es0,if_pos rfl]at hu
   (try simp![reduceCtorEq])
   exact⟨lo,hi,hi,⟨⟨h1,h3,h4,hu.symm,es0⟩,⟨by ext,h4⟩,k2,ko.trans o2⟩,rfl⟩
  |false=>
   rw[es0,if_neg Ak]at hu
   have hlt:hi<row.length:=by
    rcases Hn hi row.length with h|h
    .exact h
    .rw[show hi=row.length by ext,hL]at es0;cases es0
   (try grind)
   have ho:(min (ms.length+2*(hi+1-ms.length)) row.length:Nat)=(if (row.length:Int)<ms.length+2*(hi+1-ms.length)then(row.length:Int)else ms.length+2*(hi+1-ms.length)):=by
    split<;>ext
   refine⟨?_,?_⟩
   .exact .inl ⟨by ext,by ext⟩
   rw[k2.o,G1,wP,BS,Se k2.q,BS,Ab,<- ho];exact⟨k,by ext,hi+1,min (ms.length+2*(hi+1-ms.length)) row.length,hi,⟨⟨by ext,by ext,by ext,by ext,hu⟩,⟨by ext,h4⟩,k2,ko.trans o2⟩,rfl⟩
 intro τ M';ext1⟨lo,hi,c,⟨⟨h1,h3,h4,hp,hs⟩,⟨c1,c2⟩,kn',ko⟩,e1'⟩;subst hp;dsimp only at q;generalize hR:W0 st (row.length+1) lo hi=N at q;refine⟨λτ M'=>∃c:Nat,((ms.length<=c/\c<=row.length)/\Gg T.C_Known M' A E row (Ie c ms) (Ie c ms)/\JM A M M'/\ms.length<=N/\N<=row.length/\st N=true)/\∃x,τ=[some (.ref A.o),some G,some (.int ms.length),some (.int N),some (.int N),x],?_,?_⟩
 .refine⟨λk τ M'=>∃lo hi c:Nat,((ms.length<=lo/\lo<=hi/\hi<=row.length/\hi-lo+1<=k/\W0 st k lo hi=N/\st hi=true)/\(ms.length<=c/\c<=row.length)/\Gg T.C_Known M' A E row (Ie c ms) (Ie c ms)/\JM A M M')/\∃x,τ=[some (.ref A.o),some G,some (.int ms.length),some (.int lo),some (.int hi),x],⟨_,lo,hi,c,⟨⟨h1,h3,h4,by ext,hR,hs⟩,⟨c1,c2⟩,kn',ko⟩,_,rfl⟩,?_⟩;clear hs hR hP c1 c2 kn' ko h1 h3 h4;intro k τ M';ext1⟨lo,hi,c,⟨⟨h1,h3,h4,hf,hu,hs⟩,⟨c1,c2⟩,kn',ko⟩,x,e1'⟩;obtain⟨k,rfl⟩:∃k',k=k'+1:=⟨k-1,by ext⟩;rw[W0]at hu;grind;subst hG;refine Cj (λc=>?_) λc=>?_
  .have clt:lo<hi:=by ext
   rw[if_pos clt]at hu;have em:((lo:Int)+hi) / 2=((lo+hi) / 2:Nat):=by ext
   rw[em];refine⟨by unfold Wt;ext,?_⟩;rw[kn'.o,G1];refine⟨MD 'k' 'k' 'k',A,E,row,_,t,u,bs,es,(lo+hi) / 2,rfl,rfl,rfl,kr,kn',fQ hk _,gd,by ext,by rw[aQ];exact c2,λM2 k2 o2=>?_⟩;rw[aP c1 (by ext)]at k2;rw[aP c1 (by ext),hst];cases es0:st ((lo+hi) / 2)with
   |true=>
    rw[es0,if_pos rfl]at hu
    (try grind)
    exact⟨k,by ext,lo,(lo+hi) / 2,(lo+hi) / 2,⟨⟨h1,by ext,by ext,by ext,hu,es0⟩,⟨by ext,by ext⟩,k2,ko.trans o2⟩,_,rfl⟩
   |false=>
    rw[es0,if_neg Ak]at hu
    (try grind)
    exact⟨k,by ext,(lo+hi) / 2+1,hi,(lo+hi) / 2,⟨⟨by ext,by ext,h4,by ext,hu,hs⟩,⟨by ext,by ext⟩,k2,ko.trans o2⟩,_,rfl⟩
  .have e:lo=hi:=by ext
   rw[if_neg (by ext)]at hu;subst hu;subst e;exact⟨_,⟨⟨c1,c2⟩,kn',ko,h1,h4,hs⟩,_,rfl⟩
 intro τ M2;ext1⟨c',⟨⟨c1',c2'⟩,kn2,ko2,N1,N2,sN⟩,x,e1'⟩;grind;rw[kn2.o,G1];refine⟨MD 'k' 'k' 'k',A,E,row,_,N,rfl,rfl,kr,kn2,fQ hk _,N2,by rw[aQ];exact c2',λM3 k3 o3=>?_⟩;rw[aP c1' N1]at k3;exact Dn.of (q M3 N rfl N1 N2 sN k3 (ko2.trans o3))
abbrev Zg2 (C:Av)(ds:List D)(M:Mp)(Q:Ef):Prop:=GH ds λx=>∃(A:KA) (E:Str->List (Str×Nat)) (row:List 'l') (a:List Int) (k:Nat),x=.ref A.o/\OU E row/\Gg C M A E row (a++Az k 1) (a++Az k 1)/\LN a/\(a++Az k 1).length<=row.length/\((a=[]/\∀M',Gg C M' A E row [] []->JM A M M'->Q (.bl false) M')\/∃b,a=b++[0]/\∀M',Gg C M' A E row (b++[1]) (b++[1])->JM A M M'->Q (.bl true) M')
def yM (k:Nat):LN (Az k 1):=λm hm=>.inr (.inl (E3 hm))
def sZ (xs:List Int)(m:Int):F3 ((xs++[m]).map D.int) (-1)=some (.int m):=by
 rw[AJ];exact y9 _ _
def Zgp:Om T T.x57 4 (Zg2 T.C_Known):=by
 refine CB.p1 T.x57.d.F ["self"] λx M Q hr nN h=>?_;obtain⟨A,E,row,a,k,e1',kr,kn,hk,hl,q⟩:_:=h;refine⟨_,EW (Tw AK ((UF (AV LJ (B6 K6 T.B.len B8 (qA (Hs T.cl_Known T.na_Known_marks (qv 0)) qN)) Aj) (UH (AV CP (Bf Ii (Hs T.cl_Known T.na_Known_marks (qv 0)) (Sf fB Aj)) Aj)))).pt (qO (Fh (KY T.cl_Known T.x52.d (rO T) nofun (qv 0))))) (qC (Ew (AV CP (B6 K6 T.B.len B8 (qA (Hs T.cl_Known T.na_Known_marks (qv 0)) qN)) Aj) (qO (CA S6)) qE) (qC (Fh (KY T.cl_Known T.x52.d (rO T) nofun (qv 0))) (qC (Fh (Fz T.cl_Known T.x51.d (iw T) nofun (qv 0) (qA Aj qN))) (qO (CA S6))))),?_⟩
 (try simp only[Mn,Ml,Mm])
 refine⟨λτ M'=>(Gg T.C_Known M' A E row a a/\JM A M M')/\τ=[some (.ref A.o)],?_,?_⟩
 .refine⟨λj τ M'=>(j<=k/\Gg T.C_Known M' A E row (a++Az j 1) (a++Az j 1)/\JM A M M')/\τ=[some (.ref A.o)],⟨k,⟨AL _,kn,JM.refl A M⟩,rfl⟩,?_⟩;intro j τ M';ext1⟨⟨hj,kn',ko⟩,e1'⟩;simp![↓Ow,↓VQ,↓Ox,DI]
  rw[kn'.o,G1,RO,BS,Se kn'.m,BS];rw[Ab];refine Cj (λc=>?_) λc=>?_
  .rw[G1,RO,BS,mD kn'.m,BS];cases j with
   |zero=>
    rw[Jq,Cc]at c kn' ⊢;rcases q with⟨rfl,-⟩|⟨b,rfl,-⟩
    .exact absurd c 'f'
    rw[sZ,BS]
    (try simp![Of])
    exact⟨kn',ko⟩
   |succ j=>
    rw[O3,<- Bv]at c kn' ⊢;rw[sZ,BS]
    (try grind)
    rw[kn'.o,G1];exact⟨MD 'k' 'k' 'k',A,E,row,_,1,rfl,kr,kn',by rw[Aq,Bu]at hl ⊢;ext,aU (aU hk (yM j)) (yM 1),λM2 k2 o2=>⟨j,by ext,by ext,k2,ko.trans o2⟩⟩
  .have e:a++Az j 1=[]:=AH (by ext);rw[e]at kn';rw[(List.append_eq_nil_iff.mp e).1];exact⟨kn',ko⟩
 rintro τ M' ⟨⟨kn',ko⟩,rfl⟩;grind;rw[kn'.o,G1,RO,BS,Se kn'.m,BS]
 (try simp![G1])
 rcases q with⟨rfl,q⟩|⟨b,rfl,q⟩
 .exact Dn.of (q M' kn' ko)
 .rw[if_neg (by rw[Aq];show¬((b.length+1:Nat):Int)=0;ext)];have l1:b.length<row.length:=by rw[Aq,Aq]at hl;change b.length+1+_<=_ at hl;ext
  refine⟨MD 'k' 'k' 'k',A,E,row,b,0,rfl,kr,kn',l1,hk,λM2 k2 o2=>?_⟩;rw[k2.o,G1];exact⟨MD 'k' 'k' 'k',A,E,row,b,1,rfl,rfl,kr,k2,l1,.inr (.inl rfl),λm hm=>hk m (CQ _ hm),λM3 k3 o3=>Dn.of (q M3 k3 ((ko.trans o2).trans o3))⟩
noncomputable def WZ (row:List 'l')(ms:List Int)(E:Str->List (Str×Nat))(s:Str):List (Str×Int):=(E s).map λn=>(n.1,Lg (LS row ms s n.1 n.2))
abbrev Zcq (C:Av)(ds:List D)(M:Mp)(Q:Ef):Prop:=FW ds λx y=>∃(A:KA) (E:Str->List (Str×Nat)) (row:List 'l') (ms:List Int) (s:Str),x=.ref A.o/\y=.str s/\Lk s/\OU E row/\M A.o=some (.obj C (NK A))/\M A.d=some (.dic (JD A))/\M (A.at s)=some (.dic (Ip row ms E s))/\Q (.dic (Fv (WZ row ms E s))) (J2 M (A.at s))
def iI:Om T T.x61 3 (Zcq T.C_Known):=by
 refine CB.p2 T.x61.d.F ["self", "sort", "named"] λx y M Q hr nN h=>?_;obtain⟨A,E,row,ms,so,e1',e2',hs,kr,k1,k2,k3,q⟩:_:=h;refine⟨_,qC (aG (i:=2) nN rfl (Im rfl) (KZ (FV (KL hr) (Hs T.cl_Known T.na_Known_spans (qv 0)) (qv 1) (λ_ _=>rfl)))) (qO (CA (Ee (gG rfl) T.B.dict Qe (qA (S5 (caps:=[("named",2)]) (j:=2) ⟨rfl,by rfl,by rfl,by rfl,rfl,by rfl,by nofun⟩ rfl rfl (Im (Cd rfl)) 'g' 'g' (λ_ _ _ _ _ _ _=>(CJ (qA (qv 0) (qA (Bf BE (FV (KL hr) (qv 1) (qv 0) (λ_ _=>rfl)) Aj) qN))))) qN)))),?_⟩
 dsimp![↓vO,↓uF,↓So]
 rw[k1,G1,bB,BS,Sl k2,BS,Xs hs,BS]
 (try grind)
 rw[k3]
 (try grind)
 have e12:=(kr.e so).2.1
 have ek:Fm (λp:Ck×D=>kD p.1) (Ip row ms E so)=(E so).map λn=>.str n.1:=by
  unfold Ip;rw[BB];rfl
 rw[ek];refine Ev.of (ks:=E so) (g:=λn=>.str n.1) (f:=λn=>.tup [.str n.1,.int (Lg (LS row ms so n.1 n.2))]) (GS (by ext)) trivial (λn hn R r=>?_) ?_
 .simp_all![↓gC]
  rw[pH (kr.e so).1 hn,BS];unfold NG
  (try grind)
  exact r
 refine⟨Fv (WZ row ms E so),?_,GS (by unfold Fv WZ;rw[Ab,Ab];ext),?_⟩
 .simp[Ht,Fv,WZ,kD]
 rw[iA _ (qD _ (by unfold WZ;rw[BB];exact(kr.e so).1))];exact Dn.of q
noncomputable def dZ (row:List 'l')(ms:List Int)(E:Str->List (Str×Nat))(s:Str):D:=.dic (Fv (WZ row ms E s))
noncomputable def Pj (row:List 'l')(ms:List Int)(E:Str->List (Str×Nat)):D:=.tup [.str "both",dZ row ms E "box",dZ row ms E "door",dZ row ms E "one",dZ row ms E "other"]
abbrev Zc9 (C:Av)(ds:List D)(M:Mp)(Q:Ef):Prop:=GH ds λx=>∃(A:KA) (E:Str->List (Str×Nat)) (row:List 'l') (ms:List Int),x=.ref A.o/\OU E row/\Gg C M A E row ms ms/\Q (Pj row ms E) (J2 (J2 (J2 (J2 M A.b) A.e) A.f) A.g)
def Jl {M:Mp}{p q:Av}(h:p≠q):J2 M q p=M p:=if_neg h
def Gg.one {C:Av}{M:Mp}{A:KA}{E:Str->List (Str×Nat)}{row:List 'l'}{ms ks:List Int}(kn:Gg C M A E row ms ks){s:Str}(hs:Lk s):A.o≠A.at s:=λe=>by
 have hd:=kn.o;rw[e,kn.s s hs]at hd;cases hd
def Zcd:Om T T.x60 4 (Zc9 T.C_Known):=by
 refine CB.p1 T.x60.d.F ["self"] λx M Q hr nN h=>?_;obtain⟨A,E,row,ms,e1',kr,kn,q⟩:_:=h;refine⟨_,qO (CA (CJ (qA BZ (qA (Fz T.cl_Known T.x61.d (iI T) nofun (qv 0) (qA BZ qN)) (qA (Fz T.cl_Known T.x61.d (iI T) nofun (qv 0) (qA BZ qN)) (qA (Fz T.cl_Known T.x61.d (iI T) nofun (qv 0) (qA BZ qN)) (qA (Fz T.cl_Known T.x61.d (iI T) nofun (qv 0) (qA BZ qN)) qN))))))),?_⟩;have sb:Lk "box":=.inl rfl;have sd:Lk "door":=.inr (.inl rfl);have so:Lk "one":=.inr (.inr (.inl rfl));have st:Lk "other":=.inr (.inr (.inr rfl));have nd:=kn.nd;simp only[Ek,BD,AT,or_false,not_or]at nd;obtain⟨⟨n1,n2,n3⟩,⟨n4,n5⟩,n6,-⟩:_:=nd;have o1:=kn.one sb;have o2:=kn.one sd;have o3:=kn.one so;have d1:=kn.dne sb;have d2:=kn.dne sd;have d3:=kn.dne so;have k1:=kn.s _ sb;have k2:=kn.s _ sd;have k3:=kn.s _ so;have k4:=kn.s _ st;simp only[VT,V1,VU,V5]at o1 o2 o3 d1 d2 d3 k1 k2 k3 k4;have no:∀{B:KA},BL (Al "low_words") (NK B)=none:=λ{B}=>MD 'k' 'k' 'k';right;rw[kn.o,G1];refine⟨no,A,E,row,ms, "box",rfl,rfl,sb,kr,kn.o,kn.d,by rw[VT];exact k1,?_⟩;rw[VT,Jl o1,kn.o,G1];refine⟨no,A,E,row,ms, "door",rfl,rfl,sd,kr,by rw[Jl o1];exact kn.o,by rw[Jl d1];exact kn.d,by rw[V1,Jl (Bk n1)];exact k2,?_⟩;rw[V1,Jl o2,Jl o1,kn.o,G1];refine⟨no,A,E,row,ms, "one",rfl,rfl,so,kr,by rw[Jl o2,Jl o1];exact kn.o,by rw[Jl d2,Jl d1];exact kn.d,by rw[VU,Jl (Bk n4),Jl (Bk n2)];exact k3,?_⟩;rw[VU,Jl o3,Jl o2,Jl o1,kn.o,G1];refine⟨no,A,E,row,ms, "other",rfl,rfl,st,kr,by rw[Jl o3,Jl o2,Jl o1];exact kn.o,by rw[Jl d3,Jl d2,Jl d1];exact kn.d,by rw[V5,Jl (Bk n6),Jl (Bk n5),Jl (Bk n3)];exact k4,?_⟩;rw[V5];exact Dn.of q
def RY (ms:List Int):Prop:=∀m∈ms,m=0\/m=1
theorem tR:∀{ms:List Int},RY ms->Lg ms=LW ms
 |[],_=>rfl
 |m::ms,h=>by
  rw[vd,uw,tR λx hx=>h x (Ay _ hx)];rcases h m Aw with rfl|rfl<;>rfl
noncomputable def Hc (s z:Str)(w:Nat):List 'l':=(Bx w).map λi=>(s,z,w-1-i)
def ZmN (s z:Str)(w:Nat):(Hc s z w).length=w:=by unfold Hc;rw[Ab,Ch]
def hJ {w:Nat} :b∈Hc s z w↔b.1=s/\b.2.1=z/\b.2.2<w:=by
 constructor
 .intro h;obtain⟨i,hi,rfl⟩:=Ao.mp h;have hi:=CG.mp hi;exact⟨rfl,rfl,by show w-1-i<w;ext⟩
 .rintro⟨rfl,rfl,h⟩;refine Ao.mpr ⟨w-1-b.2.2,CG.mpr (by ext),?_⟩;rw[show w-1-(w-1-b.2.2)=b.2.2 by ext]
def zc (s z:Str)(w:Nat):(Hc s z w).Nodup:=by
 unfold Hc FD;rw[C4];refine Yh (λ{i j} hi hj h c=>?_) List.pairwise_lt_range;have hi:=CG.mp hi;have hj:=CG.mp hj;have:=congrArg (λx:Str×Str×Nat=>x.2.2) c;change w-1-i=w-1-j at this;ext
theorem pW :∀(l:List 'l') (acc:List (Str×Nat)),(∀b∈l,¬(b.1=t/\b.2.1∉acc.map (·.1)))->l.foldl (NH t) acc=acc
 |[],acc,_=>rfl
 |b::l,acc,h=>by
  rw[DY,show NH t acc b=acc from if_neg (h b Aw)];exact pW l acc λb hb=>h b (Ay _ hb)
def xk {w:Nat}(acc:List (Str×Nat))(hw:1<=w):(Hc s z w).foldl (NH t) acc=if s=t/\z∉acc.map (·.1)then acc++[(z,w)]else acc:=by
 by_cases h:s=t/\z∉acc.map (·.1)
 .rw[if_pos h];obtain⟨n,rfl⟩:∃n,w=n+1:=⟨w-1,by ext⟩;unfold Hc;rw[EI,AU,DY]
  have e:NH t acc (s,z,n+1-1-0)=acc++[(z,n+1)]:=by
   unfold NH;rw[if_pos h];rfl
  rw[e];refine pW _ _ λb hb c=>c.2 ?_;obtain⟨i,hi,rfl⟩:=Ao.mp hb;show z∈(acc++[(z,n+1)]).map (·.1);simp
 .rw[if_neg h];refine pW _ _ λb hb c=>h ?_;obtain⟨h1,h2,-⟩:=hJ.mp hb;rw[h1,h2]at c;exact c
noncomputable def FT (g:List 'l'):List 'l':=g.flatMap λp=>Hc p.1 p.2.1 p.2.2
noncomputable def Mz (p:Str×Str×Nat):Str×Str:=(p.1,p.2.1)
noncomputable def Sg (g:List 'l')(s:Str):List (Str×Nat):=(g.filter λp=>decide (p.1=s)).map (·.2)
theorem oN {s:Str}:∀(g:List 'l') (acc:List (Str×Nat)),(∀p∈g,1<=p.2.2/\(p.1=s->p.2.1∉acc.map (·.1)))->(g.map Mz).Nodup->(FT g).foldl (NH s) acc=acc++Sg g s
 |[],acc,_,_=>(Cc acc).symm
 |p::g,acc,h,nd=>by
  obtain⟨h1,h2⟩:=h p Aw;rw[AU,Ek]at nd;show(Hc p.1 p.2.1 p.2.2++FT g).foldl (NH s) acc=_;rw[Kk,xk _ h1];unfold Sg;by_cases e:p.1=s
  .rw[if_pos ⟨e,h2 e⟩,DR,if_pos (decide_eq_true e),AU];rw[oN g (acc++[(p.2.1,p.2.2)]) (λq hq=>⟨(h q (Ay _ hq)).1,λeq hm=>?_⟩) nd.2,Bv]
   .rfl
   .rw[AJ]at hm;rcases AQ.mp hm with hm|hm
    .exact(h q (Ay _ hq)).2 eq hm
    .have e2:q.2.1=p.2.1:=by simpa using hm
     exact nd.1 (Ao.mpr ⟨q,hq,by unfold Mz;rw[eq,e,e2]⟩)
  .rw[if_neg (λc=>e c.1),DR,if_neg (by simpa using e)];exact oN g acc (λq hq=>h q (Ay _ hq)) nd.2
def pG :b∈FT g↔∃w,(b.1,b.2.1,w)∈g/\b.2.2<w:=by
 constructor
 .intro h;obtain⟨p,hp,hb⟩:=Sb.mp h;obtain⟨e1,e2,e3⟩:=hJ.mp hb;exact⟨p.2.2,by rw[e1,e2];exact hp,e3⟩
 .rintro⟨w,h,hw⟩;exact Sb.mpr ⟨_,h,hJ.mpr ⟨rfl,rfl,hw⟩⟩
theorem wX:∀(g:List 'l'),(g.map Mz).Nodup->(FT g).Nodup
 |[],_=>Iw
 |p::g,nd=>by
  rw[AU,Ek]at nd;show(Hc p.1 p.2.1 p.2.2++FT g).Nodup;rw[El];refine⟨zc ..,wX g nd.2,λa ha b hb e=>nd.1 ?_⟩;subst e;obtain⟨e1,e2,-⟩:=hJ.mp ha;obtain⟨w,hw,-⟩:=pG.mp hb;exact Ao.mpr ⟨_,hw,by unfold Mz;rw[e1,e2]⟩
theorem yR:∀(g:List 'l'),(∀p∈g,p.2.2<=64)->(FT g).length<=64*g.length
 |[],_=>AL _
 |p::g,h=>by
  have:=yR g λq hq=>h q (Ay _ hq);have:=h p Aw;show(Hc p.1 p.2.1 p.2.2++FT g).length<=_;rw[Aq,ZmN,AO];ext
def aT {g:List 'l'}{s z:Str}{w:Nat}:(z,w)∈Sg g s↔(s,z,w)∈g:=by
 unfold Sg;constructor
 .intro h;obtain⟨p,hp,e⟩:=Ao.mp h;obtain⟨h1,h2⟩:=Bl.mp hp;have h2:=of_decide_eq_true h2;rw[<- e,<- h2];exact h1
 .exact λh=>Ao.mpr ⟨_,Bl.mpr ⟨h,decide_eq_true rfl⟩,rfl⟩
structure Wf (g:List (Str×Str×Nat)):Prop where
 nd:(g.map Mz).Nodup
 w:∀p∈g,Lk p.1/\1<=p.2.2/\p.2.2<=64
 l:g.length<=72
 e:∀s,(Sg g s).length<=12
def Wf.en {g:List 'l'}(h:Wf g)(s:Str):IH (FT g) s=Sg g s:=by
 unfold IH;rw[oN g [] (λp hp=>⟨(h.w p hp).2.1,λ_ hm=>by cases hm⟩) h.nd,Hl]
def Wf.kr {g:List 'l'}(h:Wf g):OU (IH (FT g)) (FT g):=by
 refine⟨wX g h.nd,λb hb=>?_,λs=>?_,?_⟩
 .obtain⟨w,hw,hl⟩:=pG.mp hb;exact⟨(h.w _ hw).1,w,by rw[h.en];exact aT.mpr hw,hl⟩
 .rw[h.en];refine⟨?_,h.e s,λn hn=>(h.w _ ((aT).mp hn)).2⟩;have nd:=h.nd;unfold Sg;unfold FD at nd ⊢;rw[C4,C4];rw[C4]at nd;refine(KS _ nd).imp_of_mem λ{a b} ha hb hab e=>hab ?_;have e1:=of_decide_eq_true (Bl.mp ha).2;have e2:=of_decide_eq_true (Bl.mp hb).2;unfold Mz;rw[e1,e2,e]
 .have:=yR g λp hp=>(h.w p hp).2.2;have:=h.l;ext
def Zm4 {ws:List (Str×Nat)}(h:ws.lookup x=some n):(x,n)∈ws:=by
 induction ws with
 |nil=>cases h
 |cons p ws ih=>
  rw[By]at h;split at h
  .next e=>cases h;rw[eq_of_beq e];exact Aw
  .exact Ay _ (ih h)
def zm (h:Wf g)(hb:RY ms)(hl:ms.length=(FT g).length){w:Nat}(hz:(z,w)∈IH (FT g) s):RY (LS (FT g) ms s z w):=λm hm=>by
 obtain⟨j,hj,rfl⟩:=Ao.mp hm;have hj:=CG.mp hj;rw[h.en]at hz;have mem:(s,z,j)∈FT g:=pG.mpr ⟨w,aT.mp hz,hj⟩;have hi:(FT g).idxOf (s,z,j)<ms.length:=by rw[hl];exact LB mem
 rw[Ct,Af hi];exact hb _ (Go hi)
def θ {g:List 'l'}(h:Wf g){ms:List Int}(hb:RY ms)(hl:ms.length=(FT g).length){bs es:List (Str×Int)}{t u:Tm}(gd:bV (IH (FT g)) bs es t u):Sd (FT g) (IH (FT g)) t u ms=true:=by
 have kn:∀s x,Hh (Sj (FT g) ms (IH (FT g)) s x):=λs x=>by
  unfold Sj;cases e:(IH (FT g) s).lookup x with
  |none=>rfl
  |some w=>exact tR (zm h hb hl (Zm4 e))
 have bit:∀so t,XO (IH (FT g)) so bs es t->gM (FT g) ms (IH (FT g)) so t=0\/gM (FT g) ms (IH (FT g)) so t=1:=λso t gk=>by
  have k:=(nY gk.w (gk.dt h.kr)).2 λx=>⟨kn "box" x,kn so x,kn "door" x⟩;unfold gM mB;rw[k,if_pos rfl];ext
 unfold Sd;refine decide_eq_true ?_;rcases bit "one" t gd.a with e|e
 .exact .inl e
 .rcases bit "other" u gd.b with f|f
  .exact .inr (.inl f)
  .exact .inr (.inr ⟨e,f⟩)
noncomputable def sg (s:Str)(ws:List (Str×Int))(ss:List Str):List 'l':=ss.map λz=>(s,z,((ws.lookup z).getD 0).toNat)
noncomputable def DD (ws ds:List (Str×Int))(g1 g2:Tm):List 'l':=sg "box" ws (Ld (Hg g1) (Hg g2))++sg "door" ds (Ld (Hf g1) (Hf g2))++sg "box" ws (LG (Hg g1) (Hg g2))++sg "door" ds (LG (Hf g1) (Hf g2))++sg "one" ws (Nk g1)++sg "other" ws (Nk g2)
theorem yI (s)(ws:List (Str×Int)):∀ss,(∀z∈ss,∃w,ws.lookup z=some w/\1<=w/\w<=64)->EO s ws ss=(FT (sg s ws ss)).map bD
 |[],_=>rfl
 |z::ss,h=>by
  obtain⟨w,e,w1,w2⟩:=h z Aw;have ih:=yI s ws ss λz hz=>h z (Ay _ hz);show K5 s z ((ws.lookup z).getD 0)++EO s ws ss=(Hc s z ((ws.lookup z).getD 0).toNat++FT (sg s ws ss)).map bD;rw[AJ,ih,e];congr 1
  unfold K5 Hc;rw[BB];refine D6 λi hi=>?_;have hi:=CG.mp hi;have hi:i<w.toNat:=hi;show D.tup [.str s,.str z,.int (w-1-i)]=D.tup [.str s,.str z,.int ((w.toNat-1-i:Nat):Int)];rw[show((w.toNat-1-i:Nat):Int)=w-1-i by ext]
def xt (a b):FT (a++b)=FT a++FT b:=Pz
def wR :p∈sg s ws ss↔p.2.1∈ss/\p=(s,p.2.1,((ws.lookup p.2.1).getD 0).toNat):=by
 unfold sg;constructor
 .intro h;obtain⟨z,hz,rfl⟩:=Ao.mp h;exact⟨hz,rfl⟩
 .exact λh=>Ao.mpr ⟨_,h.1,h.2.symm⟩
def RL :x∈Ld xs ys↔x∈xs/\x∈ys:=by
 unfold Ld;rw[G3,Em,decide_eq_true_eq]
def RM :x∈LG xs ys↔(x∈ys/\x∉xs)\/(x∈xs/\x∉ys):=by
 unfold LG;rw[G3,Dv,Em,Em,decide_eq_true_eq,decide_eq_true_eq]
section
variable {wk:Wk}{g1 g2:Tm}
def yD (h:p∈DD wk.ws wk.ds g1 g2):(p.1 = "box"/\p.2.1∈Ld (Hg g1) (Hg g2)\/p.1 = "door"/\p.2.1∈Ld (Hf g1) (Hf g2)\/p.1 = "box"/\p.2.1∈LG (Hg g1) (Hg g2)\/p.1 = "door"/\p.2.1∈LG (Hf g1) (Hf g2)\/p.1 = "one"/\p.2.1∈Nk g1\/p.1 = "other"/\p.2.1∈Nk g2)/\p.2.2=(((if p.1 = "door" then wk.ds else wk.ws).lookup p.2.1).getD 0).toNat:=by
 have nb:¬(Al "box" = "door"):=by nofun
 have no:¬(Al "one" = "door"):=by nofun
 have nt:¬(Al "other" = "door"):=by nofun
 simp only[DD,Dv,wR]at h;rcases h with((((⟨h,e⟩|⟨h,e⟩)|⟨h,e⟩)|⟨h,e⟩)|⟨h,e⟩)|⟨h,e⟩
 .rw[e];exact⟨.inl ⟨rfl,h⟩,by rw[if_neg nb]⟩
 .rw[e];exact⟨.inr (.inl ⟨rfl,h⟩),by rw[if_pos rfl]⟩
 .rw[e];exact⟨.inr (.inr (.inl ⟨rfl,h⟩)),by rw[if_neg nb]⟩
 .rw[e];exact⟨.inr (.inr (.inr (.inl ⟨rfl,h⟩))),by rw[if_pos rfl]⟩
 .rw[e];exact⟨.inr (.inr (.inr (.inr (.inl ⟨rfl,h⟩)))),by rw[if_neg no]⟩
 .rw[e];exact⟨.inr (.inr (.inr (.inr (.inr ⟨rfl,h⟩)))),by rw[if_neg nt]⟩
def zA (k1:Fs wk g1)(k2:Fs wk g2)(h:p∈DD wk.ws wk.ds g1 g2):Lk p.1/\p.2.1∈(if p.1 = "door" then wk.ds else wk.ws).map (·.1)/\∃n,(if p.1 = "door" then wk.ds else wk.ws).lookup p.2.1=some n/\1<=n/\n<=64:=by
 have nb:¬(Al "box" = "door"):=by nofun
 have no:¬(Al "one" = "door"):=by nofun
 have nt:¬(Al "other" = "door"):=by nofun
 have B:∀{g x},Fs wk g->x∈Hg g->x∈wk.ws.map (·.1)/\∃n,wk.ws.lookup x=some n/\1<=n/\n<=64:=λk hx=>k.b _ (.inl (G3.mp hx));have L:∀{g x},Fs wk g->x∈Nk g->x∈wk.ws.map (·.1)/\∃n,wk.ws.lookup x=some n/\1<=n/\n<=64:=λk hx=>k.b _ (.inr (G3.mp hx));have O:∀{g x},Fs wk g->x∈Hf g->x∈wk.ds.map (·.1)/\∃n,wk.ds.lookup x=some n/\1<=n/\n<=64:=λk hx=>k.d _ (G3.mp hx);obtain⟨h,-⟩:=yD h;rcases h with⟨e,h⟩|⟨e,h⟩|⟨e,h⟩|⟨e,h⟩|⟨e,h⟩|⟨e,h⟩<;>rw[e]
 .rw[if_neg nb];exact⟨.inl rfl,B k1 (RL.mp h).1⟩
 .rw[if_pos rfl];exact⟨.inr (.inl rfl),O k1 (RL.mp h).1⟩
 .rw[if_neg nb];exact⟨.inl rfl,(RM.mp h).elim (λc=>B k2 c.1) λc=>B k1 c.1⟩
 .rw[if_pos rfl];exact⟨.inr (.inl rfl),(RM.mp h).elim (λc=>O k2 c.1) λc=>O k1 c.1⟩
 .rw[if_neg no];exact⟨.inr (.inr (.inl rfl)),L k1 h⟩
 .rw[if_neg nt];exact⟨.inr (.inr (.inr rfl)),L k2 h⟩
def xh (k1:Fs wk g1)(k2:Fs wk g2):Ti wk.ws wk.ds g1 g2=(FT (DD wk.ws wk.ds g1 g2)).map bD:=by
 have go:=yI;have B:∀{g x},Fs wk g->x∈Hg g->∃n,wk.ws.lookup x=some n/\1<=n/\n<=64:=λk hx=>(k.b _ (.inl (G3.mp hx))).2;have L:∀{g x},Fs wk g->x∈Nk g->∃n,wk.ws.lookup x=some n/\1<=n/\n<=64:=λk hx=>(k.b _ (.inr (G3.mp hx))).2;have O:∀{g x},Fs wk g->x∈Hf g->∃n,wk.ds.lookup x=some n/\1<=n/\n<=64:=λk hx=>(k.d _ (G3.mp hx)).2;unfold Ti DD;rw[go "box" wk.ws _ λz h=>B k1 (RL.mp h).1,go "door" wk.ds _ λz h=>O k1 (RL.mp h).1,go "box" wk.ws _ λz h=>(RM.mp h).elim (λc=>B k2 c.1) λc=>B k1 c.1,go "door" wk.ds _ λz h=>(RM.mp h).elim (λc=>O k2 c.1) λc=>O k1 c.1,go "one" wk.ws _ λz h=>L k1 h,go "other" wk.ws _ λz h=>L k2 h];simp only[xt,AJ]
def vq (s)(ws)(ss:List Str):(sg s ws ss).map Mz=ss.map λz=>(s,z):=by
 unfold sg;rw[BB];rfl
def Xe (s:Str){ss:List Str}(h:ss.Nodup):(ss.map λz=>(s,z)).Nodup:=by
 unfold FD at h ⊢;rw[C4];exact h.imp λh e=>h (congrArg TV e)
def yE (ok:wk.Ok)(k1:Fs wk g1)(k2:Fs wk g2):Wf (DD wk.ws wk.ds g1 g2):=by
 have n1:¬(Al "box" = "door"):=by nofun
 have n2:¬(Al "box" = "one"):=by nofun
 have n3:¬(Al "box" = "other"):=by nofun
 have n4:¬(Al "door" = "one"):=by nofun
 have n5:¬(Al "door" = "other"):=by nofun
 have n6:¬(Al "one" = "other"):=by nofun
 have n7:¬(Al "door" = "box"):=λe=>n1 e.symm;have sn:∀xs ys,(Ld xs ys).Nodup:=λxs ys=>TB _;have un:∀xs ys,(LG xs ys).Nodup:=λxs ys=>TB _;have lw:(wk.ws.map (·.1)).length<=12:=by unfold Wk.ws;rw[Ab,Ab];exact ok.b.1
 have ld:(wk.ds.map (·.1)).length<=12:=by rw[Ab];have:=ok.d.1;ext
 have nd:((DD wk.ws wk.ds g1 g2).map Mz).Nodup:=by
  unfold DD;simp only[AJ,vq];have app:∀{a b:List (Str×Str)},a.Nodup->b.Nodup->(∀x∈a,x∉b)->(a++b).Nodup:=λha hb h=>Ci.mpr ⟨ha,hb,λx hx y hy e=>h x hx (e ▸ hy)⟩
  have mm:∀{s:Str} {ss:List Str} {x:Str×Str},x∈ss.map (λz=>(s,z))↔x.1=s/\x.2∈ss:=λ{s ss x}=>by
   rw[Ao];exact⟨λ⟨z,hz,e⟩=>by rw[<- e];exact⟨rfl,hz⟩,λ⟨h1,h2⟩=>⟨x.2,h2,by rw[<- h1]⟩⟩
  refine app (app (app (app (app (Xe _ (sn _ _)) (Xe _ (sn _ _)) ?_) (Xe _ (un _ _)) ?_) (Xe _ (un _ _)) ?_) (Xe _ (TB _)) ?_) (Xe _ (TB _)) ?_
  .intro x h h';exact n1 ((mm.mp h).1.symm.trans (mm.mp h').1)
  .intro x h h';obtain⟨e,m⟩:=mm.mp h';rcases AQ.mp h with h|h
   .obtain⟨-,m'⟩:=mm.mp h;obtain⟨a,b⟩:=RL.mp m';rcases RM.mp m with⟨-,c⟩|⟨-,c⟩
    .exact c a
    .exact c b
   .exact n1 (e.symm.trans (mm.mp h).1)
  .intro x h h';obtain⟨e,m⟩:=mm.mp h';rcases AQ.mp h with h|h
   .rcases AQ.mp h with h|h
    .exact n7 (e.symm.trans (mm.mp h).1)
    .obtain⟨-,m'⟩:=mm.mp h;obtain⟨a,b⟩:=RL.mp m';rcases RM.mp m with⟨-,c⟩|⟨-,c⟩
     .exact c a
     .exact c b
   .exact n7 (e.symm.trans (mm.mp h).1)
  .intro x h h';have e:=(mm.mp h').1;simp only[Dv,mm]at h;rcases h with((h|h)|h)|h
   .exact n2 (h.1.symm.trans e)
   .exact n4 (h.1.symm.trans e)
   .exact n2 (h.1.symm.trans e)
   .exact n4 (h.1.symm.trans e)
  .intro x h h';have e:=(mm.mp h').1;simp only[Dv,mm]at h;rcases h with(((h|h)|h)|h)|h
   .exact n3 (h.1.symm.trans e)
   .exact n5 (h.1.symm.trans e)
   .exact n3 (h.1.symm.trans e)
   .exact n5 (h.1.symm.trans e)
   .exact n6 (h.1.symm.trans e)
 have es:∀s,(Sg (DD wk.ws wk.ds g1 g2) s).length<=12:=λs=>by
  have e1:((Sg (DD wk.ws wk.ds g1 g2) s).map (·.1)).Nodup:=by
   unfold Sg;unfold FD at nd ⊢;rw[C4,C4];rw[C4]at nd;refine(KS _ nd).imp_of_mem λ{a b} ha hb hab e=>hab ?_;have e1:=of_decide_eq_true (Bl.mp ha).2;have e2:=of_decide_eq_true (Bl.mp hb).2;unfold Mz;rw[e1,e2,e]
  have e2:=Tr _ ((if s = "door" then wk.ds else wk.ws).map (·.1)) e1 λx hx=>by
   obtain⟨n,hn,rfl⟩:=Ao.mp hx;exact(zA k1 k2 ((aT (s:=s) (z:=n.1) (w:=n.2)).mp hn)).2.1
  rw[Ab]at e2;refine A4 e2 ?_;split
  .exact ld
  .exact lw
 have sl:∀s ws ss,(sg s ws ss).length=ss.length:=λs ws ss=>Ab ..;refine⟨nd,λp hp=>?_,?_,es⟩
 .obtain⟨h1,-,n,e,n1,n2⟩:=zA k1 k2 hp;rw[(yD hp).2,e];exact⟨h1,by show 1<=n.toNat;ext,by show n.toNat<=64;ext⟩
 .have mU:∀{xs ys zs:List Str},(∀x∈xs,x∈zs)->(∀x∈ys,x∈zs)->(LG xs ys).length<=zs.length:=λh1 h2=>Tr _ _ (un _ _) λx hx=>(RM.mp hx).elim (λc=>h2 x c.1) λc=>h1 x c.1;have mS:∀{xs ys zs:List Str},(∀x∈xs,x∈zs)->(Ld xs ys).length<=zs.length:=λh1=>Tr _ _ (sn _ _) λx hx=>h1 x (RL.mp hx).1;have b1:∀x∈Hg g1,x∈wk.ws.map (·.1):=λx hx=>(k1.b _ (.inl (G3.mp hx))).1;have b2:∀x∈Hg g2,x∈wk.ws.map (·.1):=λx hx=>(k2.b _ (.inl (G3.mp hx))).1;have d1:∀x∈Hf g1,x∈wk.ds.map (·.1):=λx hx=>(k1.d _ (G3.mp hx)).1;have d2:∀x∈Hf g2,x∈wk.ds.map (·.1):=λx hx=>(k2.d _ (G3.mp hx)).1;have c1:=mS (ys:=Hg g2) b1;have c2:=mS (ys:=Hf g2) d1;have c3:=mU b1 b2;have c4:=mU d1 d2;have c5:=k1.l.2.1;have c6:=k2.l.2.1;unfold DD;simp only[Aq,sl];ext
def vo (ok:wk.Ok)(o1:OR wk.ws wk.ds g1 1)(o2:OR wk.ws wk.ds g2 1):bV (IH (FT (DD wk.ws wk.ds g1 g2))) wk.ws wk.ds g1 g2:=by
 have k1:=Fs.of ok o1;have k2:=Fs.of ok o2;have pc:=yE ok k1 k2
 have go:∀{s x:Str} {ws:List (Str×Int)} {ss:List Str} {n:Int},sg s ws ss ⊆ DD wk.ws wk.ds g1 g2->x∈ss->ws.lookup x=some n->1<=n->∃w:Nat,ws.lookup x=some (w:Int)/\(x,w)∈IH (FT (DD wk.ws wk.ds g1 g2)) s:=λ{s x ws ss n} hs hx e h1=>by
  refine⟨n.toNat,by rw[e,show((n.toNat:Nat):Int)=n by ext],?_⟩;rw[pc.en];exact aT.mpr (hs (wR.mpr ⟨hx,by show(s,x,n.toNat)=_;rw[e];rfl⟩))
 have s1:sg "box" wk.ws (Ld (Hg g1) (Hg g2)) ⊆ DD wk.ws wk.ds g1 g2:=λp hp=>by simp[DD,hp]
 have s2:sg "door" wk.ds (Ld (Hf g1) (Hf g2)) ⊆ DD wk.ws wk.ds g1 g2:=λp hp=>by simp[DD,hp]
 have s3:sg "box" wk.ws (LG (Hg g1) (Hg g2)) ⊆ DD wk.ws wk.ds g1 g2:=λp hp=>by simp[DD,hp]
 have s4:sg "door" wk.ds (LG (Hf g1) (Hf g2)) ⊆ DD wk.ws wk.ds g1 g2:=λp hp=>by simp[DD,hp]
 have s5:sg "one" wk.ws (Nk g1) ⊆ DD wk.ws wk.ds g1 g2:=λp hp=>by simp[DD,hp]
 have s6:sg "other" wk.ws (Nk g2) ⊆ DD wk.ws wk.ds g1 g2:=λp hp=>by simp[DD,hp]
 have nB:∀{g:Tm} {x:Str},Tm.box x∈g.leaves->x∈g.names "box":=λh=>CT.mpr ⟨_,h,by simp[Tm.nameOf]⟩;have nL:∀{g:Tm} {x:Str},Tm.late x∈g.leaves->x∈g.names "late":=λh=>CT.mpr ⟨_,h,by simp[Tm.nameOf]⟩;have nD:∀{g:Tm} {x:Str},Tm.door x∈g.leaves->x∈g.names "door":=λh=>CT.mpr ⟨_,h,by simp[Tm.nameOf]⟩;refine⟨⟨o1.2,o1.1.2,λx h=>?_,λx h=>?_,λx h=>?_⟩,⟨o2.2,o2.1.2,λx h=>?_,λx h=>?_,λx h=>?_⟩⟩
 .obtain⟨-,n,e,h1,-⟩:=k1.b x (.inl (nB h));by_cases m:x∈Hg g2
  .exact go s1 (RL.mpr ⟨G3.mpr (nB h),m⟩) e h1
  .exact go s3 (RM.mpr (.inr ⟨G3.mpr (nB h),m⟩)) e h1
 .obtain⟨-,n,e,h1,-⟩:=k1.b x (.inr (nL h));exact go s5 (G3.mpr (nL h)) e h1
 .obtain⟨-,n,e,h1,-⟩:=k1.d x (nD h);by_cases m:x∈Hf g2
  .exact go s2 (RL.mpr ⟨G3.mpr (nD h),m⟩) e h1
  .exact go s4 (RM.mpr (.inr ⟨G3.mpr (nD h),m⟩)) e h1
 .obtain⟨-,n,e,h1,-⟩:=k2.b x (.inl (nB h));by_cases m:x∈Hg g1
  .exact go s1 (RL.mpr ⟨m,G3.mpr (nB h)⟩) e h1
  .exact go s3 (RM.mpr (.inl ⟨G3.mpr (nB h),m⟩)) e h1
 .obtain⟨-,n,e,h1,-⟩:=k2.b x (.inr (nL h));exact go s6 (G3.mpr (nL h)) e h1
 .obtain⟨-,n,e,h1,-⟩:=k2.d x (nD h);by_cases m:x∈Hf g1
  .exact go s2 (RL.mpr ⟨m,G3.mpr (nD h)⟩) e h1
  .exact go s4 (RM.mpr (.inl ⟨G3.mpr (nD h),m⟩)) e h1
end
noncomputable def dQ (ms:List Int):Option (List Int):=match ms.reverse.dropWhile (λm=>decide (m=1))with
 |[]=>none
 |_::r=>some (r.reverse++[1])
noncomputable def Sm (c:List Int×Int):D:=.tup [.tup (c.1.map D.int),.int c.2]
noncomputable def WX (N:List Int->Nat)(g g':List Int->Int)(bt:List Int->D):Nat->List Int->List (List Int×Int)->D
 |0,_,_=>.tup [.str "unsure"]
 |f+1,ms,cs=>
  let ks:=Ie (N ms) ms
  if g ks=1/\g' ks=1 then bt ks
  else if f=0 then .tup [.str "unsure"]
  else match dQ ks with
   |none=>.tup [.str "never",.lst ((cs++[(ks,if g ks=0 then 0 else 1)]).map Sm)]
   |some ms'=>WX N g g' bt f ms' (cs++[(ks,if g ks=0 then 0 else 1)])
noncomputable def dX (row:List 'l')(t u:Tm)(ms:List Int):Nat:=eE (λk=>Sd row (IH row) t u (Ie k ms)) ms.length row.length
noncomputable def ZE (row:List 'l')(t u:Tm):D:=WX (dX row t u) (λms=>gM row ms (IH row) "one" t) (λms=>gM row ms (IH row) "other" u) (λms=>Pj row ms (IH row)) 65 [] []
abbrev ZfL:DL:=λds M Q=>Js ds λx y z=>GG y λa=>GG z λb=>∃(wk:Wk) (r1 r2:Str×Tm×List (Str×Tm)),x=wk.D/\wk.Ok/\wk.rs.find? (DW a)=some r1/\wk.rs.find? (DW b)=some r2/\∀M',(∀p o,M p=some o->M' p=some o)->Q (ZE (FT (DD wk.ws wk.ds r1.2.1 r2.2.1)) r1.2.1 r2.2.1) M'
def wN {C:Av}{M:Mp}{A:KA}{E:Str->List (Str×Nat)}{row:List 'l'}{ms ks:List Int}{c:Av}{v:MO}(kn:Gg C M A E row ms ks)(h:∀x∈[A.o,A.q,A.m,A.d,A.b,A.e,A.f,A.g],x≠c):Gg C (L3.put M c v) A E row ms ks:=by
 have hs:∀ s,A.at s≠c:=λs=>h _ (by
  have:=oB A s;simp only [BD,AT,or_false] at this ⊢;rcases this with e|e|e|e|e<;>simp [e])
 exact⟨by rw[DJ (h _ 'f')];exact kn.o,by rw[DJ (h _ 'f')];exact kn.q,by rw[DJ (h _ 'f')];exact kn.m,by rw[DJ (h _ 'f')];exact kn.d,λs' h'=>by rw[DJ (hs s')];exact kn.s s' h',kn.nd,kn.qm⟩
def Gg.off {C:Av}{M:Mp}{A:KA}{E:Str->List (Str×Nat)}{row:List 'l'}{ms ks:List Int}{c:Av}(kn:Gg C M A E row ms ks)(hc:M c=none):∀x∈[A.o,A.q,A.m,A.d,A.b,A.e,A.f,A.g],x≠c:=λx hx=>by
 have k1:=kn.s "box" (.inl rfl);have k2:=kn.s "door" (.inr (.inl rfl));have k3:=kn.s "one" (.inr (.inr (.inl rfl)));have k4:=kn.s "other" (.inr (.inr (.inr rfl)));rw[VT]at k1;rw[V1]at k2;rw[VU]at k3;rw[V5]at k4;simp only[BD,AT,or_false]at hx;rcases hx with rfl|rfl|rfl|rfl|rfl|rfl|rfl|rfl
 .exact JP hc kn.o
 .exact JP hc kn.q
 .exact JP hc kn.m
 .exact JP hc kn.d
 .exact JP hc k1
 .exact JP hc k2
 .exact JP hc k3
 .exact JP hc k4
def oY {ms:List Int}(h:RY ms):LN ms:=λm hm=>(h m hm).elim .inl λe=>.inr (.inl e)
def xX {n:Nat}{ms:List Int}(h:RY ms)(hn:ms.length<=n):RY (Ie n ms):=λm hm=>by
 rw[fK hn]at hm;rcases AQ.mp hm with e|e
 .exact h m e
 .exact .inl (E3 e)
theorem yW:∀{r:List Int},RY r->∃k,(r=Az k 1/\r.dropWhile (λm=>decide (m=1))=[])\/∃t,r=Az k 1++0::t/\r.dropWhile (λm=>decide (m=1))=0::t
 |[],_=>⟨0,.inl ⟨rfl,rfl⟩⟩
 |x::r,h=>by
  rcases h x Aw with rfl|rfl
  .exact⟨0,.inr ⟨r,rfl,rfl⟩⟩
  .obtain⟨k,c⟩:=yW λm hm=>h m (Ay _ hm);rcases c with⟨e,d⟩|⟨t,e,d⟩
   .exact⟨k+1,.inl ⟨by rw[C8,<- e],by rw[PB];exact d⟩⟩
   .exact⟨k+1,.inr ⟨t,by rw[C8,EU,<- e],by rw[PB];exact d⟩⟩
def Μ {ms:List Int}(h:RY ms):∃a k,ms=a++Az k 1/\((a=[]/\dQ ms=none)\/∃b,a=b++[0]/\dQ ms=some (b++[1])):=by
 obtain⟨k,c⟩:=yW λm hm=>h m (R9.mp hm);unfold dQ;rcases c with⟨e,d⟩|⟨t,e,d⟩
 .exact⟨[],k,by rw[<- O2 ms,e,Ny];rfl,.inl ⟨rfl,by rw[d]⟩⟩
 .exact⟨t.reverse++[0],k,by rw[<- O2 ms,e,List.reverse_append,Ny,G4],.inr ⟨_,rfl,by rw[d]⟩⟩
def qh (cs:List (List Int×Int))(ks:List Int)(v:Int):Fm Sm cs++[D.tup [D.tup (Fm D.int ks),D.int v]]=Fm Sm (cs++[(ks,v)]):=by rw[AJ];rfl
def Zgg:Od T T.x62 24 ZfL:=by
 refine CB.p3 T.x62.d.F ["works", "one", "other", "guards", "known", "cubes", "held"] λx y z M Q hr nN h1=>?_;obtain⟨a,rfl,h2⟩:=Ea h1;obtain⟨b,e1',wk,r1,r2,e2',ok,e1,e2,q⟩:_:=Ea h2;have o1:=(gJ ok e1).2.g;have o2:=(gJ ok e2).2.g;have ea:=xh (Fs.of ok o1) (Fs.of ok o2);have pc:=yE ok (Fs.of ok o1) (Fs.of ok o2);have gd:=vo ok o1 o2;have kr:=pc.kr;have hL:∀ms,RY ms->ms.length<=(FT (DD wk.ws wk.ds r1.2.1 r2.2.1)).length->Sd (FT (DD wk.ws wk.ds r1.2.1 r2.2.1)) (IH (FT (DD wk.ws wk.ds r1.2.1 r2.2.1))) r1.2.1 r2.2.1 (Ie (FT (DD wk.ws wk.ds r1.2.1 r2.2.1)).length ms)=true:=λms hb hl=>θ pc (xX hb hl) (aQ ..) gd;clear pc;generalize hrow:FT (DD wk.ws wk.ds r1.2.1 r2.2.1)=row at q ea gd kr hL;unfold ZE at q;have en:∀s,Lk s->IH row s=IH row s:=λ_ _=>rfl;obtain⟨E,hE⟩:∃E,IH row=E:=⟨_,rfl⟩;have hN:∀ms,dX row r1.2.1 r2.2.1 ms=eE (λk=>Sd row E r1.2.1 r2.2.1 (Ie k ms)) ms.length row.length:=λms=>by rw[<- hE];rfl
 generalize dX row r1.2.1 r2.2.1=N at q hN;rw[hE]at gd kr hL q;have en:∀s,Lk s->E s=IH row s:=λ_ _=>by rw[hE]
 clear hE;refine⟨_,qC (Cv 3 nN (CJ (qA (Bf BE (BN (Wc T) (qA (qv 0) (qA (qv 1) qN))) Aj) (qA (Bf BE (BN (Wc T) (qA (qv 0) (qA (qv 2) qN))) Aj) qN)))) (qC (Cv 4 nN (Zr T.mk_Known T.x50.d (ZcV T) nofun T.mgc_Known (qA (BN (Zgl T) (qA (qv 0) (qA (qv 1) (qA (qv 2) qN)))) qN))) (qC (Cv 5 nN (Jg qN)) (qO (Tw AK (GF S6) (qC (Fh (Fz T.cl_Known T.x54.d (ZeX T) nofun (qv 4) (qA (qv 3) qN))) (qC (Cv 6 nN (Fz T.cl_Known T.x58.d (jd T) nofun (qv 4) (qA (qv 3) qN))) (qC (Ew (AV (eT (J0 hr)) (qv 6) (CJ (qA Aj (qA Aj qN)))) (qO (CA (KY T.cl_Known T.x60.d (Zcd T) nofun (qv 4)))) qE) (qC (Fh (Kn AN A8 A7 QF (qv 5) (qA (CJ (qA (Ee aM T.B.tuple I8 (qA (Hs T.cl_Known T.na_Known_marks (qv 4)) qN)) (qA (lP (qv 6) (qA Aj qN)) qN))) qN))) (qC (Ew (AV LJ (B6 K6 T.B.len B8 (qA (qv 5) qN)) (IP T.m_MOST_CUBES)) (qO (CA (CJ (qA BZ qN)))) qE) (qO (Ew (Ni (GF (KY T.cl_Known T.x57.d (Zgp T) nofun (qv 4)))) (qO (CA (CJ (qA BZ (qA (KZ (qv 5)) qN))))) qE))))))))))),?_⟩;clear h1 h2
 dsimp![↓r6]
 refine⟨wk,r1,rfl,e1,?_⟩;unfold Mr;grind;refine⟨wk,r2,rfl,e2,?_⟩;grind;refine⟨wk,r1,r2,rfl,ok,e1,e2,λp hp o ho=>?_⟩;rw[ea]at ho ⊢;refine⟨put M p (.lst (row.map bD)),o,p,E,row,rfl,rfl,rfl,ho,Di,kr,en,λM1 A ao aq kn fz fr=>?_⟩;subst ao;generalize r1.2.1=t at gd hL q hN ⊢;generalize r2.2.1=u at gd hL q hN ⊢;grind;intro c hc;have off:=kn.off hc
 have kp:∀x u,M x=some u->x≠c/\x∉[A.m,A.b,A.e,A.f,A.g]/\M1 x=some u:=λx v h=>by
  have h0:put M p (.lst (row.map bD)) x=some v:=by rw[DJ (JP hp h)];exact h
  have h1:=fr x v h0;exact⟨JP hc h1,λhx=>(nomatch (fz x hx).symm.trans h0),h1⟩
 have kc:c∉[A.m,A.b,A.e,A.f,A.g]:=λhx=>off c (by simp only[BD,AT,or_false]at hx ⊢;rcases hx with e | e | e | e | e<;>simp[e]) rfl;generalize hG:D.tup [t.D,u.D]=G;refine⟨λk τ M'=>∃ms cs x,((k+cs.length=64)/\RY ms/\ms.length<=row.length/\Gg T.C_Known M' A E row ms ms/\M' c=some (.lst (cs.map Sm))/\(∀x u,M x=some u->M' x=some u)/\∀M',(∀p o,M p=some o->M' p=some o)->Q (WX N (λms=>gM row ms E "one" t) (λms=>gM row ms E "other" u) (λms=>Pj row ms E) (k+1) ms cs) M')/\τ=[some wk.D,some (.str a),some (.str b),some G,some (.ref A.o),some (.ref c),x],⟨64,[],[],_,⟨rfl,λm hm=>(nomatch hm),Ej _,wN kn off,Di,λx v h=>by rw[DJ (kp x v h).1];exact(kp x v h).2.2,q⟩,rfl⟩,?_⟩;intro k τ M' hI';refine Am λkk'=>?_;obtain⟨ms,cs,x,⟨hk,hb,hl,kn',hcs,hs,hq⟩,e1'⟩:=hI';refine kk' ?_;clear kk';subst e1';simp![↓om,↓Z0,↓So,↓vL,T2,Aq,JB,Br,xV,xW,FH]
 rw[kn'.o,G1];subst hG;refine⟨MD 'k' 'k' 'k',A,E,row,ms,t,u,wk.ws,wk.ds,λk=>Sd row E t u (Ie k ms),rfl,rfl,kr,kn',oY hb,gd,hl,λ_=>rfl,hL ms hb hl,λM2 N0 eN n1 n2 n3 k2 o2=>?_⟩;rw[<- hN]at eN;subst eN;have b2:=xX (n:=N ms) hb n1;grind;rw[k2.o,G1];refine⟨MD 'k' 'k' 'k',A,E,row,_,t,u,wk.ws,wk.ds,rfl,rfl,kr,k2,oY b2,gd,?_⟩;simp![G1]
 have hc2:M2 c=some (.lst (cs.map Sm)):=by rw[o2 c kc];exact hcs
 have hs2:∀x u,M x=some u->M2 x=some u:=λx v h=>by rw[o2 x (kp x v h).2.1];exact hs x v h
 rw[WX]at hq;generalize hks:Ie (N ms) ms=ks at k2 b2 hq ⊢;have lk:ks.length<=row.length:=by rw[<- hks,aQ];exact n2
 have j0:¬(gM row ks E "one" t=1/\gM row ks E "other" u=1)->¬gM row ks E "one" t=0->gM row ks E "other" u=0:=λc1 c2=>by
  have z:Sd row E t u (Ie (N ms) ms)=true:=n3;rw[hks]at z;rcases of_decide_eq_true z with z|z|z
  .exact absurd z c2
  .exact z
  .exact absurd z c1
 refine Cj (λc1=>?_) λc1=>?_
 .rw[if_pos c1]at hq;refine⟨MD 'k' 'k' 'k',A,E,row,ks,rfl,kr,k2,Dn.of (hq _ λx v h=>?_)⟩;have nx:=(kp x v h).2.1;simp only[BD,AT,or_false,not_or]at nx;rw[Jl nx.2.2.2.2,Jl nx.2.2.2.1,Jl nx.2.2.1,Jl nx.2.1];exact hs2 x v h
 .rw[if_neg c1]at hq;refine⟨Jb hc2,?_⟩;rw[RO,BS,Se k2.m,BS];obtain⟨a2,kk,ek,tr⟩:=Μ b2;have lc:(cs.map Sm).length<An:=BU (by rw[Ab];ext)
  obtain⟨v0,hv,ev⟩:∃v:Int,(v=0/\gM row ks E "one" t=0\/v=1/\gM row ks E "one" t≠0/\gM row ks E "other" u=0)/\(if gM row ks E "one" t=0 then(0:Int)else 1)=v:=by
   by_cases z:gM row ks E "one" t=0
   .exact⟨0,.inl ⟨rfl,z⟩,if_pos z⟩
   .exact⟨1,.inr ⟨rfl,z,j0 c1 z⟩,if_neg z⟩
  rw[ev]at hq;refine⟨_,_,rfl,v0,hv,?_⟩;rw[Xh hc2,qh];refine⟨lc,?_⟩;have k3:=wN (v:=.lst (Fm Sm (cs++[(ks,v0)]))) k2 off;have c3:put M2 c (.lst (Fm Sm (cs++[(ks,v0)]))) c=_:=Di;have s3:∀x u,M x=some u->put M2 c (.lst (Fm Sm (cs++[(ks,v0)]))) x=some u:=λx v h=>by rw[DJ (kp x v h).1];exact hs2 x v h
  generalize put M2 c (.lst (Fm Sm (cs++[(ks,v0)])))=M3 at k3 c3 s3 ⊢;rw[Se c3,BS,Ab,Aq];refine Cj (λd=>?_) λd=>?_
  .rw[if_pos (by change(64:Int)<((cs.length+1:Nat):Int)at d;ext)]at hq;exact Dn.of (hq M3 s3)
  .have k0:¬k=0:=by change¬(64:Int)<((cs.length+1:Nat):Int)at d;ext
   rw[if_neg k0]at hq;rw[k3.o,G1];rw[ek]at k3;have lk2:=lk;have mk2:=b2;rw[ek]at lk2 mk2;rw[Aq]at lk2;refine⟨MD 'k' 'k' 'k',A,E,row,a2,kk,rfl,kr,k3,oY λm hm=>mk2 m (CQ _ hm),lk2,?_⟩;rcases tr with⟨ta,tt⟩|⟨b1,ta,tt⟩
   .rw[tt]at hq;refine .inl ⟨ta,λM4 k4 o4=>?_⟩;rw[o4 c kc,c3];refine Dn.of (hq _ λx v h=>?_);rw[Jl (kp x v h).1,o4 x (kp x v h).2.1];exact s3 x v h
   .rw[tt]at hq;refine .inr ⟨b1,ta,λM4 k4 o4=>⟨k-1,by ext,b1++[1],cs++[(ks,v0)],_,⟨by rw[Aq];change k-1+(cs.length+1)=64;ext,λm hm=>?_,?_,k4,by rw[o4 c kc];exact c3,λx v h=>by rw[o4 x (kp x v h).2.1];exact s3 x v h,?_⟩,rfl⟩⟩
    .rcases AQ.mp hm with hm|hm
     .exact mk2 m (CQ _ (by rw[ta];exact CQ _ hm))
     .exact .inr (AD.mp hm)
    .rw[ta,Aq]at lk2;rw[Aq];change b1.length+1+_<=_ at lk2;change b1.length+1<=_;ext
    .rw[show k-1+1=k by ext];exact hq
abbrev Zk3:DL:=λds M Q=>FW ds λx y=>GG y λz=>∃(wk:Wk) (r:Str×Tm×List (Str×Tm)),x=wk.D/\wk.rs.find? (DW z)=some r/\r.2.2.length<=6/\∀p,M p=none->Q (.ref p) (put M p (.lst ((Ri (r.2.2.map (·.1))).map D.str)))
def dr:Od T T.x63 2 Zk3:=by
 refine CB.p2 T.x63.d.F ["works", "name"] λx y M Q hr nN h1=>?_;obtain⟨z,e1',wk,r,e2',hf,hl,q⟩:_:=Ea h1;refine⟨_,qO (CA (B6 ZmL T.B.sorted SD (qA (F9 (caps:=[]) ⟨rfl,by rfl,by rfl,by rfl,rfl,by rfl,by nofun⟩ rfl (RN (Bf BE (BN (Wc T) (qA (qv 0) (qA (qv 1) qN))) Aj)) (λ_ _ _ _ _ _=>'b')) qN))),?_⟩;right;refine⟨wk,r,rfl,hf,?_⟩;simp only[Mr];grind;refine Ev.of (g:=KU) (f:=λw=>.str w.1) (GS (by ext)) trivial (λw hw R q=>?_) ?_
 .simp only[KU];walk_at "cap";exact q
 rw[show r.2.2.map (λw=>D.str w.1)=(r.2.2.map (·.1)).map D.str by rw[BB];rfl,P6,BS];exact⟨by rw[Ab];ext,λp hp=>Dn.of (q p hp)⟩
def Zl7 {xs ys:List Str}(h:∀x,x∈xs↔x∈ys):Je xs=Je ys:=
 Hq (λa b _ _ p q=>gO p q) (Du V8 XB _) (Du V8 XB _) ((LP (TB xs) (TB ys)).mpr λa=>by rw[G3,G3];exact h a)
def oA {xs zs:List Str}(h:∀x∈xs,x∈zs):(fm xs).length<=zs.length:=by
 rw[<- pI];exact Tr _ _ (TB xs) λx hx=>h x (G3.mp hx)
noncomputable def De (f:Str)(g:Tm)(ts:List Tm):List Str:=g.names f++(ts.map (Tm.names f)).flatten
structure OS (zs:List Str)(g:Tm)(ts:List Tm):Prop where
 z:zs.length<=20
 l:ts.length<=6
 t:∀t∈g::ts,(t.deep<=12/\t.parts<=100)/\∀f,∀n∈t.names f,n∈zs
def OS.few {zs:List Str}{g t:Tm}{ts:List Tm}(h:OS zs g ts)(ht:t∈g::ts):∀f,Ik f->(fm (t.names f)).length<64:=λf _=>by
 have:=oA ((h.t t ht).2 f);have:=h.z;ext
def Κ {M M':Mp}{p:Av}{o:MO}(s:Sub M M'):Sub (put M p o) (put M' p o):=λb u e=>by
 by_cases h:b=p
 .subst h;rw[Di]at e ⊢;exact e
 .rw[DJ h]at e ⊢;exact s b u e
abbrev ZfW:DL:=λds M Q=>FW ds λx y=>∃(r:Str×Tm×List (Str×Tm)) (k:Int) (f:Str) (zs:List Str),x=Mr r/\y=.int k/\((k=0/\f = "box")\/(k=1/\f = "late"))/\OS zs r.2.1 (r.2.2.map (·.2))/\∀p,M p=none->Q (.ref p) (put M p (.lst ((Je (De f r.2.1 (r.2.2.map (·.2)))).map D.str)))
def ip:Od T T.x66 17 ZfW:=by
 refine CB.p2 T.x66.d.F ["rule", "number", "names", "write"] λx y M Q hr nN h=>?_;obtain⟨r,k,f,zs,e1',e2',hk,ok,q⟩:_:=h;refine⟨_,EW (Cv 2 nN (Bf BE (BN (gQ T) (qA 'b' qN)) (qv 1))) (EW (LL AK rfl (RN 'b') (NO (i:=3) nN rfl (Cd rfl)) (qO (Fh (Kn AN CD CC Tu (qv 2) (qA (Bf BE (BN (gQ T) (qA (Bf BE (qv 3) Aj) qN)) (qv 1)) qN))))) (qO (CA (sR rfl T.B.sorted T.B.set (qv 2))))),?_⟩
 (try simp only[Mn,Ml,Mm])
 have two:∀t,t∈r.2.1::r.2.2.map (·.2)->∀(M0:Mp) (R:D->Mp->Prop),(∀M1 p,Sub M0 M1->M0 p=none->M1 p=some (.lst ((Je (t.names f)).map D.str))->R (.ref p) M1)->(t.deep<=12/\t.parts<=1000/\(∀f,Ik f->(fm (t.names f)).length<64)/\∀p0 p1 p2,M0 p0=none->M0 p1=none->M0 p2=none->¬p1=p0->¬p2=p0->¬p2=p1->Cw (F3 [D.ref p0,.ref p1,.ref p2] k) λv=>R v (put (put (put M0 p0 (MW "box" t)) p1 (MW "late" t)) p2 (MW "door" t))):=λt ht M0 R hR=>by
  refine⟨(ok.t t ht).1.1,A4 (ok.t t ht).1.2 'g',ok.few ht,λp0 p1 p2 m0 m1 m2 n1 n2 n3=>?_⟩;have sb:Sub M0 (put (put (put M0 p0 (MW "box" t)) p1 (MW "late" t)) p2 (MW "door" t)):=Sub.puts (Sub.puts (Sub.put m0) m1) m2;rcases hk with⟨rfl,rfl⟩|⟨rfl,rfl⟩
  .exact hR _ p0 sb m0 (by rw[DJ (Bk n2),DJ (Bk n1),Di];rfl)
  .exact hR _ p1 sb m1 (by rw[DJ (Bk n3),Di];rfl)
 refine⟨λτ M2=>∃p,(Sub M M2/\M p=none/\M2 p=some (.lst ((Je (r.2.1.names f)).map D.str)))/\τ=[some (Mr r),some (.int k),some (.ref p),none],?_,?_⟩
 .simp only[Mr];simp![LX]
  exact two r.2.1 Aw M (λv M1=>∃p,(Sub M M1/\M p=none/\M1 p=some (.lst ((Je (r.2.1.names f)).map D.str)))/\[some (D.tup [.str r.1,r.2.1.D,.tup (r.2.2.map KU)]),some (.int k),some v,none]=[some (D.tup [.str r.1,r.2.1.D,.tup (r.2.2.map KU)]),some (.int k),some (.ref p),none]) λM1 p h1 h2 h3=>⟨p,⟨h1,h2,h3⟩,rfl⟩
 intro τ M2;ext1⟨p,⟨sb,hp,hM⟩,e1'⟩;have hz:=ok.z;have hl:=ok.l;rw[Ab]at hl
 have srl:∀t∈r.2.1::r.2.2.map (·.2),(Je (t.names f)).length<=20:=λt ht=>by
  rw[pI];exact A4 (oA ((ok.t t ht).2 f)) hz
 refine⟨λτ M3=>∃(l:List Str) (v:Option D),(Sub M M3/\M3 p=some (.lst (l.map D.str))/\l.length<=140/\∀n,n∈l↔n∈De f r.2.1 (r.2.2.map (·.2)))/\τ=[some (Mr r),some (.int k),some (.ref p),v],?_,?_⟩
 .simp only[Mr];grind;refine⟨λi τ M3=>∃(l:List Str) (v:Option D),(Sub M M3/\M3 p=some (.lst (l.map D.str))/\l.length<=20+20*i/\∀n,n∈l↔n∈De f r.2.1 ((r.2.2.take i).map (·.2)))/\τ=[some (Mr r),some (.int k),some (.ref p),v],⟨Je (r.2.1.names f),none,⟨sb,hM,srl _ Aw,λn=>by rw[G3];simp[De]⟩,rfl⟩,λ_ _ _ _=>trivial,?_,?_⟩
  .intro i d τ M3 hd;ext1⟨l,v,⟨sb,hM,hll,hmem⟩,e1'⟩;obtain⟨w0,hw0,rfl⟩:=Nt hd;obtain⟨hi,_⟩:=Ah.mp hw0;have hin:w0.2∈r.2.1::r.2.2.map (·.2):=Ay _ (FG (AB hw0));have et:r.2.2.take (i+1)=r.2.2.take i++[w0]:=by rw[Bb,hw0];rfl
   simp only[KU];simp![↓Oz,LX]
   refine⟨Jb hM,two w0.2 hin M3 (λv M1=>GD (.ref p) [v] M1 λ_ M1=>∃(l:List Str) (v:Option D),(Sub M M1/\M1 p=some (.lst (l.map D.str))/\l.length<=20+20*(i+1)/\∀n,n∈l↔n∈De f r.2.1 ((r.2.2.take (i+1)).map (·.2)))/\[some (Mr r),some (.int k),some (.ref p),some (D.tup [.str w0.1,w0.2.D])]=[some (Mr r),some (.int k),some (.ref p),v]) λM1 p1 h1 h2 h3=>?_⟩;have h4:=srl _ hin;rw[wH (h1 p _ hM) (Pg h3)];refine⟨GS (by rw[Ab,Ab];ext),l++Je (w0.2.names f),_,⟨Sub.puts (sb.trans h1) hp,by rw[Di,AJ],by rw[Aq];ext,λn=>?_⟩,rfl⟩;rw[Dv,hmem,G3,et];simp[De,or_assoc]
  .intro τ M3;ext1⟨l,v,⟨h1,h2,h3,h4⟩,e1'⟩;rw[Ab]at h3 h4;rw[Bm]at h4;exact⟨l,v,⟨h1,h2,by ext,h4⟩,rfl⟩
 intro τ M3;ext1⟨l,v,⟨sb,hM,hll,hmem⟩,e1'⟩;simp![↓Zl]
 rw[Pg hM,BS,P6,BS]
 have few:(fm l).length<=20:=A4 (oA (zs:=zs) λx hx=>by
  have:=(hmem x).mp hx;unfold De at this;rcases AQ.mp this with h|h
  .exact(ok.t _ Aw).2 f x h
  .obtain ⟨ns,hns,hx⟩:=Sa.mp h;obtain ⟨t,ht,rfl⟩:=Ao.mp hns;exact (ok.t t (Ay _ ht)).2 f x hx) hz
 refine⟨by have:1000<Bh:='g';ext,by ext,λa ha=>?_⟩
 have haM:M a=none:=by
  cases e:M a with
  |none=>rfl
  |some o=>rw[sb a o e]at ha;cases ha
 rw[Zl7 hmem];exact RJ (Κ sb) (q a haM)
abbrev ZfK:DL:=λds M Q=>FW ds λx y=>GG y λz=>∃(wk:Wk) (r:Str×Tm×List (Str×Tm)) (zs:List Str),x=wk.D/\wk.rs.find? (DW z)=some r/\OS zs r.2.1 (r.2.2.map (·.2))/\∀p,M p=none->Q (.ref p) (put M p (.lst ((Je (De "box" r.2.1 (r.2.2.map (·.2)))).map D.str)))
def Zgf:Od T T.x64 18 ZfK:=by
 refine CB.p2 T.x64.d.F ["works", "name"] λx y M Q hr nN h1=>?_;obtain⟨z,e1',wk,r,zs,e2',hf,ok,q⟩:_:=Ea h1;refine⟨_,qO (CA (BN (ip T) (qA (BN (Wc T) (qA (qv 0) (qA (qv 1) qN))) (qA Aj qN)))),?_⟩;right;exact⟨wk,r,rfl,hf,r,0, "box",zs,rfl,rfl,.inl ⟨rfl,rfl⟩,ok,λp hp=>Dn.of (q p hp)⟩
abbrev ZgY:DL:=λds M Q=>FW ds λx y=>GG y λz=>∃(wk:Wk) (r:Str×Tm×List (Str×Tm)) (zs:List Str),x=wk.D/\wk.rs.find? (DW z)=some r/\OS zs r.2.1 (r.2.2.map (·.2))/\∀p,M p=none->Q (.ref p) (put M p (.lst ((Je (De "late" r.2.1 (r.2.2.map (·.2)))).map D.str)))
def Zhw:Od T T.x65 18 ZgY:=by
 refine CB.p2 T.x65.d.F ["works", "name"] λx y M Q hr nN h1=>?_;obtain⟨z,e1',wk,r,zs,e2',hf,ok,q⟩:_:=Ea h1;refine⟨_,qO (CA (BN (ip T) (qA (BN (Wc T) (qA (qv 0) (qA (qv 1) qN))) (qA Aj qN)))),?_⟩;right;exact⟨wk,r,rfl,hf,r,1, "late",zs,rfl,rfl,.inr ⟨rfl,rfl⟩,ok,λp hp=>Dn.of (q p hp)⟩
def yJ (xs:List Str):(Ri xs).length=xs.length:=(D5 _ _).length_eq
def mC (h:M p=some (.lst xs)):Bg M (.ref p)=some xs:=by simp[Bg,h]
noncomputable def Tj:D->Str
 |.tup (.str s::_)=>s
 |_=>""
theorem aa (N:List Int->Nat)(g g':List Int->Int)(row:List 'l')(E:Str->List (Str×Nat)):∀(f:Nat) (ms:List Int) (cs:List (List Int×Int)),∃s l,WX N g g' (λms=>Pj row ms E) f ms cs=.tup (.str s::l)
 |0,_,_=>⟨_,_,rfl⟩
 |f+1,ms,cs=>by
  rw[WX];split
  .exact⟨_,_,rfl⟩
  .split
   .exact⟨_,_,rfl⟩
   .split
    .exact⟨_,_,rfl⟩
    .exact aa N g g' row E f _ _
noncomputable def K2 (f:Str)(r1 r2:Str×Tm×List (Str×Tm)):List Str:=Ld (Ri (r1.2.2.map (·.1))) (Je (De f r2.2.1 (r2.2.2.map (·.2))))
noncomputable def ZR (wk:Wk)(r1 r2:Str×Tm×List (Str×Tm)):Bool:=!(K2 "box" r1 r2).isEmpty && !decide (Tj (ZE (FT (DD wk.ws wk.ds r1.2.1 r2.2.1)) r1.2.1 r2.2.1) = "never")
def Wk.Ok.rd {wk:Wk}(ok:wk.Ok){r:Str×Tm×List (Str×Tm)}(h:r∈wk.rs):OS (wk.ws.map (·.1)++wk.ds.map (·.1)) r.2.1 (r.2.2.map (·.2)):=by
 have rk:=(ok.r.2 r h).2
 have go:∀{t:Tm} {n:Int},OR wk.ws wk.ds t n->(t.deep<=12/\t.parts<=100)/\∀f,∀n∈t.names f,n∈wk.ws.map (·.1)++wk.ds.map (·.1):=λ{t n} h=>by
  refine⟨⟨h.1.2,h.1.1⟩,λf x hx=>?_⟩;obtain⟨l,hl,e⟩:=CT.mp hx;obtain⟨a,ha⟩:=h.2.leaf l hl;cases l with
  |box y=>
   have e:(if f = "box" then some y else none)=some x:=e;split at e
   .cases e;cases ha with
    |box c=>exact CQ _ (XD c)
    |over _ ho=>exact absurd rfl (Tm.over_len ho).2
   .cases e
  |late y=>
   have e:(if f = "late" then some y else none)=some x:=e;split at e
   .cases e;cases ha with
    |late c=>exact CQ _ (XD c)
    |over _ ho=>exact absurd rfl (Tm.over_len ho).2
   .cases e
  |door y=>
   have e:(if f = "door" then some y else none)=some x:=e;split at e
   .cases e;cases ha with
    |door c=>exact AS _ (XD c)
    |over _ ho=>exact absurd rfl (Tm.over_len ho).2
   .cases e
  |_=>cases e
 refine⟨?_,by rw[Ab];exact rk.l,λt ht=>?_⟩
 .unfold Wk.ws;have:=ok.b.1;have:=ok.d.1;rw[Aq,Ab,Ab,Ab];ext
 .rcases AR.mp ht with rfl|ht
  .exact go rk.g
  .obtain⟨w,hw,rfl⟩:=Ao.mp ht;obtain⟨n,-,tk⟩:=rk.w w hw;exact go tk
def yL {wk:Wk}(ok:wk.Ok)(h:r∈wk.rs)(f:Str)(hf:f = "box"\/f = "late"):(Je (De f r.2.1 (r.2.2.map (·.2)))).length<=12:=by
 have lw:(wk.ws.map (·.1)).length<=12:=by unfold Wk.ws;rw[Ab,Ab];exact ok.b.1
 refine A4 (Tr _ (wk.ws.map (·.1)) (TB _) λx hx=>?_) lw;have rk:=(ok.r.2 r h).2
 have go:∀{t:Tm} {n:Int},OR wk.ws wk.ds t n->x∈t.names f->x∈wk.ws.map (·.1):=λ{t n} h hx=>by
  obtain⟨m,e⟩:=b6 h.2 (x:=x) (by rcases hf with rfl|rfl<;>simp[hx]);exact XD e
 have hx:=G3.mp hx;unfold De at hx;rcases AQ.mp hx with hx|hx
 .exact go rk.g hx
 .obtain⟨ns,hns,hx⟩:=Sa.mp hx;obtain⟨t,ht,rfl⟩:=Ao.mp hns;obtain⟨w,hw,rfl⟩:=Ao.mp ht;obtain⟨n,-,tk⟩:=rk.w w hw;exact go tk hx
abbrev δ:DL:=λds M Q=>Js ds λx y z=>GG y λa=>GG z λb=>∃(wk:Wk) (r1 r2:Str×Tm×List (Str×Tm)),x=wk.D/\wk.Ok/\wk.rs.find? (DW a)=some r1/\wk.rs.find? (DW b)=some r2/\∀v,(ZR wk r1 r2=false/\v=.non\/ZR wk r1 r2=true/\∃l,v=.tup l)->Q v M
theorem ω:Od T T.x67 26 δ:=by
 refine CB.p3 T.x67.d.F ["works", "ahead", "behind", "boxes", "answer"] λx y z M Q hr nN h1=>?_;obtain⟨a,rfl,h2⟩:=Ea h1;obtain⟨b,e1',wk,r1,r2,e2',ok,e1,e2,q⟩:_:=Ea h2;clear h1 h2;have m1:=DP e1;have m2:=DP e2;have w6:=(ok.r.2 r1 m1).2.l;refine⟨_,qC (Cv 3 nN (BN (gT T) (qA (BN (dr T) (qA (qv 0) (qA (qv 1) qN))) (qA (BN (Zgf T) (qA (qv 0) (qA (qv 2) qN))) qN)))) (qC (Ew (AV CP (B6 K6 T.B.len B8 (qA (qv 3) qN)) Aj) (qO (CA PQ)) qE) (qC (Cv 4 nN (BN (Zgg T) (qA (qv 0) (qA (qv 1) (qA (qv 2) qN))))) (qC (Ew (AV CP (Bf BE (qv 4) Aj) BZ) (qO (CA PQ)) qE) (qO (CA (CJ (qA (Bf Ii (qv 3) Aj) (qA (qv 4) qN)))))))),?_⟩
 dsimp![↓UB]
 refine⟨wk,r1,rfl,e1,w6,λp hp=>?_⟩;refine⟨wk,r2,_,rfl,e2,ok.rd m2,λp' hp'=>?_⟩;have hne:p≠p':=λe=>by rw[e,Di]at hp';cases hp'
 have hM:M p'=none:=by rw[DJ (Bk hne)]at hp';exact hp'
 have sb:=(Sub.put (o:=.lst ((Ri (r1.2.2.map (·.1))).map D.str)) hp).puts (o:=.lst ((Je (De "box" r2.2.1 (r2.2.2.map (·.2)))).map D.str)) hM;refine⟨_,_,mC (by rw[DJ hne,Di]),rfl,by rw[yJ,Ab];ext,yL ok m2 "box" (.inl rfl),?_⟩;have cl:ZR wk r1 r2=(!(K2 "box" r1 r2).isEmpty && !decide (Tj (ZE (FT (DD wk.ws wk.ds r1.2.1 r2.2.1)) r1.2.1 r2.2.1) = "never")):=rfl;change if ((K2 "box" r1 r2).length:Int)=0 then _ else _
 refine Cj (λc=>?_) λc=>?_
 .have:K2 "box" r1 r2=[]:=AH (by ext);rw[this]at cl;exact RJ sb (q .non (.inl ⟨cl,rfl⟩))
 refine⟨wk,r1,r2,rfl,ok,e1,e2,λM' hM'=>?_⟩;have sb2:Sub M M':=sb.trans hM';obtain⟨w0,l0,e0⟩:=aa (dX (FT (DD wk.ws wk.ds r1.2.1 r2.2.1)) r1.2.1 r2.2.1) (λms=>gM (FT (DD wk.ws wk.ds r1.2.1 r2.2.1)) ms (IH (FT (DD wk.ws wk.ds r1.2.1 r2.2.1))) "one" r1.2.1) (λms=>gM (FT (DD wk.ws wk.ds r1.2.1 r2.2.1)) ms (IH (FT (DD wk.ws wk.ds r1.2.1 r2.2.1))) "other" r2.2.1) (FT (DD wk.ws wk.ds r1.2.1 r2.2.1)) (IH (FT (DD wk.ws wk.ds r1.2.1 r2.2.1))) 65 [] [];have e0:ZE (FT (DD wk.ws wk.ds r1.2.1 r2.2.1)) r1.2.1 r2.2.1=.tup (.str w0::l0):=e0;rw[e0]at cl ⊢;grind;change if w0=Al "never" then _ else Cw (F3 ((K2 "box" r1 r2).map D.str) 0) _
 generalize K2 "box" r1 r2=ml at cl c ⊢;cases ml with
 |nil=>exact absurd rfl c
 |cons z ml=>
  refine Cj (λd=>?_) λd=>?_
  .rw[show Tj (.tup (.str w0::l0))=w0 from rfl,decide_eq_true d]at cl;exact RJ sb2 (q .non (.inl ⟨cl,rfl⟩))
  .rw[show Tj (.tup (.str w0::l0))=w0 from rfl,decide_eq_false d]at cl;rw[show F3 ((z::ml).map D.str) 0=some (.str z)from Pk (j:=0) rfl,BS];exact RJ sb2 (q _ (.inr ⟨cl,_,rfl⟩))
inductive Pl:Nat->D->Prop
 |flat {n:Nat} {d:D}:EF d=true->Pl n d
 |tup {n:Nat} {xs:List D}:(∀d∈xs,Pl n d)->Pl (n+1) (.tup xs)
def zk (h:EF d=true):Lh d d=true:=by
 cases d<;>first | exact absurd h Ak | simp[Lh]
theorem qI :∀{xs:List D},(∀d∈xs,f d d=some true)->Gx f xs xs=some true
 |[],_=>rfl
 |x::r,h=>by
  unfold Gx;rw[h x Aw,qI λd hd=>h d (Ay _ hd)];rfl
def Pl.cmp (h:Pl n d):E7 M n d d=some true:=by
 induction h with
 | @flat n d h=>cases n<;>(unfold E7;rw[h,JC,if_pos rfl,zk h])
 |tup _ ih=>unfold E7;show(if false=true then _ else _)=_;rw[if_neg Ak];exact qI ih
noncomputable def VI (wk:Wk)(a b:Str):Bool:=(wk.rs.find? (DW a)).any λr1=>(wk.rs.find? (DW b)).any λr2=>ZR wk r1 r2
noncomputable abbrev Wk.nms (wk:Wk):List Str:=wk.rs.map (·.1)
def gP {wk:Wk}{z:Str}(h:z∈wk.nms):∃r,wk.rs.find? (DW z)=some r:=by
 obtain⟨r,hr,rfl⟩:=Ao.mp h;cases e:wk.rs.find? (DW r.1)with
 |some u=>exact⟨u,rfl⟩
 |none=>exact absurd (Fa.mp e r hr) (by simp[DW])
def z9 (h:xs.Perm ys):Ri xs=Ri ys:=Hq (λa b _ _ p q=>gO p q) (Du V8 XB _) (Du V8 XB _) (((D5 _ _).trans h).trans (D5 _ _).symm)
def gI (zs:List Str):Gx (E7 M 40) (zs.map D.str) (zs.map D.str)=some true:=qI λd hd=>by
 obtain⟨z,-,rfl⟩:=Ao.mp hd;exact Pl.cmp (.flat rfl)
noncomputable def NI (p:Str×Str):L3.D:=.tup [.str p.1,.str p.2]
def oG (xs:List α)(k:Nat):L3.cutD (xs.map f) none (some (k:Int))=(xs.take k).map f:=by
 unfold L3.cutD;rw[HT.sIx_nat,HT.sIx_none,Mb,NW,Ab,<- Lu,List.take_eq_take_min];by_cases h:k<=xs.length
 .rw[Ft h,Ft h]
 .rw[FF (show xs.length<=k by ext),Ls,Bm,BR (by ext)]
def zP (xs:List α)(k:Nat):L3.cutD (xs.map f) (some (k:Int)) none=(xs.drop k).map f:=by
 unfold L3.cutD;rw[HT.sIx_nat,HT.sIx_none,Ab,<- List.map_drop,<- Lu];congr 1
 by_cases h:k<=xs.length
 .rw[Ft h,BR (by rw[Gn];ext)]
 .rw[FF (by ext),KH,List.drop_of_length_le (by ext),Lo]
def oQ (h:τ[j]? = some (some (.ref p)))(hM:M p=some (.lst xs)):PJ j t E τ M=t E (τ.set j (some (.lst xs))) (J2 M p):=by
 unfold PJ;rw[h,Ma,BS,RK,hM]
def Nq (zs:List Str):(zs.map D.str).all EF=true:=by
 induction zs with
 |nil=>rfl
 |cons z r ih=>rw[AU,EV,ih];rfl
def Np (x)(zs:List Str):((zs.map D.str).any λz=>Lh z (.str x))=decide (x∈zs):=by
 induction zs with
 |nil=>rfl
 |cons z r ih=>
  rw[AU,Fk,ih,rm];by_cases h:z=x
  .simp[h]
  .have h':¬x=z:=λe=>h e.symm;simp[h,h']
abbrev ZeG:DL:=λds M Q=>FW ds λx y=>∃(wk:Wk) (zs:List Str),x=wk.D/\y=.lst (zs.map D.str)/\wk.Ok/\zs.Perm wk.nms/\Q .non M
def ZeU:Od T T.x69 2 ZeG:=by
 refine CB.p2 T.x69.d.F ["works", "order"] λx y M Q hr nN h=>?_;obtain⟨wk,zs,e1',e2',ok,pm,q⟩:_:=h;refine⟨_,qO (Ew (AV (aC (J0 hr)) (B6 az T.B.sorted SD (qA (qv 1) qN)) (B6 az T.B.sorted SD (qA (BN (iL T) (qA (qv 0) qN)) qN))) (qO P5) qE),?_⟩
 dsimp![↓Sq,↓Xm]
 have l8:=ok.r.1;have ll:zs.length<=8:=by rw[pm.length_eq,Ab];exact l8
 rw[P6,BS];refine⟨by ext,wk,rfl,ok,?_⟩;rw[show wk.rs.map (λr=>D.str r.1)=wk.nms.map D.str by rw[BB];rfl,P6,BS];refine⟨by rw[Ab];ext,?_⟩;rw[z9 pm,gI,BS,if_neg KI];exact Dn.of q
abbrev Zix:DL:=λds M Q=>Js ds λx y z=>GG y λa=>∃(wk:Wk) (zs:List Str),x=wk.D/\z=.lst (zs.map D.str)/\wk.Ok/\a∈wk.nms/\(∀b∈zs,b∈wk.nms)/\zs.length<=8/\Q (.lst ((zs.filter (VI wk a)).map D.str)) M
def ZiN:Od T T.x70 27 Zix:=by
 refine CB.p3 T.x70.d.F ["works", "ahead", "names"] λx y z M Q hr nN h1=>?_;obtain⟨a,e1',wk,zs,e2',e3',ok,ha,hz,hl,q⟩:_:=Ea h1;clear h1;refine⟨_,qO (CA (JH (caps:=[("works",0),("ahead",1)]) ⟨rfl,by rfl,by rfl,by rfl,rfl,by rfl,by nofun⟩ rfl (J3 (qv 2)) (λ_ _ _ _ _ _=>(qv 0)) (λ_ _ _ _ _ _=>(AV wV (BN (ω T) (qA (qv 1) (qA (qv 2) (qA (qv 0) qN)))) PQ)))),?_⟩;right;refine Ev.filt (GS (by ext)) trivial (λb hb R r=>?_) (λb hb R r=>?_) (Dn.of q)
 .obtain⟨r1,e1⟩:=gP ha;obtain⟨r2,e2⟩:=gP (hz b hb);walk_at "cap";refine⟨wk,r1,r2,rfl,ok,e1,e2,λv hv=>?_⟩;have ec:VI wk a b=ZR wk r1 r2:=by unfold VI;rw[e1,e2];rfl
  rw[ec]at r;rcases hv with⟨c,rfl⟩|⟨c,l,rfl⟩<;>rw[c]at r<;>exact r
 .walk_at "cap";exact r
noncomputable def Dl (wk:Wk):List Str->List (Str×Str)
 |[]=>[]
 |a::l=>(l.filter (VI wk a)).map (λb=>(a,b))++Dl wk l
theorem be (wk:Wk):∀zs,(Dl wk zs).length<=zs.length*zs.length
 |[]=>AL _
 |a::l=>by
  have:=be wk l;have h:=CF (VI wk a) l;show((l.filter (VI wk a)).map (λb=>(a,b))++Dl wk l).length<=(l.length+1)*(l.length+1);rw[Aq,Ab,Nat.add_mul,WE];ext
def qS (h:zs.length<=8):(Dl wk zs).length<=64:=A4 (be wk zs) (A4 (Nat.mul_le_mul h h) 'g')
abbrev ZfO:DL:=λds M Q=>FW ds λx y=>∃(wk:Wk) (zs:List Str),x=wk.D/\y=.lst (zs.map D.str)/\wk.Ok/\zs.Perm wk.nms/\Q (.lst ((Dl wk zs).map NI)) M
def ia:Od T T.x68 28 ZfO:=by
 refine CB.p2 T.x68.d.F ["works", "order", "pairs", "place", "ahead"] λx y M Q hr nN h=>?_;obtain⟨wk,zs,e1',e2',ok,pm,q⟩:_:=h;have l8:=ok.r.1;have ll:zs.length<=8:=by rw[pm.length_eq,Ab];exact l8
 have pf:=qS (wk:=wk) ll;refine⟨_,qC (Fh (BN (ZeU T) (qA (qv 0) (qA (qv 1) qN)))) (qC (Cv 2 nN (Jg qN)) (EW (LL AK rfl (lv T.B.enumerate (qA (qv 1) qN)) (Xj (is:=[3,4]) rfl (Nu (ME (i:=3) nN rfl (Cd rfl)) (Nu (ME (i:=4) nN rfl (Im rfl)) V4))) (qO (Fh (Kn AN CD CC Tu (qv 2) (qA (F9 (caps:=[("ahead",4)]) ⟨rfl,by rfl,by rfl,by rfl,rfl,by rfl,by nofun⟩ rfl (J3 (BN (ZiN T) (qA (qv 0) (qA (qv 4) (qA (Jf aX (qv 1) (UM (BJ HN (qv 3) Aj)) Xv) qN))))) (λ_ _ _ _ _ _=>(CJ (qA (qv 1) (qA (qv 0) qN))))) qN))))) (UG 2 (qO (CA (qv 2)))))),?_⟩;right;refine⟨wk,zs,rfl,rfl,ok,pm,?_⟩
 (try grind)
 intro p hp;refine⟨λτ M'=>M'=put M p (.lst ((Dl wk zs).map NI))/\∃a b,τ=[some wk.D,some (.lst (zs.map D.str)),some (.ref p),a,b],?_,?_⟩
 .simp![↓qa]
  refine⟨λk τ M'=>∃ps,(ps++Dl wk (zs.drop k)=Dl wk zs/\M'=put M p (.lst (ps.map NI)))/\∃a b,τ=[some wk.D,some (.lst (zs.map D.str)),some (.ref p),a,b],⟨[],⟨rfl,rfl⟩,none,none,rfl⟩,λ_ _ _ _=>trivial,?_,?_⟩
  .intro k y τ M' hy;ext1⟨ps,⟨hps,e1'⟩,a,b,e2'⟩;obtain⟨d,hd,rfl⟩:=pA hy;obtain⟨z,hz,rfl⟩:=Nt hd;have hk:=(Ah.mp hz).1;have e1:zs.drop k=z::zs.drop (k+1):=by rw[EN hk,(Ah.mp hz).2]
   have mz:=AB hz;simp![↓aZ,↓Xp,↓PM,↓eS,Xn,Xr,Xq,Bo,Ba]
   rw[show(k:Int)+1=((k+1:Nat):Int) by ext,zP];refine⟨wk,zs.drop (k+1),rfl,rfl,ok,pm.mem_iff.mp mz,λb hb=>pm.mem_iff.mp (List.mem_of_mem_drop hb),by rw[Gn];ext,?_⟩;rw[e1]at hps;have hps:ps++(((zs.drop (k+1)).filter (VI wk z)).map (λb=>(z,b))++Dl wk (zs.drop (k+1)))=Dl wk zs:=hps;rw[<- Bv]at hps;have fl:=congrArg DC hps;rw[Aq,Aq,Ab]at fl;refine Ev.of (f:=λb=>NI (z,b)) (GS (by ext)) trivial (λb hb R r=>?_) ?_
   .walk_at "cap";exact r
   .rw[nT];refine⟨GS (by rw[Ab,Ab];ext),_,⟨hps,?_⟩,_,_,rfl⟩;rw[AJ,BB];rfl
  .intro τ M';ext1⟨ps,⟨hps,e1'⟩,a,b,e2'⟩;rw[pB,Ab,KH,show Dl wk []=[]from rfl,Cc]at hps;rw[hps];exact⟨rfl,a,b,rfl⟩
 intro τ M';ext1⟨e1',a,b,e2'⟩;rw[oQ (p:=p) rfl Di,UL hp];simp only[Ba,Bo];grind;exact Dn.of q
noncomputable def Uo (ps:List (Str×Str))(a b:Str):Bool:=decide ((a,b)∈ps\/(b,a)∈ps)
noncomputable def lX (q:Str×Str):D->Bool
 |.tup [.str x,.str y]=>decide (x=q.1/\y=q.2)
 |_=>false
def t0 (p q:Str×Str):E7 M 40 (NI p) (NI q)=some (lX q (NI p)):=by
 show Gx (E7 M 39) [.str p.1,.str p.2] [.str q.1,.str q.2]=some (decide (p.1=q.1/\p.2=q.2));show some (decide (p.1=q.1) && (decide (p.2=q.2) && true))=_;rw[JB,SW]
def tz (ps:List (Str×Str))(q:Str×Str):(ps.map NI).any (lX q)=decide (q∈ps):=by
 induction ps with
 |nil=>rfl
 |cons p ps ih=>rw[AU,Fk,ih];show(decide (p.1=q.1/\p.2=q.2) || decide (q∈ps))=_;rw[<- Bool.decide_or];refine decide_eq_decide.mpr ?_;rw[BD,Prod.ext_iff];exact⟨λh=>h.imp (λc=>⟨c.1.symm,c.2.symm⟩) id,λh=>h.imp (λc=>⟨c.1.symm,c.2.symm⟩) id⟩
def gL {M:Mp}{ps:List (Str×Str)}{a b:Str}{Q:Ef}(q:Q (.bl (decide ((a,b)∈ps))) M):Zb (.tup [.str a,.str b]) (.lst (ps.map NI)) M Q:=by
 refine⟨lX (a,b),λz hz=>?_,?_⟩
 .obtain⟨p,-,rfl⟩:=Ao.mp hz;exact t0 p (a,b)
 .rw[tz];exact q
abbrev ZfZ:DL:=λds M Q=>Js ds λx y z=>GG y λa=>GG z λb=>∃ps:List (Str×Str),x=.lst (ps.map NI)/\ps.length<=100/\Q (.bl (Uo ps a b)) M
def Zgm:Od T T.x71 1 ZfZ:=by
 refine CB.p3 T.x71.d.F ["pairs", "one", "other"] λx y z M Q hr nN h1=>?_;obtain⟨a,rfl,h2⟩:=Ea h1;obtain⟨b,e1',ps,e2',hl,q⟩:_:=Ea h2;clear h1 h2;refine⟨_,qO (CA (lV (JY (eU (J0 hr)) (CJ (qA (qv 1) (qA (qv 2) qN))) (qv 0) (by with_unfolding_all rfl)) (OB (JY (eU (J0 hr)) (CJ (qA (qv 2) (qA (qv 1) qN))) (qv 0) (by with_unfolding_all rfl))))),?_⟩
 dsimp![↓nU]
 refine gL ?_;unfold Uo at q;by_cases c:(a,b)∈ps
 .rw[decide_eq_true (.inl c)]at q;rw[decide_eq_true c];exact Dn.of q
 .rw[decide_eq_false c];refine gL ?_;rw[decide_eq_decide.mpr (show((a,b)∈ps\/(b,a)∈ps)↔(b,a)∈ps from⟨λh=>h.resolve_left c,.inr⟩)]at q;exact Dn.of q
noncomputable def QD (zs:List Str)(z:Str):List Str:=zs.take (zs.idxOf z)
theorem aO :∀{zs:List Str},z∈zs->OK z zs=some (zs.idxOf z)
 |[],h=>nomatch h
 |a::l,h=>by
  unfold OK;by_cases e:a=z
  .rw[if_pos e,e,List.idxOf_cons_self]
  .rw[if_neg e,aO ((AR.mp h).resolve_left λc=>e c.symm),SN,show(a == z)=false by simpa using e];rfl
abbrev Ziy:DL:=λds M Q=>FW ds λx y=>GG y λz=>∃zs:List Str,x=.lst (zs.map D.str)/\z∈zs/\zs.length<=100/\Q (.lst ((QD zs z).map D.str)) M
def gg:Od T T.x73 1 Ziy:=by
 refine CB.p2 T.x73.d.F ["names", "name"] λx y M Q hr nN h1=>?_;obtain⟨z,e1',zs,e2',hz,hl,q⟩:_:=Ea h1;clear h1;refine⟨_,qO (CA (Jf aX (qv 0) Xv (UM (Kn AN GN GL (fS (Tf hr)) (qv 0) (qA (qv 1) qN))))),?_⟩
 dsimp![↓aZ,↓Xp,↓PM,↓eS,↓gS]
 rw[P6,BS,aO hz,BS,oG];exact Dn.of q
noncomputable def dU (wk:Wk)(ps:List (Str×Str))(z:Str):List Str:=(QD wk.nms z).filter λo=>Uo ps o z
abbrev ZgX:DL:=λds M Q=>Js ds λx y z=>GG z λn=>∃(wk:Wk) (ps:List (Str×Str)),x=wk.D/\y=.lst (ps.map NI)/\wk.Ok/\n∈wk.nms/\ps.length<=100/\Q (.lst ((dU wk ps n).map D.str)) M
def nK (wk:Wk):wk.rs.map (λr=>D.str r.1)=wk.nms.map D.str:=by rw[BB];rfl
def Zhv:Od T T.x72 3 ZgX:=by
 refine CB.p3 T.x72.d.F ["works", "clashes", "name"] λx y z M Q hr nN h1=>?_;obtain⟨n,e1',wk,ps,e2',e3',ok,hn,hl,q⟩:_:=Ea h1;clear h1;have l8:=ok.r.1;refine⟨_,qO (CA (JH (caps:=[("clashes",1),("name",2)]) ⟨rfl,by rfl,by rfl,by rfl,rfl,by rfl,by nofun⟩ rfl (J3 (BN (gg T) (qA (BN (iL T) (qA (qv 0) qN)) (qA (qv 2) qN)))) (λ_ _ _ _ _ _=>(qv 0)) (λ_ _ _ _ _ _=>(GF (BN (Zgm T) (qA (qv 1) (qA (qv 0) (qA (qv 2) qN)))))))),?_⟩;right;refine⟨wk,rfl,ok,wk.nms,by rw[nK],hn,by rw[Ab];ext,?_⟩
 (try grind)
 refine Ev.filt (GS (by unfold QD;rw[A3,Ab];ext)) trivial (λb hb R r=>?_) (λb hb R r=>?_) (Dn.of q)
 .walk_at "cap";exact⟨ps,rfl,hl,r⟩
 .walk_at "cap";exact r
noncomputable def Te (wk:Wk)(f:Str)(a b:Str):List Str:=((wk.rs.find? (DW a)).bind λr1=>(wk.rs.find? (DW b)).map λr2=>K2 f r1 r2).getD []
def yK (h1:wk.rs.find? (DW a)=some r1)(h2:wk.rs.find? (DW b)=some r2):Te wk f a b=K2 f r1 r2:=by unfold Te;rw[h1,h2];rfl
noncomputable def PU (wk:Wk)(zs:List Str)(ps:List (Str×Str))(n o:Str):Bool:=(decide (o∈QD zs n) && !(Te wk "late" o n).isEmpty) || decide (o∈dU wk ps n)
noncomputable def Uq (wk:Wk)(zs:List Str)(ps:List (Str×Str))(n:Str):List Str:=wk.nms.filter (PU wk zs ps n)
abbrev Zh1:DL:=λds M Q=>Vy ds λx y z u=>GG u λn=>∃(wk:Wk) (zs:List Str) (ps:List (Str×Str)),x=wk.D/\y=.lst (zs.map D.str)/\z=.lst (ps.map NI)/\wk.Ok/\zs.Perm wk.nms/\n∈wk.nms/\ps.length<=100/\Q (.lst ((Uq wk zs ps n).map D.str)) M
def Zhz:Od T T.x76 20 Zh1:=by
 refine CB.p4 T.x76.d.F ["works", "order", "clashes", "name", "ahead", "late", "rivals", "needed", "other", "feeds"] λx y z u M Q hr nN h1=>?_;obtain⟨n,e1',wk,zs,ps,e2',e3',e4',ok,pm,hn,hl,q⟩:_:=Ea h1;clear h1;have l8:=ok.r.1;have ll:zs.length<=8:=by rw[pm.length_eq,Ab];exact l8
 obtain⟨rn,en⟩:=gP hn;have mn:=DP en;refine⟨_,qC (Cv 4 nN (BN (gg T) (qA (qv 1) (qA (qv 3) qN)))) (qC (Cv 5 nN (KZ (BN (Zhw T) (qA (qv 0) (qA (qv 3) qN))))) (qC (Cv 6 nN (BN (Zhv T) (qA (qv 0) (qA (qv 2) (qA (qv 3) qN))))) (qC (Cv 7 nN (Jg qN)) (EW (LL AK rfl (J3 (BN (iL T) (qA (qv 0) qN))) (NO (i:=8) nN rfl (Cd rfl)) (EW (Cv 9 nN (Rs (JY OG (qv 8) (qv 4) (by with_unfolding_all rfl)) (OB (JY LJ (B6 K6 T.B.len B8 (qA (BN (gT T) (qA (BN (dr T) (qA (qv 0) (qA (qv 8) qN))) (qA (qv 5) qN))) qN)) Aj)))) (qO (Ew ((W6 (GF (qv 9)) (aH (AV OG (qv 8) (qv 6) (by with_unfolding_all rfl))))).pt (qO (Fh (Kn AN A8 A7 QF (qv 7) (qA (qv 8) qN)))) qE)))) (UG 7 (qO (CA (qv 7)))))))),?_⟩
 dsimp![↓PP,↓So]
 refine⟨zs,rfl,pm.mem_iff.mpr hn,by ext,?_⟩
 (try grind)
 refine⟨wk,rn,_,rfl,en,ok.rd mn,λp hp=>?_⟩;rw[Di];dsimp only;rw[UL hp];refine⟨wk,ps,rfl,rfl,ok,hn,hl,λp hp=>?_⟩;generalize eL:D.lst ((Je (De "late" rn.2.1 (rn.2.2.map (·.2)))).map D.str)=L;generalize eA:D.lst ((QD zs n).map D.str)=A1;generalize eR:D.lst ((dU wk ps n).map D.str)=R1;generalize D.lst (zs.map D.str)=Z1;generalize D.lst (ps.map NI)=P1;refine⟨λτ M'=>(Sub M M'/\M' p=some (.lst ((Uq wk zs ps n).map D.str)))/\∃a b,τ=[some wk.D,some Z1,some P1,some (.str n),some A1,some L,some R1,some (.ref p),a,b],?_,?_⟩
 .grind;refine⟨wk,rfl,ok,?_⟩;rw[nK];refine⟨λk τ M'=>(Sub M M'/\M' p=some (.lst (((wk.nms.take k).filter (PU wk zs ps n)).map D.str)))/\∃a b,τ=[some wk.D,some Z1,some P1,some (.str n),some A1,some L,some R1,some (.ref p),a,b],⟨⟨Sub.put hp,Di⟩,none,none,rfl⟩,λ_ _ _ _=>trivial,?_,?_⟩
  .intro k y τ M' hy;ext1⟨⟨sb,hM⟩,a,b,e1'⟩;obtain⟨o,ho,rfl⟩:=Nt hy;have mo:=AB ho;have hk:=(Ah.mp ho).1;rw[Ab]at hk;obtain⟨ro,eo⟩:=gP mo;have w6:=(ok.r.2 ro (DP eo)).2.l;have em:=yK (f:="late") eo en;simp![↓kS]
   refine⟨λτ M2=>(Sub M M2/\M2 p=some (.lst (((wk.nms.take k).filter (PU wk zs ps n)).map D.str)))/\τ=[some wk.D,some Z1,some P1,some (.str n),some A1,some L,some R1,some (.ref p),some (.str o),some (.bl (decide (o∈QD zs n) && !(Te wk "late" o n).isEmpty))],?_,?_⟩
   .subst eA;subst eL;simp![↓Vo,↓aI,↓UI,↓LH,↓UB,Nq,Np]
    refine Cj (λc=>?_) λc=>?_
    .refine⟨wk,ro,rfl,eo,w6,λp1 hp1=>?_⟩;have ne:p≠p1:=λe=>by rw[e,hp1]at hM;cases hM
     have hM1:M p1=none:=by
      cases e:M p1 with
      |none=>rfl
      |some u=>rw[sb p1 u e]at hp1;cases hp1
     refine⟨_,_,rfl,rfl,by rw[yJ,Ab];ext,yL ok mn "late" (.inr rfl),⟨sb.puts hM1,by rw[DJ ne];exact hM⟩,?_⟩;rw[em,decide_eq_true c,Jy];change[_,_,_,_,_,_,_,_,_,some (D.bl (decide (0<((K2 "late" ro rn).length:Int))))]=_;cases K2 "late" ro rn with
     |nil=>rfl
     |cons z l=>rw[decide_eq_true (show(0:Int)<((z::l).length:Nat) by rw[AO];ext)];rfl
    .rw[decide_eq_false c];exact⟨⟨sb,hM⟩,rfl⟩
   rintro τ M2 ⟨⟨sb2,hM2⟩,rfl⟩;subst eR;simp![↓UI,↓LH,Br,Nq,Np]
   have et:wk.nms.take (k+1)=wk.nms.take k++[o]:=by rw[Bb,ho];rfl
   have fl:(((wk.nms.take k).filter (PU wk zs ps n)).map D.str).length<An:=BU (by rw[Ab];have:=CF (PU wk zs ps n) (wk.nms.take k);rw[A3]at this;ext)
   have yes:∀{R:Prop},PU wk zs ps n o=true->R->Hr (.ref p) [.str o] M2 λx M1=>(Sub M M1/\M1 p=some (.lst (((wk.nms.take (k+1)).filter (PU wk zs ps n)).map D.str)))/\R:=λhb r=>by
    rw[Xh hM2];refine⟨fl,⟨sb2.puts hp,?_⟩,r⟩;rw[Di,et,C5,DR,if_pos hb,AJ];rfl
   refine Cj (λc=>⟨Jb hM2,yes ?_ ⟨_,_,rfl⟩⟩) λc=>Cj (λd=>⟨Jb hM2,yes ?_ ⟨_,_,rfl⟩⟩) λd=>⟨⟨sb2,?_⟩,_,_,rfl⟩
   .unfold PU;rw[decide_eq_true c.1,c.2];rfl
   .unfold PU;rw[decide_eq_true d,WS]
   .have hb:¬PU wk zs ps n o=true:=λh=>by
     unfold PU at h;rw[decide_eq_false d,Jz,Br,decide_eq_true_eq,Q7]at h;exact c h
    rw[et,C5,DR,if_neg hb,KO,Cc];exact hM2
  .intro τ M';ext1⟨h,a,b,e1'⟩;rw[Ab,Bm]at h;exact⟨h,a,b,rfl⟩
 intro τ M';ext1⟨⟨sb,hM⟩,a,b,e1'⟩;rw[oQ (p:=p) rfl hM];simp only[Ba,Bo];grind;refine RJ (λx o e=>?_) q;have ne:x≠p:=λc=>by rw[c,hp]at e;cases e
 rw[Jl ne];exact sb x o e
noncomputable def Ic (AG:List (Str×List Str)):List (Ck×D):=AG.map λkv=>(.inr kv.1,.lst (kv.2.map D.str))
noncomputable def Lf (wk:Wk)(zs:List Str)(ps:List (Str×Str)):List (Str×List Str):=wk.nms.map λn=>(n,Uq wk zs ps n)
def nI (h:(AG.map (·.1)).Nodup):((Ic AG).map (·.1)).Nodup:=by
 unfold Ic;rw[BB];unfold FD at h ⊢;rw[C4]at h ⊢;exact h.imp λh e=>h (EZ e)
def fL {wk:Wk}(ok:wk.Ok):(wk.nms.map λn=>n).Nodup:=by
 rw[QV];exact(Ci.mp ok.nd).2.1
abbrev ZfM:DL:=λds M Q=>Js ds λx y z=>∃(wk:Wk) (zs:List Str) (ps:List (Str×Str)),x=wk.D/\y=.lst (zs.map D.str)/\z=.lst (ps.map NI)/\wk.Ok/\zs.Perm wk.nms/\ps.length<=100/\Q (.dic (Ic (Lf wk zs ps))) M
def Zgh:Od T T.x75 21 ZfM:=by
 refine CB.p3 T.x75.d.F ["works", "order", "clashes"] λx y z M Q hr nN h=>?_;obtain⟨wk,zs,ps,e1',e2',e3',ok,pm,hl,q⟩:_:=h;have l8:=ok.r.1;refine⟨_,qO (CA (Ee (gG rfl) T.B.dict Qe (qA (F9 (caps:=[("works",0),("order",1),("clashes",2)]) ⟨rfl,by rfl,by rfl,by rfl,rfl,by rfl,by nofun⟩ rfl (J3 (BN (iL T) (qA (qv 0) qN))) (λ_ _ _ _ _ _=>(CJ (qA (qv 0) (qA (BN (Zhz T) (qA (qv 1) (qA (qv 2) (qA (qv 3) (qA (qv 0) qN))))) qN))))) qN))),?_⟩;right;refine⟨wk,rfl,ok,?_⟩;rw[nK];refine Ev.of (f:=λn=>.tup [.str n,.lst ((Uq wk zs ps n).map D.str)]) (GS (by rw[Ab];ext)) trivial (λn hn R r=>?_) ?_
 .simp_all![↓W8]
  exact⟨wk,zs,ps,rfl,rfl,rfl,ok,pm,hn,hl,r⟩
 refine⟨Ic (Lf wk zs ps),?_,GS (by unfold Ic Lf;rw[Ab,Ab,Ab];ext),?_⟩
 .simp only[Ht,Ic,Lf,BB];rfl
 .rw[iA _ (nI (by unfold Lf;rw[BB];exact(fL ok)))];exact Dn.of q
abbrev ζ:DL:=λds M Q=>FW ds λx y=>∃(wk:Wk) (zs:List Str),x=wk.D/\y=.lst (zs.map D.str)/\wk.Ok/\zs.Perm wk.nms/\Q (.dic (Ic (Lf wk zs (Dl wk zs)))) M
def Α:Od T T.x74 30 ζ:=by
 refine CB.p2 T.x74.d.F ["works", "order"] λx y M Q hr nN h=>?_;obtain⟨wk,zs,e1',e2',ok,pm,q⟩:_:=h;have l8:=ok.r.1;refine⟨_,qO (CA (BN (Zgh T) (qA (qv 0) (qA (qv 1) (qA (BN (ia T) (qA (qv 0) (qA (qv 1) qN))) qN))))),?_⟩;right;exact⟨wk,zs,rfl,rfl,ok,pm,wk,zs,_,rfl,rfl,rfl,ok,pm,A4 (qS (by rw[pm.length_eq,Ab];exact l8)) 'g',Dn.of q⟩
def nZ {M:Mp}{y:D}{xs:List D}(h:Bg M y=some xs):HK M y=some xs:=by
 cases y<;>first | exact h | cases h
abbrev Zh4:DL:=λds M Q=>FW ds λx y=>∃(xs ys:List Str),x=.lst (xs.map D.str)/\Bg M y=some (ys.map D.str)/\xs.length<=100/\Q (.bl (xs.all λz=>decide (z∈ys))) M
def ZhC:Od T T.x78 1 Zh4:=by
 refine CB.p2 T.x78.d.F ["names", "come"] λx y M Q hr nN h=>?_;obtain⟨xs,ys,e1',hy,hl,q⟩:_:=h;refine⟨_,qO (CA (B6 (tU rfl) T.B.all boot_all (qA (F9 (caps:=[("come",1)]) ⟨rfl,by rfl,by rfl,by rfl,rfl,by rfl,by nofun⟩ rfl (J3 (qv 0)) (λ_ _ _ _ _ _=>(JY OG (qv 0) (qv 1) (by with_unfolding_all rfl)))) qN))),?_⟩;right;refine Ev.of (f:=λz=>.bl (decide (z∈ys))) (GS (by ext)) trivial (λn hn R r=>?_) ?_
 .simp_all![↓UI,↓LH]
  rw[nZ hy,BS,Np];exact⟨Nq _,r⟩
 rw[show xs.map (λz=>D.bl (decide (z∈ys)))=(xs.map λz=>decide (z∈ys)).map D.bl by rw[BB];rfl,qX,BS,QX];exact Dn.of q
noncomputable def PY (c:List Str)(kv:Str×List Str):Bool:=decide (kv.1∉c) && kv.2.all λz=>decide (z∈c)
noncomputable def QC (AG:List (Str×List Str))(c:List Str):List Str:=(AG.filter (PY c)).map (·.1)
noncomputable def Uz (AG:List (Str×List Str)):Nat->List Str->List Str
 |0,c=>c
 |f+1,c=>if (QC AG c).isEmpty then c else Uz AG f (c++[(QC AG c).headD ""])
noncomputable def OM (AG:List (Str×List Str)):List Str:=Uz AG (AG.length+1) []
structure iR (AG:List (Str×List Str)):Prop where
 nd:(AG.map (·.1)).Nodup
 l:AG.length<=8/\∀kv∈AG,kv.2.length<=8
abbrev ZdA:DL:=λds M Q=>GH ds λx=>∃AG:List (Str×List Str),x=.dic (Ic AG)/\iR AG/\Q (.lst ((OM AG).map D.str)) M
def ZdT:Od T T.x77 2 ZdA:=by
 refine CB.p1 T.x77.d.F ["needed", "come", "free"] λx M Q hr nN h=>?_;obtain⟨AG,rfl,hk,q⟩:=h;refine⟨_,qC (aG (i:=1) nN rfl (Im rfl) (Jg qN)) (qO (Tw AK (GF S6) (qC (Zkg (caps:=[("come",1),("needed",0)]) (j:=0) (i:=2) nN rfl rfl ⟨rfl,by rfl,by rfl,by rfl,rfl,by rfl,by nofun⟩ rfl rfl (Im (Cd rfl)) 'g' 'g' (λ_ _ _ _ _ _ _=>(qv 0)) (λ_ _ _ _ _ _ _=>((UF (AV pQ (qv 0) (qv 1) (by with_unfolding_all rfl)) (UH (GF (BN (ZhC T) (qA (FV (KL hr) (qv 2) (qv 0) (λ_ _=>rfl)) (qA (qv 1) qN))))))).pt)) (qC (Ew (AV CP (B6 K6 T.B.len B8 (qA (qv 2) qN)) Aj) (qO (CA (KZ (qv 1)))) qE) (qO (Fh (Kn AN A8 A7 QF (qv 1) (qA (Bf Ii (qv 2) Aj) qN)))))))),?_⟩
 dsimp![↓Oy]
 intro p hp;unfold OM at q;generalize hR:Uz AG (AG.length+1) []=R0 at q;refine⟨λk τ M'=>∃c,(c.Nodup/\(∀z∈c,z∈AG.map (·.1))/\k+c.length=AG.length+1/\Uz AG k c=R0/\M'=put M p (.lst (c.map D.str)))/\∃a,τ=[some (.dic (Ic AG)),some (.ref p),a],⟨AG.length+1,[],⟨Iw,λz h=>absurd h AT,rfl,hR,rfl⟩,none,rfl⟩,?_⟩;intro k τ M';ext1⟨c,⟨cn,cs,ck,cf,e1'⟩,a,e2'⟩
 have cl:c.length<=AG.length:=by
  have:=Tr c (AG.map (·.1)) cn cs;rw[Ab]at this;exact this
 obtain⟨k,rfl⟩:∃k',k=k'+1:=⟨k-1,by ext⟩;rw[Uz]at cf;simp![↓vO,↓uF,↓So]
 rw[show(Ic AG).map (λp=>kD p.1)=AG.map λkv=>D.str kv.1 by unfold Ic;rw[BB];rfl];refine Ev.filt (f:=λkv=>D.str kv.1) (pr:=PY c) (GS (by have:=hk.l.1;ext)) trivial (λkv hkv R r=>?_) (λkv hkv R r=>?_) ?_
 .have hv:DA (Ic AG) (.inr kv.1)=some (.lst (kv.2.map D.str)):=bI (nI hk.nd) (Ao.mpr ⟨kv,hkv,rfl⟩);have l8:=hk.l.2 kv hkv;unfold PY at r
  simp_all![↓VQ,↓UI,↓LH,↓UB,↓uX,↓gC,decide_eq_false_iff_not,Nq,Np]
  refine Cj (λd=>?_) λd=>?_
  .rw[hv,BS];rw[decide_eq_true d,Jy]at r;exact⟨_,_,rfl,rfl,by ext,r⟩
  .rw[decide_eq_false d,DU]at r;exact r
 .walk_at "cap";exact r
 .rw[show(AG.filter (PY c)).map (λkv=>D.str kv.1)=(QC AG c).map D.str by unfold QC;rw[BB];rfl,Ab];cases ef:QC AG c with
  |nil=>rw[ef,show([]:List Str).isEmpty=true from rfl,if_pos rfl]at cf;refine Cj (λ_=>?_) λh=>absurd rfl h;rw[Di];dsimp only;rw[UL hp,cf];exact Dn.of q
  |cons z l=>
   rw[ef,show(z::l).isEmpty=false from rfl,if_neg Ak]at cf;refine Cj (λh=>absurd h (by rw[AO];ext)) λ_=>?_;have mz:z∈QC AG c:=by rw[ef];exact Aw
   obtain⟨kv,hkv,ez⟩:=Ao.mp mz;obtain⟨h1,h2⟩:=Bl.mp hkv;unfold PY at h2;rw[Br,decide_eq_true_eq,ez]at h2;rw[show F3 ((z::l).map D.str) 0=some (.str z)from Pk (j:=0) rfl,BS,Xh Di,QG];refine⟨Jb Di,BU (by rw[Ab];have:=hk.l.1;ext),k,FI k,c++[z],⟨?_,λx hx=>?_,by rw[Aq,Dr];ext,cf,by rw[AJ];rfl⟩,_,rfl⟩
   .rw[El];refine⟨cn,by simp,λa ha b hb e=>h2.1 ?_⟩;rw[AD.mp hb]at e;exact e ▸ ha
   .rcases AQ.mp hx with hx|hx
    .exact cs x hx
    .rw[AD.mp hx,<- ez];exact FG h1
def d9:EA ["needed", "come"] ["needed"] (Ig (Dk 98)):=(⟨rfl,rfl,rfl,by nofun,rfl,by nofun,by nofun⟩)
abbrev ZgV (ds:List D)(M:Mp)(Q:Ef)(E:RQ):Prop:=GH ds λx=>∃AG:List (Str×List Str),x=.dic (Ic AG)/\iR AG/\(AG.length<=(OM AG).length->Q (.lst ((OM AG).map D.str)) M)/\(¬AG.length<=(OM AG).length->E "Ring" M)
def Zht:jh P w K mg base 3 T.x80.f T.x80.g ["needed"] ZgV:=by
 refine CB.okX T.x80.d.F d9 (λds M Q E h=>?_) (λcdv A outer s H E ds M Q E2 hr hE h=>?_)
 .obtain⟨x,rfl,_⟩:=GV h;rfl
 obtain⟨x,e1',AG,e2',hk,q1,q2⟩:_:=GV h;refine⟨_,qC (vH (Cv 1 d9.nd (BN (ZdT T) (qA (qv 0) qN)))) (qC (Ew (AV Kz (B6 K6 T.B.len B8 (qA (qv 1) qN)) (B6 ZkM T.B.len B8 (qA (qv 0) qN))) (qO (Zlv hE T.xc_Ring rg)) qE) (qO (vH (CA (qv 1))))),?_⟩
 dsimp![↓Oy,↓gC]
 refine⟨AG,rfl,hk,?_⟩
 (try grind)
 rw[show(Ic AG).length=AG.length by unfold Ic;rw[Ab]];refine Cj (λc=>?_) λc=>?_
 .exact XQ.of (q2 (by ext))
 .exact Dn.of (q1 (by ext))
def ZiC:EA ["works", "order"] ["works", "order"] (Ig (Dk 97)):=(⟨rfl,rfl,rfl,by nofun,rfl,by nofun,by nofun⟩)
def wS {wk:Wk}(ok:wk.Ok)(zs:List Str)(ps:List (Str×Str)):iR (Lf wk zs ps):=by
 have l8:=ok.r.1;refine⟨by unfold Lf;rw[BB];exact fL ok,by unfold Lf;rw[Ab,Ab];exact l8,λkv hkv=>?_⟩;obtain⟨n,-,rfl⟩:=Ao.mp hkv;show(Uq wk zs ps n).length<=8;unfold Uq;exact A4 (CF _ _) (by rw[Ab];exact l8)
abbrev ZfI (ds:List D)(M:Mp)(Q:Ef)(E:RQ):Prop:=FW ds λx y=>∃(wk:Wk) (zs:List Str),x=wk.D/\y=.lst (zs.map D.str)/\wk.Ok/\zs.Perm wk.nms/\(wk.nms.length<=(OM (Lf wk zs (Dl wk zs))).length->Q (.lst ((OM (Lf wk zs (Dl wk zs))).map D.str)) M)/\(¬wk.nms.length<=(OM (Lf wk zs (Dl wk zs))).length->E "Ring" M)
def Zge:jh P w K mg base 32 T.x79.f T.x79.g ["works", "order"] ZfI:=by
 refine CB.okX T.x79.d.F ZiC (λds M Q E h=>?_) (λcdv A outer s H E ds M Q E2 hr hE h=>?_)
 .obtain⟨x,y,rfl,_⟩:=LI h;rfl
 obtain⟨x,y,e1',wk,zs,e2',e3',ok,pm,q1,q2⟩:_:=LI h;have e1:(Lf wk zs (Dl wk zs)).length=wk.nms.length:=by unfold Lf;rw[Ab]
 refine⟨_,qO (CA (Vv T.x80.d (Zht T) nofun Zz hE (qA (BN (Α T) (qA (qv 0) (qA (qv 1) qN))) qN))),?_⟩;right;refine⟨wk,zs,rfl,rfl,ok,pm,?_⟩
 (try grind)
 refine⟨_,rfl,wS ok _ _,λc=>?_,λc=>?_⟩
 .exact Dn.of (q1 (by rw[e1]at c;exact c))
 .exact XQ.of (q2 (by rw[e1]at c;exact c))
abbrev ZdC:DL:=λds M Q=>FW ds λx y=>PR M x λ_=>Fb y λk=>0<=k/\∀z:Int,Q (.int z) M
def Wb:Od T T.x81 1 ZdC:=by
 refine CB.p2 T.x81.d.F ["script", "k"] λx y M Q hr nN h1=>?_;obtain⟨ns,hl,hs,h2⟩:=nO h1;obtain⟨k,rfl,hk,q⟩:=C3 h2;refine⟨_,qC (Ew (AV Kz (qv 1) (B6 K6 T.B.len B8 (qA (qv 0) qN))) (qO (CA (Bf Ii (qv 0) (qv 1)))) qE) (qO (CA Aj)),?_⟩;right;simp only[hs,hl];simp![↓BS]
 refine Cj (λc=>?_) λc=>Dn.of (q 0);obtain⟨o,ho,mo⟩:=fX (xs:=ns.map D.int) (i:=k) hk (by rw[Ab];ext);obtain⟨z,_,rfl⟩:=Ao.mp mo;simp only[ho,BS];exact Dn.of (q z)
noncomputable def CW:Str:="abcdefghijklmnopqrstuvwxyz"
def qT:CW.cps.toList.length=26:=by nofun
def Zgu:CW.cps.toList.all small=true:=by nofun
def Zku:CW.cps.toList.Nodup:=by nofun
def qM (h0:0<=i)(h1:i<26):∃c,F3 CW.cps.toList i=some c/\small c=true:=by
 obtain⟨a,rfl⟩:∃a:Nat,i=(a:Int):=⟨i.toNat,by ext⟩;have la:a<CW.cps.toList.length:=by rw[qT];ext
 exact⟨_,Pk (Af la),Ca.mp Zgu _ (Go la)⟩
def c8 (hi:0<=i)(hj:0<=j)(h1:F3 CW.cps.toList i=some c)(h2:F3 CW.cps.toList j=some c)(i6:i<26)(j6:j<26):i=j:=by
 obtain⟨a,rfl⟩:∃a:Nat,i=(a:Int):=⟨i.toNat,by ext⟩;obtain⟨b,rfl⟩:∃b:Nat,j=(b:Int):=⟨j.toNat,by ext⟩;have la:a<CW.cps.toList.length:=by rw[qT];ext
 have lb:b<CW.cps.toList.length:=by rw[qT];ext
 rw[Pk (Af la)]at h1;rw[Pk (Af lb)]at h2;have:=(JU Zku).mp ((AZ h1).trans (AZ h2).symm);ext
def aV (a b:Str):(a++b).cps.toList=a.cps.toList++b.cps.toList:=by
 show(a.cps++b.cps).toList=_;rw[O9]
def yN (h1:1<=z.length)(h8:z.length<=8)(hs:∀c∈z.cps.toList,small c=true):KD z:=by
 refine⟨⟨?_,by ext⟩,?_⟩
 .unfold eG;rw[<- Array.all_toList];refine Ca.mpr λc hc=>?_;have:=hs c hc;unfold small at this;have:=of_decide_eq_true this;exact decide_eq_true (by ext)
 .unfold GW;rw[Ca.mpr hs,decide_eq_true ⟨h1,h8⟩];rfl
def Wm (n k:Int)(z:Str):Prop:=∃c d,F3 CW.cps.toList (n / 192%26)=some c/\F3 CW.cps.toList ((n / 4992+k)%26)=some d/\small c=true/\small d=true/\z=JF c (n / 24%8%(1+n / 3%8))++(⟨#[d]⟩:Str)++JF c (1+n / 3%8-1-n / 24%8%(1+n / 3%8))
theorem Tz (c)(n):(JF c n).cps.toList=Az n.toNat c:=rfl
def Wm.ok (h:Wm n k z):KD z:=by
 obtain⟨c,d,_,_,sc,sd,e1'⟩:_:=h;have hm:=Co (n / 24%8) (by omega:1+n / 3%8≠0);have hm2:=BP (n / 24%8) (by omega:0<1+n / 3%8)
 have len:(JF c (n / 24%8%(1+n / 3%8))++(⟨#[d]⟩:Str)++JF c (1+n / 3%8-1-n / 24%8%(1+n / 3%8))).length=(1+n / 3%8).toNat:=by
  show LD _=_;rw[<- BI,aV,aV,Tz,Tz];simp;ext
 refine yN (by rw[len];ext) (by rw[len];ext) λx hx=>?_;rw[aV,aV,Tz,Tz]at hx;simp only[Dv,Qo,Fj]at hx;rcases hx with(⟨_,rfl⟩|hx)|⟨_,rfl⟩
 .exact sc
 .rw[hx];exact sd
 .exact sc
def Wm.inj (h1:Wm n i z)(h2:Wm n j z):(n / 4992+i)%26=(n / 4992+j)%26:=by
 obtain⟨c,d,a1,a2,_,_,e1⟩:_:=h1;obtain⟨c',d',b1,b2,_,_,e2⟩:_:=h2;rw[a1]at b1;cases b1;have e:=congrArg (λs:Str=>s.cps.toList) (e1.symm.trans e2);simp only[aV,Tz,Bv]at e;have e3:=(List.append_cancel_left e);have:d=d':=by simpa using congrArg List.head? e3
 subst this;exact c8 (by ext) (by ext) a2 b2 (by ext) (by ext)
def RV (i m:Int)(z:Str):Prop:=∃c,F3 CW.cps.toList i=some c/\small c=true/\z=JF c m
def RV.ok (h:RV i m z)(h1:1<=m)(h8:m<=8):KD z:=by
 obtain⟨c,_,sc,rfl⟩:=h
 have len:(JF c m).length=m.toNat:=by
  show LD _=_;rw[<- BI,Tz,Bu]
 refine yN (by rw[len];ext) (by rw[len];ext) λx hx=>?_;rw[Tz]at hx;rw[(Qo.mp hx).2];exact sc
def RV.inj (h1:RV i m z)(h2:RV i' m' z)(hi:0<=i/\i<26)(hi':0<=i'/\i' < 26)(hm:1<=m)(hm':1<=m'):i=i'/\m=m':=by
 obtain⟨c,a,_,e1⟩:=h1;obtain⟨c',a',_,e2⟩:=h2;have e:=congrArg (λs:Str=>s.cps.toList) (e1.symm.trans e2);simp only[Tz]at e;have el:=congrArg DC e;rw[Bu,Bu]at el
 have ec:c=c':=by
  obtain⟨k,hk⟩:∃k,m.toNat=k+1:=⟨m.toNat-1,by ext⟩;obtain⟨k',hk'⟩:∃k,m'.toNat=k+1:=⟨m'.toNat-1,by ext⟩;rw[hk,hk',C8,C8]at e;injection e
 subst ec;exact⟨c8 hi.1 hi'.1 a a' hi.2 hi'.2,by ext⟩
def Lm (n k:Int)(z:Str):Prop:=if n%3=2 then(if k<5 then RV (n / 192%26) (1+(2*k+n / 192)%5) z else RV ((n / 192%26+1+n / 4992%25)%26) (1+(3*k+n / 192)%4) z)else Wm n (7*k) z
theorem Lm.ok (h:Lm n k z):KD z:=by
 unfold Lm at h;split at h
 .split at h
  .exact h.ok (by ext) (by ext)
  .exact h.ok (by ext) (by ext)
 .exact h.ok
theorem Lm.inj (h1:Lm n i z)(h2:Lm n j z)(hi:0<=i/\i<9)(hj:0<=j/\j<9):i=j:=by
 unfold Lm at h1 h2;split at h1
 .next hn=>
  rw[if_pos hn]at h2;split at h1
  .split at h2
   .have:=RV.inj h1 h2 (by ext) (by ext) (by ext) (by ext);ext
   .have:=RV.inj h1 h2 (by ext) (by ext) (by ext) (by ext);ext
  .split at h2
   .have:=RV.inj h1 h2 (by ext) (by ext) (by ext) (by ext);ext
   .have:=RV.inj h1 h2 (by ext) (by ext) (by ext) (by ext);ext
 .next hn=>
  rw[if_neg hn]at h2;have:=Wm.inj h1 h2;ext
def aN (hi:i.natAbs<1000)(hj:j.natAbs<1000):P9 i j:=by
 unfold P9;ext
abbrev Zh6:DL:=λds M Q=>FW ds λx y=>Fb x λn=>Fb y λk=>(0<=n/\n<10^9/\0<=k/\k<26)/\∀z,Lm n k z->Q (.str z) M
def rK:Od T T.x83 1 Zh6:=by
 refine CB.p2 T.x83.d.F ["number", "k", "letters", "fill", "long", "at", "sign"] λx y M Q hr nN h1=>?_;obtain⟨n,rfl,h2⟩:=C3 h1;obtain⟨k,e1',⟨n0,n9,k0,k26⟩,q⟩:_:=C3 h2;refine⟨_,qC (Cv 2 nN BZ) (qC (Cv 3 nN (BJ Hv (BJ Li (qv 0) Aj) Aj)) (qC (Ew (AV CP (BJ Hv (qv 0) Aj) Aj) (qC (Ew (AV Kz (qv 1) Aj) (qO (CA (BJ hU (Bf ZY (qv 2) (qv 3)) (BJ HN Aj (BJ Hv (BJ HN (BJ VO Aj (qv 1)) (BJ Li (qv 0) Aj)) Aj))))) qE) (qO (CA (BJ hU (Bf ZY (qv 2) (BJ Hv (BJ HN (BJ HN (qv 3) Aj) (BJ Hv (BJ Li (qv 0) Aj) Aj)) Aj)) (BJ HN Aj (BJ Hv (BJ HN (BJ VO Aj (qv 1)) (BJ Li (qv 0) Aj)) Aj)))))) qE) (qC (Cv 4 nN (BJ HN Aj (BJ Hv (BJ Li (qv 0) Aj) Aj))) (qC (Cv 5 nN (BJ Hv (BJ Hv (BJ Li (qv 0) Aj) Aj) (qv 4))) (qC (Cv 6 nN (Bf ZY (qv 2) (BJ Hv (BJ HN (BJ Li (qv 0) Aj) (BJ VO Aj (qv 1))) Aj))) (qO (CA (BJ b7 (BJ b7 (BJ hU (Bf ZY (qv 2) (qv 3)) (qv 5)) (qv 6)) (BJ hU (Bf ZY (qv 2) (qv 3)) (BJ Nr (BJ Nr (qv 4) Aj) (qv 5))))))))))),?_⟩
 dsimp![↓nh]
 have hm:=Co (n / 24%8) (by omega:1+n / 3%8≠0);have hm2:=BP (n / 24%8) (by omega:0<1+n / 3%8);have hL:("abcdefghijklmnopqrstuvwxyz":Str).length<=An:=by nofun
 have len:∀(c:Nat) (i:Int),(JF c i).length=i.toNat:=λc i=>by
  show LD _=_;rw[<- BI,Tz,Bu]
 obtain⟨c,hc,sc⟩:=qM (i:=n / 192%26) (by ext) (by ext);refine⟨⟨by decide,by decide⟩,Cj (λh2=>Cj (λh5=>⟨hL,?_⟩) λh5=>⟨⟨by decide,by decide⟩,hL,?_⟩) λh2=>⟨⟨by decide,by decide⟩,⟨by decide,by decide⟩,by ext,⟨by decide,by decide⟩,aN 'g' (by ext),hL,?_⟩⟩
 .change Cw (F3 CW.cps.toList _) _;rw[hc,BS];refine⟨aN 'g' (by ext),⟨by decide,by decide⟩,fG ⟨by ext,by ext⟩ (Dn.of (q _ ?_))⟩;unfold Lm;rw[if_pos h2,if_pos h5];exact⟨c,hc,sc,rfl⟩
 .obtain⟨d,hd,sd⟩:=qM (i:=(n / 192%26+1+n / 4992%25)%26) (by ext) (by ext);change Cw (F3 CW.cps.toList _) _;rw[hd,BS];refine⟨aN 'g' (by ext),⟨by decide,by decide⟩,fG ⟨by ext,by ext⟩ (Dn.of (q _ ?_))⟩;unfold Lm;rw[if_pos h2,if_neg h5];exact⟨d,hd,sd,rfl⟩
 .obtain⟨d,hd,sd⟩:=qM (i:=(n / 4992+7*k)%26) (by ext) (by ext);change Cw (F3 CW.cps.toList _) _;rw[hd,BS];refine⟨hL,?_⟩;change Cw (F3 CW.cps.toList _) _;rw[hc,BS];refine fG ⟨hm,by ext⟩ ⟨GS ?_,hL,?_⟩
  .rw[len];show _+1<=_;ext
  change Cw (F3 CW.cps.toList _) _;rw[hc,BS];refine fG ⟨by ext,by ext⟩ ⟨GS ?_,Dn.of (q _ ?_)⟩
  .rw[Str.length_append,len,len];show _+1+_<=_;ext
  .unfold Lm;rw[if_neg h2];exact⟨c,d,hc,hd,sc,sd,rfl⟩
def Up (n:Nat):(0:Int)<2^n:=QR 'g'
theorem bF:∀{ws:List (Str×Int)},(ws.map (·.1)).Nodup->∀{p:Str×Int},p∈ws->ws.lookup p.1=some p.2
 |[],_,p,h=>nomatch h
 |(y,n)::r,nd,p,h=>by
  rw[AU,Ek]at nd;rcases AR.mp h with rfl|h
  .rw[BL,beq_self_eq_true]
  .have ne:(p.1 == y)=false:=by
    refine G8.mpr λe=>nd.1 ?_;exact Ao.mpr ⟨p,h,eq_of_beq e⟩
   rw[BL,ne];exact bF nd.2 h
noncomputable abbrev PH (bs:List (Str×Int×Int)):List (Str×Int):=bs.map λb=>(b.1,b.2.1)
structure Sp (bs:List (Str×Int×Int))(es:List (Str×Int)):Prop where
 b:bs.length<=12/\∀b∈bs,KD b.1/\1<=b.2.1/\b.2.1<=64
 d:es.length<=6/\∀d∈es,KD d.1/\1<=d.2/\d.2<=64
 nb:(bs.map (·.1)).Nodup
 nd:(es.map (·.1)).Nodup
def TJ (bs:List (Str×Int×Int))(es:List (Str×Int))(w:Int)(t:Tm):Prop:=Wd (PH bs) es t w/\t.deep=1/\t.parts=1
abbrev Zh7:DL:=λds M Q=>Vy ds λx1 x2 x3 x4=>Fb x1 λn=>Fb x2 λwd=>∃(bs:List (Str×Int×Int)) (es:List (Str×Int)),x3=.lst (bs.map E8)/\x4=.lst (es.map GY)/\Sp bs es/\(1<=wd/\wd<=64)/\0<=n/\∀t,TJ bs es wd t->Q t.D M
def hW:Od T T.x84 1 Zh7:=by
 refine CB.p4 T.x84.d.F ["number", "want", "boxes", "doors", "fit"] λx1 x2 x3 x4 M Q hr nN h1=>?_;obtain⟨n,rfl,h2⟩:=C3 h1;obtain⟨wd,e1',bs,es,e2',e3',sp,⟨w1,w64⟩,n0,q⟩:_:=C3 h2;refine⟨_,qC (gW (caps:=[("want",1)]) (i:=4) nN rfl rfl ⟨rfl,by rfl,by rfl,by rfl,rfl,by rfl,by nofun⟩ rfl (J3 (qv 2)) (λ_ _ _ _ _ _=>(CJ (qA BZ (qA 'b' qN)))) (λ_ _ _ _ _ _=>(AV CP 'b' (qv 1)))) (qC (Cv 4 nN (BJ oM (qv 4) (JH (caps:=[("want",1)]) ⟨rfl,by rfl,by rfl,by rfl,rfl,by rfl,by nofun⟩ rfl (J3 (qv 2)) (λ_ _ _ _ _ _=>(CJ (qA BZ (qA 'b' qN)))) (λ_ _ _ _ _ _=>(AV CP 'b' (qv 1)))))) (qC (Cv 4 nN (BJ na (qv 4) (JH (caps:=[("want",1)]) ⟨rfl,by rfl,by rfl,by rfl,rfl,by rfl,by nofun⟩ rfl (J3 (qv 3)) (λ_ _ _ _ _ _=>(CJ (qA BZ (qA 'b' qN)))) (λ_ _ _ _ _ _=>(AV CP 'b' (qv 1)))))) (qC (Fh (Kn AN A8 A7 QF (qv 4) (qA (CJ (qA BZ (qA (qv 1) (qA (BJ Hv (BJ VO (BJ Li (qv 0) Aj) Aj) (BJ W5 Aj (qv 1))) qN)))) qN))) (qO (CA (Bf Ii (qv 4) (BJ Hv (qv 0) (B6 K6 T.B.len B8 (qA (qv 4) qN))))))))),?_⟩
 dsimp![↓aJ,↓ma,↓UB,↓uX,↓VR,Aq]
 have hp0:=Up wd.toNat
 have lb:=sp.b.1;have ld':=sp.d.1
 have lkb:∀b∈bs,b.2.1=wd->(PH bs).lookup b.1=some wd:=λb hb e=>by
  have:=bF (ws:=PH bs) (p:=(b.1,b.2.1)) (by unfold PH;rw[BB];exact sp.nb) (Ao.mpr ⟨b,hb,rfl⟩);rw[e]at this;exact this
 have lkd:∀d∈es,d.2=wd->es.lookup d.1=some wd:=λd hd e=>by
  have:=bF (p:=d) sp.nd hd;rw[e]at this;exact this
 refine Ev.filt (ks:=bs) (g:=E8) (f:=λb=>(Tm.box b.1).D) (pr:=λb=>decide (b.2.1=wd)) (GS (by ext)) trivial (λd hd R r=>?_) (λd hd R r=>?_) ?_
 .simp only[E8];walk_at "cap";exact r
 .simp only[E8];walk_at "cap";exact r
 have f1:=CF (λb:Str×Int×Int=>decide (b.2.1=wd)) bs;have f2:=CF (λd:Str×Int=>decide (d.2=wd)) es;refine Ev.filt (ks:=bs) (g:=E8) (f:=λb=>(Tm.late b.1).D) (pr:=λb=>decide (b.2.1=wd)) (GS (by ext)) trivial (λd hd R r=>?_) (λd hd R r=>?_) ?_
 .simp only[E8];walk_at "cap";exact r
 .simp only[E8];walk_at "cap";exact r
 refine⟨GS (by rw[Ab,Ab];ext),?_⟩;refine Ev.filt (ks:=es) (g:=GY) (f:=λb=>(Tm.door b.1).D) (pr:=λb=>decide (b.2=wd)) (GS (by ext)) trivial (λd hd R r=>?_) (λd hd R r=>?_) ?_
 .simp only[GY];walk_at "cap";exact r
 .simp only[GY];walk_at "cap";exact r
 refine⟨GS (by rw[Ab,Ab,Ab];ext),λp hp=>⟨⟨by decide,by decide⟩,.inr 'g',⟨by ext,by ext,by decide⟩,by ext,BU (by rw[Ab,Ab,Ab];ext),by ext,?_⟩⟩
 have all:∀d∈(((bs.filter λb=>decide (b.2.1=wd)).map λb=>(Tm.box b.1).D)++((bs.filter λb=>decide (b.2.1=wd)).map λb=>(Tm.late b.1).D)++((es.filter λb=>decide (b.2=wd)).map λb=>(Tm.door b.1).D)++[D.tup [D.str "num",D.int wd,D.int (n / 7*6364136223846793005%(1*2^wd.toNat))]]),∃t,TJ bs es wd t/\d=t.D:=λd hd=>by
  simp only[Dv,Fj]at hd;rcases hd with((hd|hd)|hd)|hd
  .obtain⟨b,hb,rfl⟩:=Ao.mp hd;obtain⟨hb,e⟩:=Bl.mp hb;exact⟨_,⟨.box (lkb b hb (of_decide_eq_true e)),rfl,rfl⟩,rfl⟩
  .obtain⟨b,hb,rfl⟩:=Ao.mp hd;obtain⟨hb,e⟩:=Bl.mp hb;exact⟨_,⟨.late (lkb b hb (of_decide_eq_true e)),rfl,rfl⟩,rfl⟩
  .obtain⟨b,hb,rfl⟩:=Ao.mp hd;obtain⟨hb,e⟩:=Bl.mp hb;exact⟨_,⟨.door (lkd b hb (of_decide_eq_true e)),rfl,rfl⟩,rfl⟩
  .exact⟨.num wd (n / 7*6364136223846793005%(1*2^wd.toNat)),⟨.num ⟨w1,w64,Co _ (by ext),by rw[WD];exact BP _ hp0⟩,rfl,rfl⟩,hd⟩
 generalize hL:(((bs.filter λb=>decide (b.2.1=wd)).map λb=>(Tm.box b.1).D)++((bs.filter λb=>decide (b.2.1=wd)).map λb=>(Tm.late b.1).D)++((es.filter λb=>decide (b.2=wd)).map λb=>(Tm.door b.1).D)++[D.tup [D.str "num",D.int wd,D.int (n / 7*6364136223846793005%(1*2^wd.toNat))]])=L at all ⊢;have len:((bs.filter λb=>decide (b.2.1=wd)).map λb=>(Tm.box b.1).D).length+((bs.filter λb=>decide (b.2.1=wd)).map λb=>(Tm.late b.1).D).length+((es.filter λb=>decide (b.2=wd)).map λb=>(Tm.door b.1).D).length+1=L.length:=by rw[<- hL];simp only[Aq,Dr]
 rw[len];have lp:0<L.length:=by ext
 obtain⟨d,hd,md⟩:=fX (xs:=L) (i:=n%(L.length:Int)) (Co _ (by ext)) (BP _ (by ext));rw[hd,BS];obtain⟨t,ht,rfl⟩:=all d md;exact RJ (Sub.put hp) (q t ht)
noncomputable def pN:Nat->Nat
 |0=>1
 |n+1=>2*pN n+2
def rb (n:Nat):1<=pN n:=by cases n<;>simp[pN]
def oS {x w:Int}(h1:Wd bs es t x)(hk:u.kids=[t])(h:u.over [x]=some w):Wd bs es u w:=by
 refine .over (λi k a hk2 ha=>?_) h;rw[hk]at hk2
 match i with
 |0=>cases hk2;cases ha;exact h1
 |i+1=>cases hk2
def wc {x y w:Int}(h1:Wd bs es t x)(h2:Wd bs es u y)(h:(Tm.bin o t u).over [x,y]=some w):Wd bs es (.bin o t u) w:=by
 refine .over (λi k a hk ha=>?_) h
 match i with
 |0=>cases hk;cases ha;exact h1
 |1=>cases hk;cases ha;exact h2
 |i+2=>cases hk
def Ρ {w:Int}(h0:Wd bs es c 1)(h1:Wd bs es t w)(h2:Wd bs es u w):Wd bs es (.pick c t u) w:=by
 refine .over (ws:=[1,w,w]) (λi k a hk ha=>?_) (by simp[Tm.over])
 match i with
 |0=>cases hk;cases ha;exact h0
 |1=>cases hk;cases ha;exact h1
 |2=>cases hk;cases ha;exact h2
 |i+3=>cases hk
structure QH (bs:List (Str×Int×Int))(es:List (Str×Int))(w:Int)(n:Nat)(t:Tm):Prop where
 w:Wd (PH bs) es t w
 d:t.deep<=n+1
 p:t.parts<=pN n
abbrev bK (n:Nat)(ds:List D)(M:Mp)(Q:Ef):Prop:=ZA ds λx1 x2 x3 x4 x5=>Fb x1 λm=>Fb x2 λwd=>x3=.int n/\n<=2/\∃(bs:List (Str×Int×Int)) (es:List (Str×Int)),x4=.lst (bs.map E8)/\x5=.lst (es.map GY)/\Sp bs es/\bs≠[]/\(1<=wd/\wd<=64)/\0<=m/\∀t,QH bs es wd n t->Q t.D M
def TJ.tm {w:Int}(h:TJ bs es w t)(n:Nat):QH bs es w n t:=⟨h.1,by rw[h.2.1];ext,by rw[h.2.2];cases n<;>simp[pN]⟩
def gj {n:Nat}{sq:DL}(G__law_term:Ok P w K mg base (n+1) T.x85.f T.x85.g ["number", "want", "deep", "boxes", "doors"] sq)(hq:∀m,n=m+1->sq=bK m):Od T T.x85 (n+2) (bK n):=by
 refine CB.p5 T.x85.d.F ["number", "want", "deep", "boxes", "doors", "kind", "rest", "base", "one", "two", "test", "low", "high", "wider", "row", "width", "word"] λx1 x2 x3 x4 x5 M Q hr nN h1=>?_;obtain⟨m,rfl,h2⟩:=C3 h1;obtain⟨wd,e1',e2',n2,bs,es,e3',e4',sp,ne,⟨w1,w64⟩,m0,q⟩:_:=C3 h2;refine⟨_,qC (Cv 5 nN (BJ Hv (qv 0) Aj)) (qC (Cv 6 nN (BJ Li (qv 0) Aj)) (qC (Ew (AV CP (qv 2) Aj) (qO (CA (BN (hW T) (qA (qv 0) (qA (qv 1) (qA (qv 3) (qA (qv 4) qN))))))) qE) (qC (Ew (AV Kz (qv 5) Aj) (qO (CA (BN (hW T) (qA (qv 6) (qA (qv 1) (qA (qv 3) (qA (qv 4) qN))))))) qE) (qC (Cv 7 nN (Bf Ii (Ib (ZZ (.int (.int (.int .nil))))) (qv 2))) (qC (Cv 8 nN (BJ Hv (qv 6) (qv 7))) (EW (Cv 9 nN (BJ Li (qv 6) (qv 7))) (qC (Ew (AV CP (qv 5) Aj) (qO (CA (CJ (qA BZ (qA (BN G__law_term (qA (qv 6) (qA (qv 1) (qA (BJ Nr (qv 2) Aj) (qA (qv 3) (qA (qv 4) qN)))))) qN))))) qE) (qC (Ew (AV CP (qv 5) Aj) (qC (Cv 10 nN (BN G__law_term (qA (qv 8) (qA Aj (qA (BJ Nr (qv 2) Aj) (qA (qv 3) (qA (qv 4) qN))))))) (qO (CA (CJ (qA BZ (qA (qv 10) (qA (BN (hW T) (qA (qv 9) (qA (qv 1) (qA (qv 3) (qA (qv 4) qN))))) (qA (BN (hW T) (qA (BJ Li (qv 9) Aj) (qA (qv 1) (qA (qv 3) (qA (qv 4) qN))))) qN)))))))) qE) (EW (Ew ((UF (AV CP (qv 5) Aj) (UH (AV LJ (qv 1) Aj)))).pt (qC (Cv 11 nN (BJ HN Aj (BJ Hv (qv 6) (BJ Nr (qv 1) Aj)))) (qC (Cv 12 nN (BN G__law_term (qA (qv 8) (qA (BJ Nr (qv 1) (qv 11)) (qA (BJ Nr (qv 2) Aj) (qA (qv 3) (qA (qv 4) qN))))))) (qO (CA (CJ (qA BZ (qA (qv 12) (qA (BN G__law_term (qA (qv 9) (qA (qv 11) (qA (BJ Nr (qv 2) Aj) (qA (qv 3) (qA (qv 4) qN)))))) qN)))))))) qE) (EW (gW (caps:=[("want",1)]) (i:=13) nN rfl rfl ⟨rfl,by rfl,by rfl,by rfl,rfl,by rfl,by nofun⟩ rfl (J3 (qv 3)) (λ_ _ _ _ _ _=>(qv 0)) (λ_ _ _ _ _ _=>(AV ZD 'b' (qv 1)))) (EW (Ew ((UF (AV CP (qv 5) Aj) (UH (AV (aC (J0 hr)) (qv 13) (Ib qN))))).pt (qC (Cv 14 nN (Bf Ii (qv 13) (BJ Hv (qv 8) (B6 K6 T.B.len B8 (qA (qv 13) qN))))) (qO (CA (CJ (qA BZ (qA (CJ (qA (Bf Ii (Ib (qA BZ (qA BZ qN))) (BJ Hv (qv 6) Aj)) (qA (Bf BE (qv 14) Aj) qN))) (qA (BJ Hv (qv 9) (BJ HN (BJ Nr (Bf BE (qv 14) Aj) (qv 1)) Aj)) (qA (qv 1) qN)))))))) qE) (EW (Ew ((UF (AV OG (qv 5) (CJ (qA Aj (qA Aj qN))) (by with_unfolding_all rfl)) (UH (AV CP (qv 1) Aj)))).pt (qC (Cv 15 nN (Bf BE (Bf Ii (qv 3) (BJ Hv (qv 6) (B6 K6 T.B.len B8 (qA (qv 3) qN)))) Aj)) (qC (Cv 12 nN (BN G__law_term (qA (qv 8) (qA (qv 15) (qA (BJ Nr (qv 2) Aj) (qA (qv 3) (qA (qv 4) qN))))))) (qO (CA (CJ (qA (Bf Ii (Ib (qA BZ (qA BZ qN))) (BJ Nr (qv 5) Aj)) (qA (qv 12) (qA (BN G__law_term (qA (qv 9) (qA (qv 15) (qA (BJ Nr (qv 2) Aj) (qA (qv 3) (qA (qv 4) qN)))))) qN)))))))) qE) (qC (Cv 16 nN (Bf Ii (Ib (ZZ (.str (.str (.str (.str (.str .nil))))))) (BJ Hv (qv 6) Aj))) (qC (Cv 12 nN (BN G__law_term (qA (qv 8) (qA (qv 1) (qA (BJ Nr (qv 2) Aj) (qA (qv 3) (qA (qv 4) qN))))))) (qO (CA (CJ (qA (qv 16) (qA (qv 12) (qA (BN G__law_term (qA (qv 9) (qA (qv 1) (qA (BJ Nr (qv 2) Aj) (qA (qv 3) (qA (qv 4) qN)))))) qN)))))))))))))))))))),?_⟩;cases n with
 |zero=>
  dsimp![↓W8,mM]
  exact⟨⟨by decide,by decide⟩,bs,es,rfl,rfl,sp,⟨w1,w64⟩,m0,λt ht=>Dn.of (q t (ht.tm _))⟩
 |succ n=>
 cases hq n rfl
 dsimp![↓PP,↓PN,↓Ro,↓Tq,↓W8]
 have R0:0<=m / 12:=by ext
 refine⟨⟨by decide,by decide⟩,Cj (λc=>absurd c (by ext)) λ_=>Cj (λc=>⟨bs,es,rfl,rfl,sp,⟨w1,w64⟩,R0,λt ht=>Dn.of (q t (ht.tm _))⟩) λc3=>?_⟩
 obtain⟨bv,hbv,b0,b1⟩:∃bv:Int,F3 [D.int 1,D.int 31,D.int 9973] ((n+1:Nat):Int)=some (.int bv)/\0<bv/\bv<1073741824:=by
  rcases(by omega:n=0\/n=1)with rfl|rfl
  .exact⟨31,rfl,by decide,by decide⟩
  .exact⟨9973,rfl,by decide,by decide⟩
 rw[hbv,BS];grind;refine⟨b0,?_⟩;obtain⟨kd,hkd⟩:∃kd,kd=m%12:=⟨_,rfl⟩;obtain⟨rs,hrs⟩:∃rs,rs=m / 12:=⟨_,rfl⟩;obtain⟨on,hon⟩:∃on,on=m / 12%bv:=⟨_,rfl⟩;have on0:0<=on:=by rw[hon];exact Co _ (by ext)
 rw[<- hkd,<- hon,<- hrs];rw[<- hrs]at R0;have k12:3<=kd/\kd<12:=by ext
 refine⟨λτ M'=>M'=M/\∃tw:Int,0<=tw/\τ=[some (.int m),some (.int wd),some (.int ((n+1:Nat):Int)),some (.lst (bs.map E8)),some (.lst (es.map GY)),some (.int kd),some (.int rs),some (.int bv),some (.int on),some (.int tw),none,none,none,none,none,none,none],?_,?_⟩
 .simp![↓Vo]
  exact⟨⟨b0,b1⟩,_,T1 R0 (by ext),rfl⟩
 intro τ M';ext1⟨e1',tw,tw0,e2'⟩;simp![↓aB,↓Z9,↓W8,↓W9,Gr]
 have en:D.int (((n+1:Nat):Int)-1)=D.int (n:Int):=by congr 1;ext
 have nn:n<=2:=by ext
 have lkb:∀b∈bs,(PH bs).lookup b.1=some b.2.1:=λb hb=>bF (ws:=PH bs) (p:=(b.1,b.2.1)) (by unfold PH;rw[BB];exact sp.nb) (Ao.mpr ⟨b,hb,rfl⟩);have pp:=rb n;have bin:∀{o:GA} {t u:Tm} {x y:Int},QH bs es x n t->QH bs es y n u->(Tm.bin o t u).over [x,y]=some wd->QH bs es wd (n+1) (.bin o t u):=λ{o t u x y} h1 h2 h=>⟨wc h1.w h2.w h,by have:=h1.d;have:=h2.d;simp only[Tm.deep];ext,by have:=h1.p;have:=h2.p;simp only[Tm.parts,pN];ext⟩;refine Cj (λc=>⟨en,nn,bs,es,rfl,rfl,sp,ne,⟨w1,w64⟩,R0,λt ht=>Dn.of (q (.not t) ⟨oS ht.w rfl rfl,by have:=ht.d;simp only[Tm.deep];ext,by have:=ht.p;simp only[Tm.parts,pN];ext⟩)⟩) λc3'=>Cj (λc=>⟨en,nn,bs,es,rfl,rfl,sp,ne,on0,λt ht=>⟨bs,es,rfl,rfl,sp,⟨w1,w64⟩,tw0,λt1 h1=>⟨⟨by decide,by decide⟩,bs,es,rfl,rfl,sp,⟨w1,w64⟩,by ext,λt2 h2=>Dn.of (q (.pick t t1 t2) ⟨Ρ ht.w h1.1 h2.1,by have:=ht.d;have:=h1.2.1;have:=h2.2.1;simp only[Tm.deep];ext,by have:=ht.p;have:=h1.2.2;have:=h2.2.2;simp only[Tm.parts,pN];ext⟩)⟩⟩⟩) λc4=>?_;refine⟨λτ M2=>M2=M'/\τ=[some (.int m),some (.int wd),some (.int ((n+1:Nat):Int)),some (.lst (bs.map E8)),some (.lst (es.map GY)),some (.int kd),some (.int rs),some (.int bv),some (.int on),some (.int tw),none,none,none,none,none,none,none],?_,?_⟩
 .simp![↓VS,↓eQ,↓Xa,↓aA,↓VQ,↓W9]
  refine Cj (λ_=>Cj (λc=>?_) λ_=>trivial) λ_=>trivial;have r0:=Co rs (by omega:wd-1≠0);have r1:=BP rs (by omega:0<wd-1);refine⟨by ext,en,nn,bs,es,rfl,rfl,sp,ne,⟨by ext,by ext⟩,on0,λt ht=>⟨en,nn,bs,es,rfl,rfl,sp,ne,⟨by ext,by ext⟩,tw0,λt1 h1=>Dn.of (q (.bin .join t t1) (bin ht h1 ?_))⟩⟩;simp only[Tm.over,ZK,ZJ,ZI,yO,yP,yQ];rw[if_pos (by ext)];congr 1
  ext
 rintro τ M2 ⟨rfl,rfl⟩;refine⟨λτ M'=>M'=M2/\τ=[some (.int m),some (.int wd),some (.int ((n+1:Nat):Int)),some (.lst (bs.map E8)),some (.lst (es.map GY)),some (.int kd),some (.int rs),some (.int bv),some (.int on),some (.int tw),none,none,none,some (.lst ((bs.filter λb=>decide (wd<=b.2.1)).map E8)),none,none,none],?_,?_⟩
 .simp![↓uP]
  have lb:=sp.b.1;refine Ev.filt (ks:=bs) (g:=E8) (f:=E8) (pr:=λb=>decide (wd<=b.2.1)) (GS (by ext)) trivial (λd hd R r=>?_) (λd hd R r=>?_) ?_
  .simp only[E8];walk_at "cap";exact r
  .walk_at "cap";exact r
  exact⟨rfl,rfl⟩
 rintro τ M3 ⟨rfl,rfl⟩;refine⟨λτ M'=>M'=M3/\τ=[some (.int m),some (.int wd),some (.int ((n+1:Nat):Int)),some (.lst (bs.map E8)),some (.lst (es.map GY)),some (.int kd),some (.int rs),some (.int bv),some (.int on),some (.int tw),none,none,none,some (.lst ((bs.filter λb=>decide (wd<=b.2.1)).map E8)),none,none,none],?_,?_⟩
 .simp![↓nX,↓uZ,↓uQ,↓VQ,↓Tq,↓Xm,gH]
  refine Cj (λ_=>Cj (λc=>?_) λ_=>trivial) λ_=>trivial;have fne:bs.filter (λb=>decide (wd<=b.2.1))≠[]:=λe=>by rw[e]at c;cases c
  have fp:=Py.mpr fne;refine⟨by ext,?_⟩;obtain⟨d,hd,md⟩:=fX (xs:=(bs.filter λb=>decide (wd<=b.2.1)).map E8) (i:=on%((bs.filter λb=>decide (wd<=b.2.1)).length:Int)) (Co _ (by ext)) (by rw[Ab];exact BP _ (by ext));rw[hd,BS];obtain⟨b,mb,rfl⟩:=Ao.mp md;obtain⟨mb,eb⟩:=Bl.mp mb;have eb:=of_decide_eq_true eb;have lk:=lkb b mb;have p0:=Co tw (by omega:b.2.1-wd+1≠0);have p1:=BP tw (by omega:0<b.2.1-wd+1);have big:4<=pN (n+1):=by simp only[pN];ext
  have ov:∀u:Tm,(Tm.part u (tw%(b.2.1-wd+1)) wd).over [b.2.1]=some wd:=λu=>by simp only[Tm.over,ZK,ZJ,ZI,yO,yP,yQ];rw[if_pos (by ext)]
  rcases(by omega:rs%2=0\/rs%2=1)with h|h<;>rw[h]
  .rw[show F3 [D.str "box",D.str "late"] (0:Int)=some (D.str "box")from rfl,BS];simp only[E8];grind;exact⟨by ext,Dn.of (q (.part (.box b.1) (tw%(b.2.1-wd+1)) wd) ⟨oS (.box lk) rfl (ov _),by simp only[Tm.deep];ext,by simp only[Tm.parts];ext⟩)⟩
  .rw[show F3 [D.str "box",D.str "late"] (1:Int)=some (D.str "late")from rfl,BS];simp only[E8];grind;exact⟨by ext,Dn.of (q (.part (.late b.1) (tw%(b.2.1-wd+1)) wd) ⟨oS (.late lk) rfl (ov _),by simp only[Tm.deep];ext,by simp only[Tm.parts];ext⟩)⟩
 rintro τ M4 ⟨rfl,rfl⟩;refine⟨λτ M'=>M'=M4/\τ=[some (.int m),some (.int wd),some (.int ((n+1:Nat):Int)),some (.lst (bs.map E8)),some (.lst (es.map GY)),some (.int kd),some (.int rs),some (.int bv),some (.int on),some (.int tw),none,none,none,some (.lst ((bs.filter λb=>decide (wd<=b.2.1)).map E8)),none,none,none],?_,?_⟩
 .simp![↓Xa,↓aA,↓vA,↓uR,↓VQ,↓Tq,↓yA,↓vK,↓LH,↓nV,↓W9,EV,WN,Fk,WM,JB,Jz,IW]
  refine Cj (λc78=>Cj (λc1=>?_) λ_=>trivial) λ_=>trivial;have bp:=Py.mpr ne;refine⟨by ext,?_⟩;obtain⟨d,hd,md⟩:=fX (xs:=bs.map E8) (i:=rs%(bs.length:Int)) (Co _ (by ext)) (by rw[Ab];exact BP _ (by ext));rw[hd,BS];obtain⟨b,mb,rfl⟩:=Ao.mp md;obtain⟨_,b1,b64⟩:=sp.b.2 b mb;simp only[E8];grind;refine⟨en,nn,bs,es,rfl,rfl,sp,ne,⟨b1,b64⟩,on0,λt ht=>?_⟩;rcases c78 with h|h
  .rw[show kd-7=0 by ext,show F3 [D.str "less",D.str "same"] (0:Int)=some (D.str "less")from rfl,BS];exact⟨en,nn,bs,es,rfl,rfl,sp,ne,⟨b1,b64⟩,tw0,λt1 h1=>Dn.of (q (.bin .less t t1) (bin ht h1 (by simp[Tm.over,c1])))⟩
  .rw[show kd-7=1 by ext,show F3 [D.str "less",D.str "same"] (1:Int)=some (D.str "same")from rfl,BS];exact⟨en,nn,bs,es,rfl,rfl,sp,ne,⟨b1,b64⟩,tw0,λt1 h1=>Dn.of (q (.bin .same t t1) (bin ht h1 (by simp[Tm.over,c1])))⟩
 rintro τ M5 ⟨rfl,rfl⟩;simp![↓Xa,↓aA,↓Ro,↓Tq,↓W9,vB,uS]
 obtain⟨o,ho,oj⟩:∃o:GA,F3 [D.str "and",D.str "or",D.str "xor",D.str "plus",D.str "minus"] (rs%5)=some (.str o.nm)/\∀t u:Tm,(Tm.bin o t u).over [wd,wd]=some wd:=by
  rcases(by omega:rs%5=0\/rs%5=1\/rs%5=2\/rs%5=3\/rs%5=4)with h|h|h|h|h<;>rw[h]
  .exact⟨.and,rfl,λt u=>by simp[Tm.over]⟩
  .exact⟨.or,rfl,λt u=>by simp[Tm.over]⟩
  .exact⟨.xor,rfl,λt u=>by simp[Tm.over]⟩
  .exact⟨.plus,rfl,λt u=>by simp[Tm.over]⟩
  .exact⟨.minus,rfl,λt u=>by simp[Tm.over]⟩
 rw[ho,BS];exact⟨en,nn,bs,es,rfl,rfl,sp,ne,⟨w1,w64⟩,on0,λt ht=>⟨en,nn,bs,es,rfl,rfl,sp,ne,⟨w1,w64⟩,tw0,λt1 h1=>Dn.of (q (.bin o t t1) (bin ht h1 (oj t t1)))⟩⟩
theorem rM (T:Tv P w K mg base):∀n:Nat,Od T T.x85 (n+2) (bK n)
 |0=>gj T (XE λ_ _ _ h=>h) λm h=>by cases h
 |n+1=>gj T (rM T n) λm h=>by cases h;rfl
def fH {j:Nat}{t:Hw}{E:Kq}{τ:GK}{M:Mp}{p:Av}{xs:List D}(h:τ[j]? = some (some (.ref p)))(hM:M p=some (.lst xs)):PJ j t E τ M=t E (τ.set j (some (.lst xs))) (J2 M p):=by
 unfold PJ;rw[h,Ma,BS,RK,hM]
structure iO (bs:List (Str×Int×Int))(es:List (Str×Int))(k:Nat)(wr:List (Str×Tm)):Prop where
 s:List.Sublist (wr.map (·.1)) ((bs.take k).map (·.1))
 t:∀u∈wr,∃b∈bs,u.1=b.1/\QH bs es b.2.1 2 u.2
abbrev ZeH:DL:=λds M Q=>Js ds λx1 x2 x3=>Fb x1 λm=>∃(bs:List (Str×Int×Int)) (es:List (Str×Int)),x2=.lst (bs.map E8)/\x3=.lst (es.map GY)/\Sp bs es/\bs≠[]/\0<=m/\∀wr:List (Str×Tm),wr.length<=bs.length->(wr.map (·.1)).Nodup->(∀u∈wr,∃b∈bs,u.1=b.1/\QH bs es b.2.1 2 u.2)->Q (.lst (wr.map KU)) M
def ZeV:Od T T.x86 5 ZeH:=by
 refine CB.p3 T.x86.d.F ["number", "boxes", "doors", "which", "last_first", "writes", "row"] λx1 x2 x3 M Q hr nN h1=>?_;obtain⟨m,e1',bs,es,e2',e3',sp,ne,m0,q⟩:_:=C3 h1;refine⟨_,qC (Cv 3 nN (BJ Hv (qv 0) Aj)) (qC (Cv 4 nN (BJ Hv (BJ Li (qv 0) Aj) Aj)) (qC (Cv 0 nN (BJ Li (qv 0) Aj)) (EW (Cv 5 nN (Jg qN)) (EW (LL AK rfl (J3 (qv 1)) (NO (i:=6) nN rfl (Cd rfl)) (EW (Ew (AV CP (BJ Hv (qv 3) Aj) Aj) (qO (Fh (Kn AN A8 A7 QF (qv 5) (qA (CJ (qA (Bf BE (qv 6) Aj) (qA (BN (rM T 2) (qA (BJ Hv (qv 0) (BJ To Aj Aj)) (qA (Bf BE (qv 6) Aj) (qA Aj (qA (qv 1) (qA (qv 2) qN)))))) qN))) qN)))) qE) (qC (Cv 3 nN (BJ Li (qv 3) Aj)) (qO (Cv 0 nN (BJ Li (qv 0) (BJ To Aj Aj))))))) (EW (Ew (AV CP (qv 4) Aj) (qO (Fh (Vw AN PySem.F.slot_list_reverse PySem.F.type_list_reverse Zm2 (qv 5)))) qE) (UG 5 (qO (CA (qv 5))))))))),?_⟩
 dsimp![↓Vp]
 have lb:=sp.b.1;refine⟨⟨by decide,by decide⟩,⟨by decide,by decide⟩,?_⟩;refine⟨λτ M'=>∃p,M p=none/\M'=put M p (.lst [])/\τ=[some (.int (m / 16)),some (.lst (bs.map E8)),some (.lst (es.map GY)),some (.int (m%8)),some (.int (m / 8%2)),some (.ref p),none],?_,?_⟩
 .grind;exact λp hp=>⟨p,hp,rfl,rfl⟩
 intro τ M1;ext1⟨p,hp,e1',e2'⟩;refine⟨λτ M'=>∃(wr:List (Str×Tm)) (v0 v3 v6:Option D),M'=put M p (.lst (wr.map KU))/\τ=[v0,some (.lst (bs.map E8)),some (.lst (es.map GY)),v3,some (.int (m / 8%2)),some (.ref p),v6]/\iO bs es bs.length wr,?_,?_⟩
 .grind;refine⟨λk τ M'=>∃(wr:List (Str×Tm)) (m' w':Int) (v6:Option D),M'=put M p (.lst (wr.map KU))/\τ=[some (.int m'),some (.lst (bs.map E8)),some (.lst (es.map GY)),some (.int w'),some (.int (m / 8%2)),some (.ref p),v6]/\0<=m'/\iO bs es k wr,⟨[],m / 16,m%8,none,rfl,rfl,by ext,⟨by simp,λu hu=>nomatch hu⟩⟩,λ_ _ _ _=>trivial,?_,?_⟩
  .intro k d τ M' hd;ext1⟨wr,m',w',v6,e1',e2',m0',ws⟩;obtain⟨b,hb,rfl⟩:=Nt hd;have mb:=AB hb;obtain⟨_,b1,b64⟩:=sp.b.2 b mb;have hk:k<bs.length:=(Ah.mp hb).1;have et:(bs.take (k+1)).map (·.1)=(bs.take k).map (·.1)++[b.1]:=by rw[Bb,hb,AJ];rfl
   have lw:wr.length<=k:=by
    have:=ws.s.length_le;rw[Ab,Ab,A3]at this;ext
   have keep:iO bs es (k+1) wr:=⟨by rw[et];exact ws.s.trans (List.sublist_append_left ..),ws.t⟩;refine⟨λτ M''=>∃wr':List (Str×Tm),M''=put M p (.lst (wr'.map KU))/\τ=[some (.int m'),some (.lst (bs.map E8)),some (.lst (es.map GY)),some (.int w'),some (.int (m / 8%2)),some (.ref p),some (E8 b)]/\iO bs es (k+1) wr',?_,?_⟩
   .simp only[E8];simp![↓VR,↓W9,Eh,mL,Bo,Ba]
    refine Cj (λc=>?_) λc=>⟨wr,rfl,keep⟩;refine⟨⟨by decide,by decide,by decide⟩,bs,es,rfl,rfl,sp,ne,⟨b1,b64⟩,by ext,λt ht=>⟨BU (by ext),wr++[(b.1,t)],by rw[AJ];rfl,⟨?_,λu hu=>?_⟩⟩⟩
    .rw[et,AJ];exact ws.s.append (dC _)
    .rcases AQ.mp hu with hu|hu
     .exact ws.t u hu
     .rw[AD.mp hu];exact⟨b,mb,rfl,ht⟩
   .intro τ M'';ext1⟨wr',e1',e2',ws'⟩;simp![↓Vp,Eh]
    exact⟨⟨by decide,by decide⟩,⟨by decide,by decide,by decide⟩,⟨by decide,by decide⟩,wr',_,_,_,rfl,rfl,by ext,ws'⟩
  .intro τ M';ext1⟨wr,m',w',v6,e1',e2',m0',ws⟩;rw[Ab]at ws;exact⟨wr,_,_,v6,rfl,rfl,ws⟩
 intro τ M2;ext1⟨wr,v0,v3,v6,e1',e2',ws⟩;have sub:=ws.s;rw[Bm]at sub;have nd:(wr.map (·.1)).Nodup:=GP sub sp.nb
 have lw:wr.length<=bs.length:=by
  have:=sub.length_le;rw[Ab,Ab]at this;exact this
 refine⟨λτ M'=>∃(wr':List (Str×Tm)),M'=put M p (.lst (wr'.map KU))/\τ=[v0,some (.lst (bs.map E8)),some (.lst (es.map GY)),v3,some (.int (m / 8%2)),some (.ref p),v6]/\(wr'=wr\/wr'=wr.reverse),?_,?_⟩
 .simp![↓nR]
  refine Cj (λc=>?_) λc=>⟨wr,rfl,.inl rfl⟩;unfold Y6;rw[RK];refine⟨rfl,?_⟩;rw[Di];exact⟨wr.reverse,by rw[QG,Sc],.inr rfl⟩
 intro τ M3;ext1⟨wr',e1',e2',hw⟩;rw[fH rfl Di,UK hp];simp only[Ba,Bo];grind;rcases hw with rfl|rfl
 .exact Dn.of (q _ lw nd ws.t)
 .refine Dn.of (q _ (by rw[Px];exact lw) ?_ λu hu=>ws.t u (R9.mp hu));rw[Sc];exact List.pairwise_reverse.mpr (nd.imp λh e=>h e.symm)
def QH.two (h:QH bs es wd n t)(hn:n<=2):QH bs es wd 2 t:=by
 have h1:=h.d;have h2:=h.p;rcases(by omega:n=0\/n=1\/n=2)with rfl|rfl|rfl
 .exact⟨h.w,by ext,A4 h2 'g'⟩
 .exact⟨h.w,by ext,A4 h2 'g'⟩
 .exact h
abbrev zE:DL:=λds M Q=>ZA ds λx1 x2 x3 x4 x5=>Fb x1 λm=>Fb x2 λwd=>∃n:Nat,x3=.int n/\n<=2/\∃(bs:List (Str×Int×Int)) (es:List (Str×Int)),x4=.lst (bs.map E8)/\x5=.lst (es.map GY)/\Sp bs es/\bs≠[]/\(1<=wd/\wd<=64)/\0<=m/\∀t,QH bs es wd 2 t->Q t.D M
def Β:Od T T.x85 4 zE:=by
 have key:∀ds M Q,zE ds M Q->∃n,n<=2/\bK n ds M Q:=λds M Q h=>by
  obtain⟨x1,x2,x3,x4,x5,e1',h1⟩:_:=Vz h;obtain⟨m,rfl,h2⟩:=C3 h1;obtain⟨wd,e1',n,e2',n2,bs,es,h3,h4,h5,h6,h7,h8,q⟩:_:=C3 h2;exact⟨n,n2,rfl,n2,bs,es,h3,h4,h5,h6,h7,h8,λt ht=>q t (ht.two n2)⟩
 have F:∀n,n<=2->Od T T.x85 4 (bK n):=λn hn=>(rM (P:=P) (base:=base) T n).mono (by ext);refine⟨λvs H Q E ⟨Z,ds,M,Q2,hr,a,h,k⟩=>?_,λA outer s H args us vs Q E e1 e2 e3 e4 ⟨Z,ds,M,Q2,hr,a,h,k⟩=>?_⟩
 .obtain⟨n,hn,h⟩:=key ds M Q2 h;exact(F n hn).len vs H Q E ⟨Z,ds,M,Q2,hr,a,h,k⟩
 .obtain⟨n,hn,h⟩:=key ds M Q2 h;exact(F n hn).run A outer s H args us vs Q E e1 e2 e3 e4 ⟨Z,ds,M,Q2,hr,a,h,k⟩
structure WkX (wk:Wk):Prop where
 ok:wk.Ok
 nb:1<=wk.bs.length/\wk.bs.length<=3
 nd:wk.ds.length<=2
def rX (ms:List Int)(nm:Int)(bs:List (Str×Int×Int)):Prop:=∀(i:Nat) b m,bs[i]? = some b->ms[i]? = some m->Lm nm i b.1/\(1<=b.2.1/\b.2.1<=m/\m<=64)/\0<=b.2.2/\b.2.2<2^b.2.1.toNat
def rV (ms:List Int)(nm:Int)(es:List (Str×Int)):Prop:=∀(i:Nat) d m,es[i]? = some d->ms[3+i]? = some m->Lm nm (3+i) d.1/\1<=d.2/\d.2<=m/\m<=64
noncomputable def Fw (r:Str×Tm×List (Str×Tm)):D:=.tup [.str r.1,r.2.1.D,.lst (r.2.2.map KU)]
abbrev ZeI:DL:=λds M Q=>Vy ds λx1 x2 x3 x4=>∃(ns ms:List Int),x1=.lst (ns.map D.int)/\x2=.tup (ms.map D.int)/\(∃md:Int,x3=.int md/\0<=md/\md<=2)/\x4=.int 4/\(ms.length=5/\∀m∈ms,1<=m/\m<=64)/\∀wk,WkX wk->Q (.tup [.lst (wk.bs.map E8),.lst (wk.ds.map GY),.lst (wk.rs.map Fw)]) M
def jg (bs:List (Str×Int×Int))(es:List (Str×Int))(nm:Int)(rs:List (Str×Tm×List (Str×Tm))):Prop:=∀(i:Nat) r,rs[i]? = some r->Lm nm (5+i) r.1/\RU (PH bs) es r.2.1 r.2.2
def nJ {α:Type}{nm:Int}(f:α->Str)(c:Nat){xs:List α}(hl:c+xs.length<=9)(h:∀(i:Nat) x,xs[i]? = some x->Lm nm ((c+i:Nat):Int) (f x)):(xs.map f).Nodup:=by
 unfold FD;rw[List.pairwise_iff_getElem];intro i j hi hj hij e;rw[Ab]at hi hj;have g1:=h i _ (Af hi);have g2:=h j _ (Af hj);rw[JT,JT]at e;rw[<- e]at g2;have:=Lm.inj g1 g2 (by ext) (by ext);ext
theorem Sp.take {bs:List (Str×Int×Int)}{es:List (Str×Int)}(h:Sp bs es)(i j:Nat):Sp (bs.take i) (es.take j):=by
 refine⟨⟨by rw[A3];have:=h.b.1;ext,λb hb=>h.b.2 b (GO hb)⟩,⟨by rw[A3];have:=h.d.1;ext,λb hb=>h.d.2 b (GO hb)⟩,?_,?_⟩
 .exact GP ((Kj i bs).map _) h.nb
 .exact GP ((Kj j es).map _) h.nd
def qd {ms:List Int}{nm:Int}{bs:List (Str×Int×Int)}{es:List (Str×Int)}(m5:ms.length=5)(hb:rX ms nm bs)(he:rV ms nm es)(b3:bs.length<=3)(e2:es.length<=2):Sp bs es:=by
 have gb:∀(i:Nat) b,bs[i]? = some b->∃m,ms[i]? = some m:=λi b h=>⟨_,Af (by have:=(Ah.mp h).1;ext)⟩;have ge:∀(i:Nat) b,es[i]? = some b->∃m,ms[3+i]? = some m:=λi b h=>⟨_,Af (by have:=(Ah.mp h).1;ext)⟩;refine⟨⟨by ext,λb mb=>?_⟩,⟨by ext,λd md=>?_⟩,nJ (α:=Str×Int×Int) (nm:=nm) (·.1) 0 (by ext) λi x hx=>?_,nJ (α:=Str×Int) (nm:=nm) (·.1) 3 (by ext) λi x hx=>?_⟩
 .obtain⟨i,hi⟩:=Bt.mp mb;obtain⟨m,hm⟩:=gb i b hi;obtain⟨h1,h2,_⟩:=hb i b m hi hm;exact⟨h1.ok,by ext,by ext⟩
 .obtain⟨i,hi⟩:=Bt.mp md;obtain⟨m,hm⟩:=ge i d hi;obtain⟨h1,h2,h3,h4⟩:=he i d m hi hm;exact⟨h1.ok,by ext,by ext⟩
 .obtain⟨m,hm⟩:=gb i x hx;have:=(hb i x m hx hm).1;rw[ES];exact this
 .obtain⟨m,hm⟩:=ge i x hx;have:=(he i x m hx hm).1;rw[show((3+i:Nat):Int)=3+(i:Int) by ext];exact this
def Wd.mono2 {bs bs' es es':List (Str×Int)}{t:Tm}{n:Int}(hb:∀z n,bs.lookup z=some n->bs'.lookup z=some n)(he:∀z n,es.lookup z=some n->es'.lookup z=some n)(h:Wd bs es t n):Wd bs' es' t n:=by
 induction h with
 |num a=>exact .num a
 |box a=>exact .box (hb _ _ a)
 |late a=>exact .late (hb _ _ a)
 |door a=>exact .door (he _ _ a)
 |over _ ho ih=>exact .over ih ho
theorem pE:∀k (ws:List (Str×Int)) (z:Str) (n:Int),(ws.take k).lookup z=some n->ws.lookup z=some n
 |0,_,_,_,h=>by rw[L6]at h;cases h
 |k+1,[],_,_,h=>by cases h
 |k+1,(y,a)::ws,z,n,h=>by
  rw[Pw,BL]at h;rw[BL];cases e:z == y with
  |true=>rw[e]at h;exact h
  |false=>rw[e]at h;exact pE k ws z n h
def ZeW:Od T T.x87 6 ZeI:=by
 refine CB.p4 T.x87.d.F ["script", "mods", "most_doors", "most_rules", "head", "sizes", "firsts", "naming", "boxes", "k", "width", "doors", "rules", "many", "number", "guard", "writes"] λx1 x2 x3 x4 M Q hr nN h=>?_;obtain⟨ns,ms,e1',e2',⟨md,e3',md0,md2⟩,e4',⟨m5,hms⟩,q⟩:_:=h;refine⟨_,qC (Cv 4 nN (BJ Hv (BN (Wb T) (qA (qv 0) (qA Aj qN))) (BJ To Aj Aj))) (qC (Cv 5 nN (BJ Hv (BN (Wb T) (qA (qv 0) (qA Aj qN))) (BJ To Aj Aj))) (qC (Cv 6 nN (BJ Hv (BN (Wb T) (qA (qv 0) (qA Aj qN))) (BJ To Aj Aj))) (EW (Cv 7 nN (BJ Hv (BN (Wb T) (qA (qv 0) (qA Aj qN))) (BJ To Aj Aj))) (qC (Cv 8 nN (Jg qN)) (EW (LL AK rfl (gV T.B.range (qA (BJ HN Aj (BJ Hv (qv 4) Aj)) qN)) (NO (i:=9) nN rfl (Cd rfl)) (qC (Cv 10 nN (BJ HN Aj (BJ Hv (qv 5) (Bf BE (qv 1) (qv 9))))) (qC (Fh (Kn AN A8 A7 QF (qv 8) (qA (CJ (qA (BN (rK T) (qA (qv 7) (qA (qv 9) qN))) (qA (qv 10) (qA (BJ Hv (qv 6) (BJ W5 Aj (qv 10))) qN)))) qN))) (qC (Cv 5 nN (BJ Li (qv 5) Aj)) (qO (Cv 6 nN (BJ Li (qv 6) Aj))))))) (UG 8 (qC (Cv 11 nN (Jg qN)) (EW (LL AK rfl (gV T.B.range (qA (BJ Hv (BJ Li (qv 4) Aj) (BJ HN (qv 2) Aj)) qN)) (NO (i:=9) nN rfl (Cd rfl)) (qC (Fh (Kn AN A8 A7 QF (qv 11) (qA (CJ (qA (BN (rK T) (qA (qv 7) (qA (BJ HN Aj (qv 9)) qN))) (qA (BJ HN Aj (BJ Hv (qv 5) (Bf BE (qv 1) (BJ HN Aj (qv 9))))) qN))) qN))) (qO (Cv 5 nN (BJ Li (qv 5) Aj))))) (UG 11 (qC (Cv 12 nN (Jg qN)) (EW (Cv 13 nN (BJ HN Aj (BJ Hv (BJ Li (qv 4) Aj) (qv 3)))) (EW (LL AK rfl (gV T.B.range (qA (qv 13) qN)) (NO (i:=9) nN rfl (Cd rfl)) (EW (Cv 14 nN (BJ Hv (BN (Wb T) (qA (qv 0) (qA (BJ HN Aj (BJ VO Aj (qv 9))) qN))) (BJ To Aj Aj))) (EW (Cv 15 nN (BN (Β T) (qA (qv 14) (qA Aj (qA (Bf Ii (Ib (ZZ (.int (.int (.int (.int .nil)))))) (BJ Nr (qv 13) Aj)) (qA (Jf aX (qv 8) Xv (UM Aj)) (qA (Jf aX (qv 11) Xv (UM Aj)) qN))))))) (EW (Cv 16 nN (BN (ZeV T) (qA (BJ Hv (BN (Wb T) (qA (qv 0) (qA (BJ HN Aj (BJ VO Aj (qv 9))) qN))) (BJ To Aj Aj)) (qA (qv 8) (qA (qv 11) qN))))) (qO (Fh (Kn AN A8 A7 QF (qv 12) (qA (CJ (qA (BN (rK T) (qA (qv 7) (qA (BJ HN Aj (qv 9)) qN))) (qA (qv 15) (qA (qv 16) qN)))) qN)))))))) (UG 12 (qO (CA (CJ (qA (qv 8) (qA (qv 11) (qA (qv 12) qN))))))))))))))))))),?_⟩
 dsimp![↓Xx,Gr,Eh]
 intro z0;refine⟨⟨by decide,by decide,by decide⟩,λz1=>⟨⟨by decide,by decide,by decide⟩,λz2=>⟨⟨by decide,by decide,by decide⟩,?_⟩⟩⟩;obtain⟨hd,ehd,hd0⟩:∃hd:Int,hd=z0%1000000/\0<=hd:=⟨_,rfl,by ext⟩;obtain⟨sz,esz,sz0⟩:∃sz:Int,sz=z1%1000000000000/\0<=sz:=⟨_,rfl,by ext⟩;obtain⟨fr,efr,fr0⟩:∃fr:Int,fr=z2%10000000000000000000000000000000000000000/\0<=fr:=⟨_,rfl,by ext⟩;rw[<- ehd,<- esz,<- efr];refine⟨λτ M'=>M'=M/\∃nm:Int,(0<=nm/\nm<10^9)/\τ=[some (.lst (ns.map D.int)),some (.tup (ms.map D.int)),some (.int md),some (.int 4),some (.int hd),some (.int sz),some (.int fr),some (.int nm),none,none,none,none,none,none,none,none,none],?_,?_⟩
 .simp![↓PP,↓Xx,Gr,Eh]
  exact λz=>⟨⟨by decide,by decide,by decide⟩,_,⟨by ext,by ext⟩,rfl⟩
 intro τ M1;ext1⟨e1',nm,nb,e2'⟩;simp![↓PN]
 intro p hp;refine⟨λτ M'=>∃(bs:List (Str×Int×Int)) (sz fr:Int) (v9 v10:Option D),M'=put M1 p (.lst (bs.map E8))/\0<=sz/\(1<=bs.length/\bs.length<=3)/\rX ms nm bs/\τ=[some (.lst (ns.map D.int)),some (.tup (ms.map D.int)),some (.int md),some (.int 4),some (.int hd),some (.int sz),some (.int fr),some (.int nm),some (.ref p),v9,v10,none,none,none,none,none,none],?_,?_⟩
 .simp![↓gD,DI]
  refine⟨by ext,λk τ M'=>∃(bs:List (Str×Int×Int)) (sz fr:Int) (v9 v10:Option D),M'=put M1 p (.lst (bs.map E8))/\0<=sz/\0<=fr/\bs.length=k/\rX ms nm bs/\τ=[some (.lst (ns.map D.int)),some (.tup (ms.map D.int)),some (.int md),some (.int 4),some (.int hd),some (.int sz),some (.int fr),some (.int nm),some (.ref p),v9,v10,none,none,none,none,none,none],⟨[],sz,fr,none,none,rfl,sz0,fr0,rfl,(λi b m h=>by simp at h),rfl⟩,λ_ _ _ _=>trivial,?_,?_⟩
  .intro k d τ M' hd';ext1⟨bs,sz,fr,v9,v10,e1',sz0,fr0,hl,hb,e2'⟩;obtain⟨hk,rfl⟩:=aW hd';have hk3:k<3:=by ext
   obtain⟨mk,hmk⟩:∃mk,ms[k]? = some mk:=⟨_,Af (by ext)⟩;obtain⟨sS,mk64⟩:=hms mk (AB hmk);simp![↓Vq,↓aB,↓Z9]
   rw[Yi,Pk (show(ms.map D.int)[k]? = some (.int mk) by rw[AI,hmk];rfl),BS];simp![↓VR]
   have w0:=Co sz (by omega:mk≠0);have w1:=BP sz (by omega:0<mk);have hp0:=Up (1+sz%mk).toNat
   refine⟨by ext,⟨nb.1,nb.2,by ext,by ext⟩,λz hz=>⟨⟨by ext,by ext,by decide⟩,by ext,BU (by ext),⟨by decide,by decide⟩,⟨by decide,by decide⟩,bs++[(z,1+sz%mk,fr%(1*2^(1+sz%mk).toNat))],_,_,_,_,by rw[AJ];rfl,by ext,by ext,by rw[Aq,hl];rfl,λi b m hi hm=>?_,rfl⟩⟩;rcases Ku i bs.length with h|h|h
   .rw[C9 h]at hi;exact hb i b m hi hm
   .subst h;rw[Cr (AL _)]at hi;simp at hi;rw[<- hl]at hmk hz;rw[hmk]at hm;cases hm;rw[<- hi]
    exact ⟨hz,⟨by show 1<=1+sz%mk;ext,by show 1+sz%mk<=mk;ext,by ext⟩,Co _ (by ext),by
     exact BP _ hp0⟩
   .rw[BA (by simp;ext)]at hi;cases hi
  .intro τ M';ext1⟨bs,sz,fr,v9,v10,e1',sz0,fr0,hl,hb,e2'⟩;rw[Xy]at hl;exact⟨bs,sz,fr,v9,v10,rfl,sz0,⟨by ext,by ext⟩,hb,rfl⟩
 intro τ M2;ext1⟨bs,sz,fr,v9,v10,e1',sz0,⟨b1,b3⟩,hb,e2'⟩;rw[fH rfl Di,UK hp];simp only[Ba,Bo];simp![↓eQ]
 intro p hp;refine⟨λτ M'=>∃(es:List (Str×Int)) (sz:Int) (v9:Option D),M'=put M1 p (.lst (es.map GY))/\es.length<=2/\rV ms nm es/\τ=[some (.lst (ns.map D.int)),some (.tup (ms.map D.int)),some (.int md),some (.int 4),some (.int hd),some (.int sz),some (.int fr),some (.int nm),some (.lst (bs.map E8)),v9,v10,some (.ref p),none,none,none,none,none],?_,?_⟩
 .simp![↓gD,DI]
  have q0:=Co (hd / 3) (by omega:md+1≠0);have q1:=BP (hd / 3) (by omega:0<md+1);refine⟨⟨by decide,by decide⟩,by ext,⟨by ext,by ext⟩,λk τ M'=>∃(es:List (Str×Int)) (sz:Int) (v9:Option D),M'=put M1 p (.lst (es.map GY))/\0<=sz/\es.length=k/\rV ms nm es/\τ=[some (.lst (ns.map D.int)),some (.tup (ms.map D.int)),some (.int md),some (.int 4),some (.int hd),some (.int sz),some (.int fr),some (.int nm),some (.lst (bs.map E8)),v9,v10,some (.ref p),none,none,none,none,none],⟨[],sz,v9,rfl,sz0,rfl,(λi b m h=>by simp at h),rfl⟩,λ_ _ _ _=>trivial,?_,?_⟩
  .intro k d τ M' hd';ext1⟨es,sz,v9,e1',sz0,hl,he,e2'⟩;obtain⟨hk,rfl⟩:=aW hd';have hk2:k<2:=by ext
   obtain⟨mk,hmk⟩:∃mk,ms[3+k]? = some mk:=⟨_,Af (by ext)⟩;obtain⟨sS,mk64⟩:=hms mk (AB hmk);simp![↓Vq,↓VS]
   rw[show(3:Int)+(0+(k:Int))=((3+k:Nat):Int) by ext,Pk (show(ms.map D.int)[3+k]? = some (.int mk) by rw[AI,hmk];rfl)];simp only[BS];simp![↓VR]
   have w0:=Co sz (by omega:mk≠0);have w1:=BP sz (by omega:0<mk);refine⟨⟨nb.1,nb.2,by ext,by ext⟩,λz hz=>⟨by ext,BU (by ext),⟨by decide,by decide⟩,es++[(z,1+sz%mk)],_,_,by rw[AJ];rfl,by ext,by rw[Aq,hl];rfl,λi b m hi hm=>?_,rfl⟩⟩;rcases Ku i es.length with h|h|h
   .rw[C9 h]at hi;exact he i b m hi hm
   .subst h;rw[Cr (AL _)]at hi;simp at hi;rw[<- hl]at hmk hz;rw[hmk]at hm;cases hm;rw[<- hi];exact⟨by rw[show(3:Int)+(es.length:Int)=((3+es.length:Nat):Int) by ext];exact hz,by show 1<=1+sz%mk;ext,by show 1+sz%mk<=mk;ext,by ext⟩
   .rw[BA (by simp;ext)]at hi;cases hi
  .intro τ M';ext1⟨es,sz,v9,e1',sz0,hl,he,e2'⟩;rw[Xy]at hl;exact⟨es,sz,v9,rfl,by ext,he,rfl⟩
 intro τ M3;ext1⟨es,sz,v9,e1',e2,he,e2'⟩;rw[fH rfl Di,UK hp];simp only[Ba,Bo];simp![↓aA]
 intro p hp;have sp:=qd m5 hb he b3 e2;have sp2:=sp.take 2 1;have bne:bs≠[]:=λe=>by rw[e]at b1;cases b1
 have bne2:bs.take 2≠[]:=λe=>by
  have:=congrArg DC e;rw[A3,Fq]at this;ext
 refine⟨λτ M'=>M'=put M1 p (.lst [])/\∃mn:Int,(1<=mn/\mn<=4)/\τ=[some (.lst (ns.map D.int)),some (.tup (ms.map D.int)),some (.int md),some (.int 4),some (.int hd),some (.int sz),some (.int fr),some (.int nm),some (.lst (bs.map E8)),v9,v10,some (.lst (es.map GY)),some (.ref p),some (.int mn),none,none,none],?_,?_⟩
 .simp![↓uP]
  exact⟨⟨by decide,by decide⟩,_,⟨by ext,by ext⟩,rfl⟩
 intro τ M4;ext1⟨e1',mn,⟨mn1,mn4⟩,e2'⟩;refine⟨λτ M'=>∃(rs:List (Str×Tm×List (Str×Tm))) (v9 v14 v15 v16:Option D),M'=put M1 p (.lst (rs.map Fw))/\rs.length<=4/\jg bs es nm rs/\τ=[some (.lst (ns.map D.int)),some (.tup (ms.map D.int)),some (.int md),some (.int 4),some (.int hd),some (.int sz),some (.int fr),some (.int nm),some (.lst (bs.map E8)),v9,v10,some (.lst (es.map GY)),some (.ref p),some (.int mn),v14,v15,v16],?_,?_⟩
 .simp![↓nX,↓gD,DI]
  refine⟨by ext,λk τ M'=>∃(rs:List (Str×Tm×List (Str×Tm))) (v9 v14 v15 v16:Option D),M'=put M1 p (.lst (rs.map Fw))/\rs.length=k/\jg bs es nm rs/\τ=[some (.lst (ns.map D.int)),some (.tup (ms.map D.int)),some (.int md),some (.int 4),some (.int hd),some (.int sz),some (.int fr),some (.int nm),some (.lst (bs.map E8)),v9,v10,some (.lst (es.map GY)),some (.ref p),some (.int mn),v14,v15,v16],⟨[],v9,none,none,none,rfl,rfl,(λi r h=>by simp at h),rfl⟩,λ_ _ _ _=>trivial,?_,?_⟩
  .intro k d τ M' hd';ext1⟨rs,v9,v14,v15,v16,e1',hl,hrs,e2'⟩;obtain⟨hk,rfl⟩:=aW hd';have hk4:k<4:=by ext
   refine⟨λτ M'=>M'=put M1 p (.lst (rs.map Fw))/\∃nu:Int,0<=nu/\τ=[some (.lst (ns.map D.int)),some (.tup (ms.map D.int)),some (.int md),some (.int 4),some (.int hd),some (.int sz),some (.int fr),some (.int nm),some (.lst (bs.map E8)),some (.int (0+(k:Int))),v10,some (.lst (es.map GY)),some (.ref p),some (.int mn),some (.int nu),v15,v16],?_,?_⟩
   .simp![↓uQ,↓Xx,Eh,Bo,Ba]
    exact⟨aN 'g' (by ext),by ext,λz=>⟨⟨by decide,by decide,by decide⟩,_,by ext,rfl⟩⟩
   intro τ M5;ext1⟨e1',nu,nu0,e2'⟩;refine⟨λτ M'=>M'=put M1 p (.lst (rs.map Fw))/\∃t:Tm,QH (bs.take 2) (es.take 1) 1 2 t/\τ=[some (.lst (ns.map D.int)),some (.tup (ms.map D.int)),some (.int md),some (.int 4),some (.int hd),some (.int sz),some (.int fr),some (.int nm),some (.lst (bs.map E8)),some (.int (0+(k:Int))),v10,some (.lst (es.map GY)),some (.ref p),some (.int mn),some (.int nu),some t.D,v16],?_,?_⟩
   .simp![↓VS,↓nX,↓uZ,↓uR,↓Ro,↓Tq,↓aZ,↓Xp,↓PM,↓eS,↓W9,Gr]
    obtain⟨dp,hdp,dp2⟩:∃dp:Nat,F3 [D.int 2,D.int 2,D.int 2,D.int 1] (mn-1)=some (.int dp)/\dp<=2:=by
     rcases(by omega:mn=1\/mn=2\/mn=3\/mn=4)with h|h|h|h<;>rw[h]
     .exact⟨2,rfl,by decide⟩
     .exact⟨2,rfl,by decide⟩
     .exact⟨2,rfl,by decide⟩
     .exact⟨1,rfl,by decide⟩
    rw[hdp,BS];exact⟨dp,rfl,dp2,bs.take 2,es.take 1,by rw[L3.cutD_toI _ 'g',<- Lu];rfl,by rw[L3.cutD_toI _ 'g',<- Lu];rfl,sp2,bne2,nu0,λt ht=>⟨t,ht,rfl⟩⟩
   intro τ M6;ext1⟨e1',t,ht,e2'⟩;refine⟨λτ M'=>M'=put M1 p (.lst (rs.map Fw))/\∃wr:List (Str×Tm),RU (PH bs) es t wr/\τ=[some (.lst (ns.map D.int)),some (.tup (ms.map D.int)),some (.int md),some (.int 4),some (.int hd),some (.int sz),some (.int fr),some (.int nm),some (.lst (bs.map E8)),some (.int (0+(k:Int))),v10,some (.lst (es.map GY)),some (.ref p),some (.int mn),some (.int nu),some t.D,some (.lst (wr.map KU))],?_,?_⟩
   .simp![↓VS,↓Xx,Eh,uS]
    refine⟨aN 'g' (by ext),by ext,λz=>⟨⟨by decide,by decide,by decide⟩,bs,es,rfl,rfl,sp,bne,by ext,λwr hwl hwn hwt=>⟨wr,⟨?_,by ext,λu hu=>?_,hwn⟩,rfl⟩⟩⟩
    .refine⟨⟨A4 ht.p 'g',A4 ht.d 'g'⟩,Wd.mono2 (λz n h=>?_) (λz n h=>pE _ _ z n h) ht.w⟩;refine pE 2 _ z n ?_;unfold PH at h ⊢;rw[<- Lu];exact h
    .obtain⟨b,mb,e,hu'⟩:=hwt u hu;rw[e];exact⟨b.2.1,bF (ws:=PH bs) (p:=(b.1,b.2.1)) (by unfold PH;rw[BB];exact sp.nb) (Ao.mpr ⟨b,mb,rfl⟩),⟨A4 hu'.p 'g',A4 hu'.d 'g'⟩,hu'.w⟩
   intro τ M7;ext1⟨e1',wr,hwr,e2'⟩;simp![↓Xa,↓vA,↓VR,vB]
   refine⟨⟨nb.1,nb.2,by ext,by ext⟩,λz hz=>⟨BU (by ext),rs++[(z,t,wr)],_,_,_,_,by rw[AJ];rfl,by rw[Aq,hl];rfl,λi r hi=>?_,rfl⟩⟩;rcases Ku i rs.length with h|h|h
   .rw[C9 h]at hi;exact hrs i r hi
   .subst h;rw[Cr (AL _)]at hi;simp at hi;rw[<- hi];rw[Yi,<- hl]at hz;exact⟨hz,hwr⟩
   .rw[BA (by simp;ext)]at hi;cases hi
  .intro τ M';ext1⟨rs,v9,v14,v15,v16,e1',hl,hrs,e2'⟩;rw[Xy]at hl;exact⟨rs,v9,v14,v15,v16,rfl,by ext,hrs,rfl⟩
 intro τ M8;ext1⟨rs,v9,v14,v15,v16,e1',r4,hrs,e2'⟩;rw[fH rfl Di,UK hp];simp only[Ba,Bo];simp![↓VS,↓Xa]
 have gb:∀(i:Nat) b,bs[i]? = some b->∃m,ms[i]? = some m:=λi b h=>⟨_,Af (by have:=(Ah.mp h).1;ext)⟩;have ge:∀(i:Nat) b,es[i]? = some b->∃m,ms[3+i]? = some m:=λi b h=>⟨_,Af (by have:=(Ah.mp h).1;ext)⟩;refine Dn.of (q ⟨bs,es,rs⟩ ⟨⟨⟨sp.b.1,λb mb=>?_⟩,sp.d,⟨by show rs.length<=8;ext,λr mr=>?_⟩,?_⟩,⟨b1,b3⟩,e2⟩)
 .obtain⟨i,hi⟩:=Bt.mp mb;obtain⟨m,hm⟩:=gb i b hi;obtain⟨h1,h2,h3,h4⟩:=hb i b m hi hm;exact⟨h1.ok,by ext,by ext,h3,h4⟩
 .obtain⟨i,hi⟩:=Bt.mp mr;obtain⟨h1,h2⟩:=hrs i r hi;exact⟨h1.ok,h2⟩
 .show(bs.map (·.1)++es.map (·.1)++rs.map (·.1)).Nodup
  have ix:∀x∈bs.map (·.1),∃i:Nat,i<3/\Lm nm i x:=λx hx=>by
   obtain⟨b,mb,rfl⟩:=Ao.mp hx;obtain⟨i,hi⟩:=Bt.mp mb;obtain⟨m,hm⟩:=gb i b hi;exact⟨i,by have:=(Ah.mp hi).1;ext,(hb i b m hi hm).1⟩
  have iy:∀x∈es.map (·.1),∃i:Nat,(3<=i/\i<5)/\Lm nm i x:=λx hx=>by
   obtain⟨b,mb,rfl⟩:=Ao.mp hx;obtain⟨i,hi⟩:=Bt.mp mb;obtain⟨m,hm⟩:=ge i b hi;exact⟨3+i,by have:=(Ah.mp hi).1;ext,by have:=(he i b m hi hm).1;rw[show((3+i:Nat):Int)=3+(i:Int) by ext];exact this⟩
  have iz:∀x∈rs.map (·.1),∃i:Nat,(5<=i/\i<9)/\Lm nm i x:=λx hx=>by
   obtain⟨r,mr,rfl⟩:=Ao.mp hx;obtain⟨i,hi⟩:=Bt.mp mr;exact⟨5+i,by have:=(Ah.mp hi).1;ext,by have:=(hrs i r hi).1;rw[show((5+i:Nat):Int)=5+(i:Int) by ext];exact this⟩
  rw[El,El];refine⟨⟨sp.nb,sp.nd,λx hx y hy e=>?_⟩,nJ (α:=Str×Tm×List (Str×Tm)) (nm:=nm) (·.1) 5 (by ext) (λi r hi=>by have:=(hrs i r hi).1;rw[show((5+i:Nat):Int)=5+(i:Int) by ext];exact this),λx hx y hy e=>?_⟩
  .subst e;obtain⟨i,hi,h1⟩:=ix x hx;obtain⟨j,hj,h2⟩:=iy x hy;have:=Lm.inj h1 h2 (by ext) (by ext);ext
  .subst e;obtain⟨j,hj,h2⟩:=iz x hy;rcases AQ.mp hx with hx|hx
   .obtain⟨i,hi,h1⟩:=ix x hx;have:=Lm.inj h1 h2 (by ext) (by ext);ext
   .obtain⟨i,hi,h1⟩:=iy x hx;have:=Lm.inj h1 h2 (by ext) (by ext);ext
def yt (h:Bg M (.ref p)=some xs):HK M (.ref p)=some xs:=h
def Zm1 (ls:List Str)(j:Nat):(ls.eraseIdx j).map D.str=(ls.map D.str).eraseIdx j:=by
 induction ls generalizing j with
 |nil=>rfl
 |cons x r ih=>cases j with
  |zero=>rfl
  |succ j=>simp[ih]
abbrev Zg0:DL:=λds M Q=>FW ds λx y=>Fb x λn=>∃rs:List (Str×Tm×List (Str×Tm)),y=.lst (rs.map Fw)/\rs.length<=8/\0<=n/\∀zs:List Str,zs.Perm (rs.map (·.1))->Q (.lst (zs.map D.str)) M
def Zgn:Od T T.x88 1 Zg0:=by
 refine CB.p2 T.x88.d.F ["number", "rules", "left", "order", "at"] λx y M Q hr nN h1=>?_;obtain⟨n,e1',rs,e2',hl,n0,q⟩:_:=C3 h1;clear h1;refine⟨_,qC (wv (caps:=[]) (i:=2) nN rfl rfl ⟨rfl,by rfl,by rfl,by rfl,rfl,by rfl,by nofun⟩ rfl (J3 (qv 1)) (λ_ _ _ _ _ _=>'b')) (qC (Cv 3 nN (Jg qN)) (EW (Tw AK (AV (aC (J0 hr)) (qv 2) (Ib qN)) (qC (Cv 4 nN (BJ Hv (qv 0) (B6 K6 T.B.len B8 (qA (qv 2) qN)))) (qC (Cv 0 nN (BJ Li (qv 0) (B6 K6 T.B.len B8 (qA (qv 2) qN)))) (qO (Fh (Kn AN A8 A7 QF (qv 3) (qA (Kn AN MR MQ pi (qv 2) (qA (qv 4) qN)) qN))))))) (UG 3 (qO (CA (qv 3)))))),?_⟩
 dsimp![↓vI]
 refine Ev.of (f:=λr=>D.str r.1) (GS (by ext)) trivial (λr hr R h=>?_) ?_
 .simp only[Fw];walk_at "cap";exact h
 intro p hp p1 hp1;have ne:p≠p1:=λe=>by rw[e,Di]at hp1;cases hp1
 have hM1:M p1=none:=by rw[DJ (Bk ne)]at hp1;exact hp1
 generalize D.lst (rs.map Fw)=Y;refine⟨λτ M'=>∃zs:List Str,(zs.Perm (rs.map (·.1))/\Sub M M'/\M' p1=some (.lst (zs.map D.str)))/\∃a b,τ=[a,some Y,some (.ref p),some (.ref p1),b],?_,?_⟩
 .refine⟨λk τ M'=>∃(n:Int) (ls os:List Str),(0<=n/\ls.length=k/\(os++ls).Perm (rs.map (·.1))/\Sub M M'/\M' p=some (.lst (ls.map D.str))/\M' p1=some (.lst (os.map D.str)))/\∃b,τ=[some (.int n),some Y,some (.ref p),some (.ref p1),b],⟨_,n,rs.map (·.1),[],⟨n0,rfl,by rw[Hl],(Sub.put hp).puts hM1,by rw[DJ ne,Di,BB];rfl,Di⟩,none,rfl⟩,?_⟩;intro k τ M' hI';refine Am λkk'=>?_;obtain⟨n,ls,os,⟨n0,lk,pm,sb,h1,h2⟩,b,e1'⟩:=hI';refine kk' ?_;clear kk';subst e1';have ll:=pm.length_eq;rw[Aq,Ab]at ll;simp![↓sj,↓Vp,↓Tq,↓rz,gH]
  rw[mC h1,BS];refine Cj (λc=>?_) λc=>?_
  .have lp:0<ls.length:=by
    cases ls with
    |nil=>cases c
    |cons x r=>exact NV _
   have b0:=Co n (show(ls.length:Int)≠0 by ext);have b1:=BP n (show(0:Int)<ls.length by ext);obtain⟨j,hj⟩:=Int.eq_ofNat_of_zero_le b0;have jl:j<ls.length:=by ext
   rw[yt (mC h1),BS,BS,h1,si,Ab,hj];refine⟨by ext,⟨by ext,by ext⟩,Jb h2,Jb h1,j,.str ls[j],rfl,by ext,by rw[AI,Af jl];rfl,?_⟩;rw[Xh (by rw[DJ (Bk ne)];exact h2)];refine⟨BU (by rw[Ab];ext),ls.length-1,by ext,n / ls.length,ls.eraseIdx j,os++[ls[j]],⟨T1 n0 (by ext),by rw[GB jl],?_,(sb.puts hp).puts hM1,by rw[DJ ne,Di,<- Zm1],by rw[Di,AJ];rfl⟩,_,rfl⟩;rw[Bv];exact((K0 ls j jl).append_left os).trans pm
  .have e:ls=[]:=by
    cases ls with
    |nil=>rfl
    |cons x r=>exact absurd rfl c
   subst e;rw[Cc]at pm;exact⟨os,⟨pm,sb,h2⟩,_,_,rfl⟩
 intro τ M';ext1⟨zs,⟨pm,sb,hz⟩,a,b,e1'⟩;rw[oQ (p:=p1) rfl hz];simp only[Ba,Bo];grind;refine RJ (λx o e=>?_) (q zs pm);have nx:x≠p1:=λc=>by rw[c,hM1]at e;cases e
 rw[Jl nx];exact sb x o e
noncomputable def Tm.items:Tm->List (L3.D×Option Tm)
 |.num w n=>[(.int w,none),(.int n,none)]
 |.box x | .late x | .door x=>[(.str x,none)]
 |.not t=>[(t.D,some t)]
 |.bin _ t u=>[(t.D,some t),(u.D,some u)]
 |.pick c t u=>[(c.D,some c),(t.D,some t),(u.D,some u)]
 |.part t lo many=>[(t.D,some t),(.int lo,none),(.int many,none)]
noncomputable def Tm.head:Tm->Str
 |.num _ _=>"num" |.box _=>"box" |.late _=>"late" |.door _=>"door" |.not _=>"not" |.bin o _ _=>o.nm | .pick _ _ _=>"pick" |.part _ _ _=>"part"
def Tm.D_items (t:Tm):t.D=.tup (.str t.head::t.items.map (·.1)):=by cases t<;>rfl
noncomputable def Hu (form:Str)(i:L3.D×Option Tm):List Str:=match i.2 with
 |some u=>u.names form
 |none=>[]
noncomputable def B9 (form:Str):List (L3.D×Option Tm)->List Str
 |[]=>[]
 |i::r=>Hu form i++B9 form r
theorem bH (form:Str):∀a b,B9 form (a++b)=B9 form a++B9 form b
 |[],b=>rfl
 |i::r,b=>by rw[EU,B9,B9,bH form r b,Bv]
def ZiV {t:Tm}(h:¬t.head=form):t.names form=B9 form t.items:=by
 cases t<;>simp[Tm.names,Tm.leaves,Tm.items,B9,Hu,Tm.nameOf,Io,Tm.head]at h ⊢<;>(try (intro e;exact absurd e.symm h))
def Zkm {t:Tm}(h:Ik t.head):∃x,t.items=[(.str x,none)]/\t.names t.head=[x]:=by
 cases t with
 |box x | late x | door x=>exact⟨x,rfl,by simp[Tm.names,Tm.leaves,Tm.nameOf,Tm.head]⟩
 |num _ _=>exact absurd h (by unfold Ik;simp only[Tm.head];nofun)
 |not _=>exact absurd h (by unfold Ik;simp only[Tm.head];nofun)
 |pick _ _ _=>exact absurd h (by unfold Ik;simp only[Tm.head];nofun)
 |part _ _ _=>exact absurd h (by unfold Ik;simp only[Tm.head];nofun)
 |bin o _ _=>
  have:=GA.nm_ne (o:=o);rcases h with h|h|h
  .exact absurd h this.2.1
  .exact absurd h this.2.2.1
  .exact absurd h this.2.2.2.1
def Zmg {t u:Tm}(h:(d,some u)∈t.items):d=u.D/\u∈t.kids:=by
 cases t<;>simp[Tm.items,Tm.kids]at h ⊢
 .exact⟨by rw[h.1,h.2],h.2⟩
 .rcases h with h|h<;>exact⟨by rw[h.1,h.2],by simp[h.2]⟩
 .rcases h with h|h|h<;>exact⟨by rw[h.1,h.2],by simp[h.2]⟩
 .exact⟨by rw[h.1,h.2],h.2⟩
def Zkz {t:Tm}(h:(d,none)∈t.items):(∃i,d=.int i)\/∃x,d=.str x:=by
 cases t<;>simp[Tm.items]at h
 .rcases h with h|h<;>exact .inl ⟨_,h⟩
 .exact .inr ⟨_,h⟩
 .exact .inr ⟨_,h⟩
 .exact .inr ⟨_,h⟩
 .rcases h with h|h<;>exact .inl ⟨_,h⟩
def zh (d:L3.D)(ds:List L3.D):L3.cutD (d::ds) (some 1) none=ds:=by
 rw[ZkI _ 'g'];rfl
def ZlT (form:Str)(t:Tm):(t.names form).length<=t.parts:=A4 (D3 _ _) t.leaves_len
abbrev iF (n:Nat)(ds:List D)(M:Mp)(Q:Ef):Prop:=FW ds λx f=>Cw (Jc x) λt=>GG f λform=>t.deep<=n/\t.parts<=1000/\Ik form/\Q (.lst ((t.names form).map D.str)) M
def ZcU {n:Nat}(G__law_read:Od T T.x89 (n+3) (iF n)):Od T T.x89 (n+4) (iF (n+1)):=by
 refine CB.p2 T.x89.d.F ["term", "word", "found", "part"] λx f M Q hr nN h1=>?_;obtain⟨t,rfl,h2⟩:=OO h1;obtain⟨form,e1',hd,hp,hn,q⟩:_:=Ea h2;refine⟨_,qC (Ew (AV CP 'b' (qv 1)) (qO (CA (Ib (qA 'b' qN)))) qE) (qC (Cv 2 nN (Ib qN)) (EW (LL AK rfl (RN (Jf vD (qv 0) (UM Aj) Xv)) (NO (i:=3) nN rfl (Cd rfl)) (qO (Ew (GF (B6 (tV "tuple") T.B.isinstance cD (qA (qv 3) (qA (sP T.B.tuple I8) qN)))) (qO (Cv 2 nN (BJ oM (qv 2) (BN G__law_read (qA (qv 3) (qA (qv 1) qN)))))) qE))) (qO (CA (qv 2))))),?_⟩;rw[t.D_items]
 dsimp![↓Tq]
 by_cases hf:t.head=form
 .rw[if_pos hf];subst hf;obtain⟨x,e1,e2⟩:=Zkm hn;rw[e2]at q;rw[e1];simp only[AU,DB];grind;exact Dn.of q
 rw[if_neg hf];have hlen:=ZlT form t;rw[ZiV hf]at q hlen;refine⟨λτ M'=>M'=M/\∃v3,τ=[some (.tup (.str t.head::t.items.map (·.1))),some (.str form),some (.lst ((B9 form t.items).map D.str)),v3],?_,?_⟩
 .simp![↓aZ,↓Xp,↓PM,↓uW,not_false_eq_true,Y9,SG,false_and]
  rw[show L3.cutD (D.str t.head::t.items.map (·.1)) (some 1) none=t.items.map (·.1)from zh _ _];refine⟨λk τ M'=>M'=M/\∃v3,τ=[some (.tup (.str t.head::t.items.map (·.1))),some (.str form),some (.lst ((B9 form (t.items.take k)).map D.str)),v3],⟨rfl,none,rfl⟩,λ_ _ _ _=>trivial,?_,?_⟩
  .rintro k y τ M' hy ⟨rfl,v3,rfl⟩;obtain⟨i,hu,rfl⟩:=Nt hy;obtain⟨d,o⟩:=i;dsimp only at hy ⊢;have e1:t.items.take (k+1)=t.items.take k++[(d,o)]:=by rw[Bb,hu];rfl
   have hmem:=AB hu
   have e2:B9 form t.items=B9 form (t.items.take k)++Hu form (d,o)++B9 form (t.items.drop (k+1)):=by
    have:B9 form (t.items.take (k+1))=B9 form (t.items.take k)++Hu form (d,o):=by
     rw[e1,bH];simp[B9]
    rw[<- this,<- bH,Fx]
   rw[e2]at hlen;simp only[Aq]at hlen;cases o with
   |none=>
    have hd2:(∃i,d=.int i)\/∃x,d=.str x:=Zkz hmem
    have e3:B9 form (t.items.take (k+1))=B9 form (t.items.take k):=by
     rw[e1,bH];simp[B9,Hu]
    rcases hd2 with⟨i,rfl⟩|⟨x,rfl⟩
    .simp![↓Oz,↓eI,↓aJ,↓yC,↓ZeP]
     rw[e3];exact⟨_,rfl⟩
    .simp![↓Oz,↓eI,↓aJ,↓xc,↓ZeN]
     rw[e3];exact⟨_,rfl⟩
   |some u=>
    obtain⟨rfl,hku⟩:=Zmg hmem;have du:=Tm.deep_kid hku;have pu:=Tm.parts_of_kid hku;have hd3:=u.D_items
    have e3:B9 form (t.items.take (k+1))=B9 form (t.items.take k)++u.names form:=by
     rw[e1,bH];simp[B9,Hu]
    have isT:∀M2,NF M2 u.D=some "tuple":=λM2=>by rw[hd3];rfl
    simp![↓Oz,↓eI,↓aJ,LX]
    rw[isT];simp only[Hu]at hlen;simp![↓BS,↓Zdd]
    refine⟨by ext,by ext,hn,GS (by ext),some u.D,?_⟩;rw[e3,AJ]
  .rintro τ M' ⟨rfl,v3,rfl⟩;refine⟨rfl,v3,?_⟩;rw[Ab,Bm]
 .rintro τ M' ⟨rfl,v3,rfl⟩;grind;exact Dn.of q
theorem rL (T:Tv P w K mg base):∀n:Nat,Od T T.x89 (n+3) (iF n)
 |0=>by
  have no:∀ds M Q,¬iF 0 ds M Q:=λds M Q h=>by
   obtain⟨x,f,rfl,h1⟩:=LI h;obtain⟨t,rfl,h2⟩:=OO h1;obtain⟨form,e1',hd,hp,hn,q⟩:_:=Ea h2;have:=t.deep_pos;ext
  exact XE no
 |n+1=>ZcU T (rL T n)
def pV (f:Str)(g:Tm)(ts:List Tm)(t:Tm):De f g (ts++[t])=De f g ts++t.names f:=by simp[De]
theorem vP (h:OS zs g ts)(f:Str):∀k,(De f g (ts.take k)).length<=100*(k+1)
 |0=>by
  have:=(h.t g Aw).1.2;have l1:(g.names f).length<=g.leaves.length:=D3 _ _;have l2:=g.leaves_len;simp[De];ext
 |k+1=>by
  have ih:=vP h f k;rw[Bb];cases e:ts[k]? with
  |none=>simpa using A4 ih (by ext)
  |some t=>have:=(h.t t (Ay _ (AB e))).1.2;have l1:(t.names f).length<=t.leaves.length:=D3 _ _;have l2:=t.leaves_len;show(De f g (ts.take k++[t])).length<=_;rw[pV,Aq];ext
def zx (h:k∉AG.map (·.1)):HM AG k v=AG++[(k,v)]:=by
 unfold HM;rw[if_neg];intro e;obtain⟨x,hx,e⟩:=Dh.mp e;exact h (Ao.mpr ⟨x,hx,of_decide_eq_true e⟩)
def Ο (h:k∉f.map (·.1)):DA (f++[(k,v)]) k=some v:=by
 unfold DA;rw[List.find?_append,Fa.mpr λx hx e=>h (Ao.mpr ⟨x,hx,of_decide_eq_true e⟩)];simp
def yn (h:p≠q):put (put M q b) p a=put (put M p a) q b:=by
 funext x;unfold put;by_cases h1:x=p
 .rw[if_pos h1,if_neg (λe=>h (h1.symm.trans e)),if_pos h1]
 .rw[if_neg h1,if_neg h1]
abbrev Rl:=Str×Tm×List (Str×Tm)
noncomputable def Mt (r:Rl):List Str:=De "late" r.2.1 (r.2.2.map (·.2))
noncomputable def LU (nms zs:List Str)(ps:List (Str×Str))(r o:Rl):Bool:=(decide (nms.idxOf o.1<nms.idxOf r.1) && Uo ps o.1 r.1) || (decide (o.1∈QD zs r.1) && !((o.2.2.map (·.1)).filter λz=>decide (z∈Mt r)).isEmpty)
noncomputable def Qz (wk:Wk)(zs:List Str)(ps:List (Str×Str))(r:Rl):List Str:=(wk.rs.filter (LU wk.nms zs ps r)).map (·.1)
noncomputable def dY (wk:Wk)(zs:List Str)(ps:List (Str×Str)):List (Str×List Str):=wk.rs.map λr=>(r.1,Qz wk zs ps r)
abbrev Zg1:DL:=λds M Q=>Js ds λx y z=>∃(wk:Wk) (zs:List Str) (ps:List (Str×Str)),x=.lst (wk.rs.map Fw)/\y=.lst (zs.map D.str)/\z=.lst (ps.map NI)/\wk.Ok/\zs.Perm wk.nms/\ps.length<=100/\Q (.dic (Ic (dY wk zs ps))) M
def Zgo:Od T T.x90 16 Zg1:=by
 refine CB.p3 T.x90.d.F ["rules", "order", "pairs", "wanted", "row", "rule", "late", "pair", "ahead", "other", "writes", "urgent", "clashing_v"] λx y z M Q hr nN h=>?_;obtain⟨wk,zs,ps,e1',e2',e3',ok,pm,hl,q⟩:_:=h;have l8:=ok.r.1;have ll:zs.length<=8:=by rw[pm.length_eq,Ab];exact l8
 refine⟨_,qC (Cv 3 nN JG) (qC (yZ (caps:=[]) (i:=4) nN rfl rfl ⟨rfl,by rfl,by rfl,by rfl,rfl,by rfl,by nofun⟩ rfl (J3 (qv 0)) (λ_ _ _ _ _ _=>'b')) (EW (LL AK rfl (J3 (qv 0)) (NO (i:=5) nN rfl (Cd rfl)) (EW (aG (i:=6) nN rfl (Im rfl) (BN (rL T 12) (qA (Bf BE (qv 5) Aj) (qA BZ qN)))) (EW (LL AK rfl (J3 (Bf BE (qv 5) Aj)) (NO (i:=7) nN rfl (Cd rfl)) (qO (aG (i:=6) nN rfl (Im rfl) (BJ oM (qv 6) (BN (rL T 12) (qA (Bf BE (qv 7) Aj) (qA BZ qN))))))) (qC (Cv 8 nN (Jf aX (qv 1) Xv (UM (Kn AN GN GL (fS (Tf hr)) (qv 1) (qA (Bf BE (qv 5) Aj) qN))))) (qC (Xw (KL hr) (qv 3) (Bf BE (qv 5) Aj) (Jg qN) rfl) (EW (LL AK rfl (J3 (qv 0)) (NO (i:=9) nN rfl (Cd rfl)) (EW (gW (caps:=[("late",6)]) (i:=10) nN rfl rfl ⟨rfl,by rfl,by rfl,by rfl,rfl,by rfl,by nofun⟩ rfl (J3 (Bf BE (qv 9) Aj)) (λ_ _ _ _ _ _=>'b') (λ_ _ _ _ _ _=>(AV OG 'b' (qv 1) (by with_unfolding_all rfl)))) (EW (Cv 11 nN (JY Kz (Kn AN GN GL (fS (Tf hr)) (qv 4) (qA (Bf BE (qv 9) Aj) qN)) (Kn AN GN GL (fS (Tf hr)) (qv 4) (qA (Bf BE (qv 5) Aj) qN)))) (EW (Cv 12 nN (lV (JY (eU (J0 hr)) (CJ (qA (Bf BE (qv 9) Aj) (qA (Bf BE (qv 5) Aj) qN))) (qv 2) (by with_unfolding_all rfl)) (OB (JY (eU (J0 hr)) (CJ (qA (Bf BE (qv 5) Aj) (qA (Bf BE (qv 9) Aj) qN))) (qv 2) (by with_unfolding_all rfl))))) (qO (Ew ((W6 ((UF (GF (qv 11)) (UH (GF (qv 12))))).pt (aH ((UF (AV OG (Bf BE (qv 9) Aj) (qv 8) (by with_unfolding_all rfl)) (UH (AV (aC (J0 hr)) (qv 10) (Ib qN))))).pt))).pt (qO (Fh (Kn AN A8 A7 QF (FV (KL hr) (qv 3) (Bf BE (qv 5) Aj) (λ_ _=>rfl)) (qA (Bf BE (qv 9) Aj) qN)))) qE)))))) (wy 3 qE))))))) (qO (CA (KZ (qv 3)))))),?_⟩
 dsimp![↓Xk]
 intro p hp;refine Ev.of (f:=λr=>D.str r.1) (GS (by ext)) trivial (λr hr R h=>?_) ?_
 .simp only[Fw];walk_at "cap";exact h
 generalize eZ:D.lst (zs.map D.str)=Z1;generalize eP:D.lst (ps.map NI)=P1;generalize eR:D.lst (wk.rs.map Fw)=R1;generalize eN:D.lst (wk.rs.map λr=>D.str r.1)=N1;refine⟨λτ M'=>M'=put M p (.dic (Ic (dY wk zs ps)))/\∃a5 a6 a7 a8 a9 b0 b1 b2,τ=[some R1,some Z1,some P1,some (.ref p),some N1,a5,a6,a7,a8,a9,b0,b1,b2],?_,?_⟩
 .subst eR;grind;refine⟨λk τ M'=>M'=put M p (.dic (Ic ((wk.rs.take k).map λr=>(r.1,Qz wk zs ps r))))/\∃a5 a6 a7 a8 a9 b0 b1 b2,τ=[some (.lst (wk.rs.map Fw)),some Z1,some P1,some (.ref p),some N1,a5,a6,a7,a8,a9,b0,b1,b2],⟨rfl,none,none,none,none,none,none,none,none,rfl⟩,λ_ _ _ _=>trivial,?_,?_⟩
  .intro k y τ M' hy;ext1⟨e1',a5,a6,a7,a8,a9,b0,b1,b2,e2'⟩;obtain⟨r,hr1,rfl⟩:=Nt hy;have mr:=AB hr1;have rd:=ok.rd mr;have one:=rd.t;have rl:=vP rd "late";generalize eR:D.lst (wk.rs.map Fw)=R1;generalize eM:put M p (.dic (Ic ((wk.rs.take k).map λr=>(r.1,Qz wk zs ps r))))=M1;simp only[Fw];simp![↓kW]
   refine⟨λτ M2=>M2=M1/\τ=[some R1,some Z1,some P1,some (.ref p),some N1,some (Fw r),some (.lst ((r.2.1.names "late").map D.str)),a7,a8,a9,b0,b1,b2],?_,?_⟩
   .simp![LX]
    exact⟨(one _ Aw).1.1,A4 (one _ Aw).1.2 'g',.inr (.inl rfl),rfl⟩
   rintro τ M2 ⟨rfl,rfl⟩;refine⟨λτ M3=>M3=M2/\∃a7,τ=[some R1,some Z1,some P1,some (.ref p),some N1,some (Fw r),some (.lst ((Mt r).map D.str)),a7,a8,a9,b0,b1,b2],?_,?_⟩
   .simp only[Fw];grind;refine⟨λi τ M3=>M3=M2/\∃a7,τ=[some R1,some Z1,some P1,some (.ref p),some N1,some (Fw r),some (.lst ((De "late" r.2.1 ((r.2.2.map (·.2)).take i)).map D.str)),a7,a8,a9,b0,b1,b2],⟨rfl,a7,by simp[De,Fw]⟩,λ_ _ _ _=>trivial,?_,?_⟩
    .rintro i d τ M3 hd ⟨rfl,a7,rfl⟩;obtain⟨w0,hw0,rfl⟩:=Nt hd;have h1:(r.2.2.map (·.2))[i]? = some w0.2:=by rw[AI,hw0];rfl
     have hin:w0.2∈r.2.1::r.2.2.map (·.2):=Ay _ (AB h1);have hi:=(Ah.mp h1).1;have hl6:=rd.l;have r1:=rl i;have r2:=rl (i+1);have et:(r.2.2.map (·.2)).take (i+1)=(r.2.2.map (·.2)).take i++[w0.2]:=by rw[Bb,h1];rfl
     rw[et]at r2;rw[pV,Aq]at r2;simp only[KU];simp![↓kT,↓aJ,LX]
     refine⟨(one _ hin).1.1,A4 (one _ hin).1.2 'g',.inr (.inl rfl),GS (by first | ext | (simp;ext)),some (KU w0),?_⟩;rw[et,pV,AJ];rfl
    .rintro τ M3 ⟨rfl,a7,rfl⟩;rw[Ab,show r.2.2.length=(r.2.2.map (·.2)).length by rw[Ab],Bm];exact⟨rfl,a7,rfl⟩
   rintro τ M3 ⟨rfl,a7,rfl⟩;subst eZ;simp only[Fw];simp![↓PN,↓aZ,↓Xp,↓PM,↓Xl,↓eS,↓gS]
   rw[P6,BS,aO (pm.mem_iff.mpr (Ao.mpr ⟨r,mr,rfl⟩)),BS];intro q0 hq;have h3:M3 p=some (.dic (Ic ((wk.rs.take k).map λr=>(r.1,Qz wk zs ps r)))):=by rw[<- eM,Di]
   have ne:p≠q0:=λe=>by rw[<- e,h3]at hq;cases hq
   rw[DJ ne,h3];generalize ef:Ic ((wk.rs.take k).map λr=>(r.1,Qz wk zs ps r))=f at h3 ⊢;have fl:f.length<=8:=by rw[<- ef];unfold Ic;rw[Ab,Ab,A3];ext
   refine⟨BU (by ext),?_⟩
   have hfr:(FU r.1:Ck)∉f.map (·.1):=λh=>by
    rw[<- ef]at h;unfold Ic at h;rw[BB,BB]at h;obtain⟨r',h1,h2⟩:=Ao.mp h;have e2:r'.1=r.1:=EZ h2;obtain⟨i,hi⟩:=Bt.mp h1;rw[List.getElem?_take]at hi;split at hi
    .next hik=>
     have nd:=fL ok;rw[QV]at nd;have il:i<wk.nms.length:=by rw[Ab];exact(Ah.mp hi).1
     have:=(List.getElem?_inj il nd).mp (show wk.nms[i]? = wk.nms[k]? by unfold Wk.nms;rw[AI,AI,hi,hr1,FH,FH,e2]);ext
    .cases hi
   rw[zx hfr,yn ne,oG,show zs.take (zs.idxOf r.1)=QD zs r.1 from rfl];generalize eD:(MO.dic (f++[(.inr r.1,.ref q0)]))=d1;subst eR;generalize eA:D.lst ((QD zs r.1).map D.str)=A1;generalize eL:D.lst ((Mt r).map D.str)=L1;refine⟨λτ M4=>M4=put (put M3 p d1) q0 (.lst ((Qz wk zs ps r).map D.str))/\∃a9 b0 b1 b2,τ=[some (.lst (wk.rs.map Fw)),some (.lst (zs.map D.str)),some P1,some (.ref p),some N1,some (Fw r),some L1,a7,some A1,a9,b0,b1,b2],?_,?_⟩
   .grind;refine⟨λj τ M4=>M4=put (put M3 p d1) q0 (.lst ((((wk.rs.take j).filter (LU wk.nms zs ps r)).map (·.1)).map D.str))/\∃a9 b0 b1 b2,τ=[some (.lst (wk.rs.map Fw)),some (.lst (zs.map D.str)),some P1,some (.ref p),some N1,some (Fw r),some L1,a7,some A1,a9,b0,b1,b2],⟨rfl,a9,b0,b1,b2,rfl⟩,λ_ _ _ _=>trivial,?_,?_⟩
    .intro j y τ M4 hy;ext1⟨e1',a9,b0,b1,b2,e2'⟩;obtain⟨o,ho,rfl⟩:=Nt hy;have mo:=AB ho;have o6:=(ok.r.2 o mo).2.l;have hM:put (put M3 p d1) q0 (.lst ((((wk.rs.take j).filter (LU wk.nms zs ps r)).map (·.1)).map D.str)) q0=some (.lst ((((wk.rs.take j).filter (LU wk.nms zs ps r)).map (·.1)).map D.str)):=Di;have hP:put (put M3 p d1) q0 (.lst ((((wk.rs.take j).filter (LU wk.nms zs ps r)).map (·.1)).map D.str)) p=some d1:=by rw[DJ ne,Di]
     have hS:∀u,put (put (put M3 p d1) q0 (.lst ((((wk.rs.take j).filter (LU wk.nms zs ps r)).map (·.1)).map D.str))) q0 u=put (put M3 p d1) q0 u:=λu=>QG;generalize eM4:put (put M3 p d1) q0 (.lst ((((wk.rs.take j).filter (LU wk.nms zs ps r)).map (·.1)).map D.str))=M4 at hM hP hS ⊢;simp only[Fw];simp![↓Vq]
     refine⟨λτ M5=>M5=M4/\τ=[some (.lst (wk.rs.map Fw)),some (.lst (zs.map D.str)),some P1,some (.ref p),some N1,some (Fw r),some L1,a7,some A1,some (Fw o),some (.lst (((o.2.2.map (·.1)).filter λz=>decide (z∈Mt r)).map D.str)),b1,b2],?_,?_⟩
     .subst eL;simp![↓Z9]
      refine Ev.filt (f:=λw0=>D.str w0.1) (pr:=λw0=>decide (w0.1∈Mt r)) (GS (by ext)) trivial (λw0 hw R q1=>?_) (λw0 hw R q1=>?_) ⟨rfl,?_⟩
      .simp only[KU]
       simp_all![↓UI,↓LH,Nq,Np]
       exact q1
      .simp only[KU];walk_at "cap";exact q1
      .rw[SO,BB];rfl
     rintro τ M5 ⟨rfl,rfl⟩;refine⟨λτ M6=>M6=M5/\τ=[some (.lst (wk.rs.map Fw)),some (.lst (zs.map D.str)),some P1,some (.ref p),some N1,some (Fw r),some L1,a7,some A1,some (Fw o),some (.lst (((o.2.2.map (·.1)).filter λz=>decide (z∈Mt r)).map D.str)),some (.bl (decide (wk.nms.idxOf o.1<wk.nms.idxOf r.1))),b2],?_,?_⟩
     .subst eN;simp only[Fw];simp![↓eQ,↓gS]
      rw[show(wk.rs.map λr=>D.str r.1)=wk.nms.map D.str by unfold Wk.nms;rw[BB];rfl,P6,BS,aO (Ao.mpr ⟨o,mo,rfl⟩),BS,BS,aO (Ao.mpr ⟨r,mr,rfl⟩),BS];rw[show decide ((wk.nms.idxOf o.1:Int)<(wk.nms.idxOf r.1:Int))=decide (wk.nms.idxOf o.1<wk.nms.idxOf r.1)from decide_eq_decide.mpr Int.ofNat_lt]
     rintro τ M6 ⟨rfl,rfl⟩;refine⟨λτ M7=>M7=M6/\τ=[some (.lst (wk.rs.map Fw)),some (.lst (zs.map D.str)),some P1,some (.ref p),some N1,some (Fw r),some L1,a7,some A1,some (Fw o),some (.lst (((o.2.2.map (·.1)).filter λz=>decide (z∈Mt r)).map D.str)),some (.bl (decide (wk.nms.idxOf o.1<wk.nms.idxOf r.1))),some (.bl (Uo ps o.1 r.1))],?_,?_⟩
     .subst eP;simp only[Fw];simp![↓aA,↓nU]
      refine gL ?_;show if decide ((o.1,r.1)∈ps)=true then _ else _
      refine Cj (λc=>⟨rfl,?_⟩) λc=>gL ⟨rfl,?_⟩
      .rw[show Uo ps o.1 r.1=true from decide_eq_true (.inl (of_decide_eq_true c))]
      .rw[show Uo ps o.1 r.1=decide ((r.1,o.1)∈ps)from decide_eq_decide.mpr ⟨λh=>h.resolve_left (by simpa using c),.inr⟩]
     rintro τ M7 ⟨rfl,rfl⟩;subst eA;simp only[Fw];simp![↓aB,↓VS,↓Xa,↓VQ,↓Tq,↓Xm,↓UI,↓LH,gH,Nq,Np]
     have et:wk.rs.take (j+1)=wk.rs.take j++[o]:=by rw[Bb,ho];rfl
     have hj:=(Ah.mp ho).1;have sl:((((wk.rs.take j).filter (LU wk.nms zs ps r)).map (·.1)).map D.str).length<An:=BU (by rw[Ab,Ab];have:=CF (LU wk.nms zs ps r) (wk.rs.take j);rw[A3]at this;ext)
     have yes:∀{R:Prop},LU wk.nms zs ps r o=true->R->Cw (E6 M7 (.ref p)) λAG=>Cw (DA AG (.inr r.1)) λv=>NF M7 v=some "list"/\Hr v [.str o.1] M7 λx M1=>M1=put (put M3 p d1) q0 (.lst ((((wk.rs.take (j+1)).filter (LU wk.nms zs ps r)).map (·.1)).map D.str))/\R:=λhb h=>by
      rw[show E6 M7 (.ref p)=some (f++[(.inr r.1,.ref q0)]) by rw[<- eD]at hP;simp only[E6,hP],BS,Ο hfr,BS];refine⟨Jb hM,?_⟩;rw[Xh hM,hS];refine⟨sl,?_,h⟩;rw[et,C5,DR,if_pos hb,AJ,AJ];rfl
     have no:LU wk.nms zs ps r o=false->M7=put (put M3 p d1) q0 (.lst ((((wk.rs.take (j+1)).filter (LU wk.nms zs ps r)).map (·.1)).map D.str)):=λhb=>by
      rw[<- eM4,et,C5,DR,if_neg (by rw[hb];exact Ak),KO,Cc]
     have tl:(decide (wk.nms.idxOf o.1<wk.nms.idxOf r.1) && Uo ps o.1 r.1)=false->∀{A B:Prop},(LU wk.nms zs ps r o=true->A)->(LU wk.nms zs ps r o=false->B)->if o.1∈QD zs r.1 then if (((o.2.2.map (·.1)).filter λz=>decide (z∈Mt r)).map D.str).isEmpty=false then A else B else B:=λh A B a b=>by
      have eq1:LU wk.nms zs ps r o=(decide (o.1∈QD zs r.1) && !((o.2.2.map (·.1)).filter λz=>decide (z∈Mt r)).isEmpty):=by unfold LU;rw[h,Vb]
      rw[List.isEmpty_map];refine Cj (λc=>Cj (λd=>a ?_) λd=>b ?_) λc=>b ?_
      .rw[eq1,decide_eq_true c,d];rfl
      .rw[eq1,show List.isEmpty _=true by simpa using d,JA,DV]
      .rw[eq1,decide_eq_false c,DU]
     refine Cj (λc1=>Cj (λc2=>yes ?_ ⟨_,_,_,_,rfl⟩) λc2=>tl ?_ (λh=>yes h ⟨_,_,_,_,rfl⟩) λh=>⟨no h,_,_,_,_,rfl⟩) λc1=>tl ?_ (λh=>yes h ⟨_,_,_,_,rfl⟩) λh=>⟨no h,_,_,_,_,rfl⟩
     .unfold LU;rw[decide_eq_true c1,c2];rfl
     .rw[G8.mpr c2,DV]
     .rw[decide_eq_false c1,DU]
    .rintro τ M4 ⟨rfl,h⟩;rw[Ab,Bm];exact⟨rfl,h⟩
   intro τ M4;ext1⟨e1',a9,b0,b1,b2,e2'⟩;refine⟨p,q0,f,.inr r.1,(Qz wk zs ps r).map D.str,rfl,by rw[DJ ne,Di,eD],Di,?_⟩;refine⟨?_,some (Fw r),some L1,a7,some A1,a9,b0,b1,b2,rfl⟩;rw[UL (by rw[DJ (Bk ne)];exact hq),QG,<- eM,QG,Bb,hr1,AJ];rw[show Ic ((wk.rs.take k).map (λr=>(r.1,Qz wk zs ps r))++(some r).toList.map λr=>(r.1,Qz wk zs ps r))=f++[(.inr r.1,.lst ((Qz wk zs ps r).map D.str))] by rw[<- ef];unfold Ic;rw[AJ];rfl]
  .rintro τ M' ⟨rfl,h⟩;rw[Ab,Bm];exact⟨rfl,h⟩
 .intro τ M';ext1⟨e1',a5,a6,a7,a8,a9,b0,b1,b2,e2'⟩;simp![↓So]
  rw[Di];dsimp only;rw[UL hp];exact Dn.of q
noncomputable def Si (AG:List (Str×List Str))(c:List Str):D:=(QC AG c).head?.elim .non D.str
def wm (h:(AG.take k).filter (PY c)=[])(e:AG[k]? = some kv)(f:PY c kv=true):Si AG c=.str kv.1:=by
 have e1:AG=AG.take k++kv::AG.drop (k+1):=by
  obtain⟨hk,e⟩:=Ah.mp e;rw[<- e,<- EN hk,Fx]
 unfold Si QC;rw[e1,C5,h,DR,if_pos f];rfl
def υ (c:List Str)(l:List Str):((l.filter λo=>decide (o∉c)).map D.str).isEmpty=l.all λz=>decide (z∈c):=by
 induction l with
 |nil=>rfl
 |cons x l ih=>
  by_cases h:x∈c
  .rw[DR,if_neg (by simpa using h),ih,EV,decide_eq_true h,Jy]
  .rw[DR,if_pos (by simpa using h),EV,decide_eq_false h,DU];rfl
abbrev ZdB:DL:=λds M Q=>Js ds λx y z=>∃(rs:List (Str×Tm×List (Str×Tm))) (AG:List (Str×List Str)) (c:List Str),x=.lst (rs.map Fw)/\y=.dic (Ic AG)/\rs.map (·.1)=AG.map (·.1)/\iR AG/\Bg M z=some (c.map D.str)/\Q (Si AG c) M
def ja:Od T T.x91 1 ZdB:=by
 refine CB.p3 T.x91.d.F ["rules", "wanted", "come", "rule", "missing"] λx y z M Q hr nN h=>?_;obtain⟨rs,AG,c,e1',e2',en,hk,hz,q⟩:_:=h;refine⟨_,EW (LL AK rfl (J3 (qv 0)) (NO (i:=3) nN rfl (Cd rfl)) (EW (gW (caps:=[("come",2)]) (i:=4) nN rfl rfl ⟨rfl,by rfl,by rfl,by rfl,rfl,by rfl,by nofun⟩ rfl (J3 (FV (KL hr) (qv 1) (Bf BE (qv 3) Aj) (λ_ _=>rfl))) (λ_ _ _ _ _ _=>(qv 0)) (λ_ _ _ _ _ _=>(AV pQ (qv 0) (qv 1) (by with_unfolding_all rfl)))) (qO (Ew ((UF (AV pQ (Bf BE (qv 3) Aj) (qv 2) (by with_unfolding_all rfl)) (UH (AV (eT (J0 hr)) (qv 4) (Ib qN))))).pt (qO (CA (Bf BE (qv 3) Aj))) qE)))) (qO (CA PQ)),?_⟩
 (try simp only[Mn,Ml,Mm])
 refine⟨λτ M'=>M'=M/\QC AG c=[],?_,?_⟩
 .grind;refine⟨λk τ M'=>M'=M/\(AG.take k).filter (PY c)=[]/\∃a b,τ=[some (.lst (rs.map Fw)),some (.dic (Ic AG)),some z,a,b],⟨rfl,rfl,none,none,rfl⟩,λ_ _ _ _=>trivial,?_,?_⟩
  .intro k y τ M' hy;ext1⟨e1',hf,a,b,e2'⟩;obtain⟨r,hr1,rfl⟩:=Nt hy
   obtain⟨kv,hkv,e1⟩:∃kv,AG[k]? = some kv/\kv.1=r.1:=by
    have:=congrArg (·[k]?) en;simp only[AI,hr1,FH]at this;cases e:AG[k]? with
    |none=>rw[e]at this;cases this
    |some kv=>rw[e]at this;exact⟨kv,rfl,(AZ this).symm⟩
   have mk:=AB hkv;have hv:DA (Ic AG) (.inr r.1)=some (.lst (kv.2.map D.str)):=e1 ▸ bI (nI hk.nd) (Ao.mpr ⟨kv,mk,rfl⟩);have l8:=hk.l.2 kv mk;have et:AG.take (k+1)=AG.take k++[kv]:=by rw[Bb,hkv];rfl
   simp only[Fw];simp![↓Oz]
   refine⟨λτ M2=>M2=M'/\τ=[some (.lst (rs.map Fw)),some (.dic (Ic AG)),some z,some (Fw r),some (.lst ((kv.2.filter λo=>decide (o∉c)).map D.str))],?_,?_⟩
   ·(try simp![↓gC])
    rw[hv,BS,show Bg M' (D.lst (kv.2.map D.str))=some (kv.2.map D.str)from rfl,BS];refine Ev.filt (f:=D.str) (pr:=λo=>decide (o∉c)) (GS (by ext)) rfl (λo ho R r=>?_) (λo ho R r=>?_) ⟨rfl,rfl⟩
    .simp_all![↓UI,↓LH]
     rw[nZ hz,BS,Np];refine⟨Nq _,?_⟩;rw[decide_not]at r;exact r
    .walk_at "cap";exact r
   .rintro τ M2 ⟨rfl,rfl⟩;simp only[Fw];simp![↓VQ,↓Tq,↓Xm,↓UI,↓LH,gH]
    rw[nZ hz,BS,Np,υ];refine⟨Nq _,?_⟩;have no:PY c kv=false->(AG.take (k+1)).filter (PY c)=[]:=λh=>by rw[et,C5,hf,DR,if_neg (by rw[h];exact Ak)];rfl
    have ef:PY c kv=(!decide (r.1∈c) && kv.2.all λz=>decide (z∈c)):=by unfold PY;rw[e1,decide_not]
    refine Cj (λd=>Cj (λd1=>?_) λd1=>?_) λd=>?_
    .have h1:=wm hf hkv (by rw[ef,d,d1];rfl);rw[h1,e1]at q;exact Dn.of q
    .exact⟨no (by rw[ef,d,G8.mpr d1];rfl),_,_,rfl⟩
    .exact⟨no (by rw[ef,show decide (r.1∈c)=true by simpa using d];rfl),_,_,rfl⟩
  .rintro τ M' ⟨rfl,hf,-⟩;refine⟨rfl,?_⟩;rw[Ab,show rs.length=AG.length by have:=congrArg DC en;rwa[Ab,Ab]at this,Bm]at hf;unfold QC;rw[hf];rfl
 .rintro τ M' ⟨rfl,hf⟩;grind;unfold Si at q;rw[hf]at q;exact Dn.of q
def OQ:EA ["script", "boxes", "doors", "rules", "works", "order", "wanted", "due", "name", "handed", "refused", "found"] ["script"] (Ig (Dk 112)):=(⟨rfl,rfl,rfl,by nofun,rfl,by nofun,by nofun⟩)
theorem zH :∀{l:List Str}{k:Nat},o∈l->(o∈l.take k↔l.idxOf o<k)
 |[],_,h=>nomatch h
 |a::l,0,_=>by simp
 |a::l,k+1,h=>by
  by_cases e:a=o
  .subst e;simp
  .have hl:=(AR.mp h).resolve_left λc=>e c.symm;rw[Pw,BD,SN,show(a == o)=false by simpa using e,cond_false,zH hl];exact⟨λh=>by have:=h.resolve_left λc=>e c.symm;ext,λh=>.inr (by ext)⟩
def zR {rs:List Rl}(nd:(rs.map (·.1)).Nodup)(ho:o∈rs):rs.find? (DW o.1)=some o:=by
 induction rs with
 |nil=>exact nomatch ho
 |cons a l ih=>
  rw[AU,Ek]at nd;rw[Cy];rcases AR.mp ho with rfl|h
  .rw[show DW o.1 o=true from decide_eq_true rfl]
  .rw[show DW o.1 a=false from decide_eq_false λe=>nd.1 (e ▸ Ao.mpr ⟨o,h,rfl⟩)];exact ih nd.2 h
def Ψ {a b:List Str}(h:∀z,z∈a↔z∈b):a.isEmpty=b.isEmpty:=by
 cases a with
 |nil=>cases b with
  |nil=>rfl
  |cons y l=>exact absurd ((h y).mpr Aw) AT
 |cons x k=>cases b with
  |nil=>exact absurd ((h x).mp Aw) AT
  |cons y l=>rfl
def m8 {wk:Wk}(ok:wk.Ok) :dY wk zs ps=Lf wk zs ps:=by
 have nd:=fL ok;rw[QV]at nd;unfold dY Lf Wk.nms;rw[BB];refine D6 λr hr=>?_;show(r.1,Qz wk zs ps r)=(r.1,Uq wk zs ps r.1);congr 1
 unfold Qz Uq Wk.nms;rw[SO];congr 1
 refine List.filter_congr λo ho=>?_;show LU _ zs ps r o=PU wk zs ps r.1 o.1;unfold LU PU;rw[yK (zR nd ho) (zR nd hr),Bool.or_comm];congr 1
 .congr 2
  refine Ψ λz=>?_;unfold K2 Ld Ri;rw[G3,Em,Em,Qp,decide_eq_true_eq,decide_eq_true_eq,G3];rfl
 .unfold dU;rw[Dz,Br,decide_eq_true_eq,decide_eq_true_eq,Em];unfold QD;rw[zH (Ao.mpr ⟨o,ho,rfl⟩)]
def p6:Od T T.x92 50 spLaw2:=by
 refine CB.ok2 T.x92.d.F OQ (λds M Q h=>?_) (λcdv A outer s H E ds M Q hr h=>?_)
 .obtain⟨ns,rfl,_⟩:=h;rfl
 obtain⟨ns,rfl,h63,q⟩:=h;refine⟨_,EW (re (BN (ZeW T) (qA (qv 0) (qA (CJ (ZZ (.int (.int (.int (.int (.int .nil))))))) (qA Aj (qA Aj qN))))) (Xj (is:=[1,2,3]) rfl (Nu (ME (i:=1) OQ.nd rfl (Cd rfl)) (Nu (ME (i:=2) OQ.nd rfl (Cd rfl)) (Nu (ME (i:=3) OQ.nd rfl (Cd rfl)) V4))))) (EW (Cv 4 OQ.nd (BN (wq T) (qA (Ee aL T.B.list Kg (qA (qv 1) qN)) (qA (Ee aL T.B.list Kg (qA (qv 2) qN)) (qA (Ee aL T.B.list Kg (qA (qv 3) qN)) qN))))) (EW (Cv 5 OQ.nd (BN (Zgn T) (qA (BJ Hv (BN (Wb T) (qA (qv 0) (qA Aj qN))) (BJ To Aj Aj)) (qA (qv 3) qN)))) (EW (Cv 6 OQ.nd (BN (Zgo T) (qA (qv 3) (qA (qv 5) (qA (BN (ia T) (qA (qv 4) (qA (Ee aL T.B.list Kg (qA (qv 5) qN)) qN))) qN))))) (qC (Cv 7 OQ.nd (Jg qN)) (EW (Cv 8 OQ.nd (BN (ja T) (qA (qv 3) (qA (qv 6) (qA (qv 7) qN))))) (EW (Tw AK (AV wV (qv 8) PQ) (qC (Fh (Kn AN A8 A7 QF (qv 7) (qA (qv 8) qN))) (qO (Cv 8 OQ.nd (BN (ja T) (qA (qv 3) (qA (qv 6) (qA (qv 7) qN)))))))) (UG 7 (qC (Cv 9 OQ.nd (Ee aL T.B.list Kg (qA (qv 5) qN))) (qC (Cv 10 OQ.nd S6) (qC (Cv 11 OQ.nd PQ) (EW (ww T.xc_Ring rfl rfl rfl (w4 (i:=11) OQ.nd rfl (wz T.x79.d (Zge T) nofun (qA (qv 4) (qA (qv 9) qN)))) (λa oe=>(qO (Cv 10 OQ.nd S6)))) (qC (Ew (AV (aC (J0 hr)) (qv 9) (qv 5)) (qO (CA S6)) qE) (qC (Ew (AV Kz (B6 K6 T.B.len B8 (qA (qv 7) qN)) (B6 K6 T.B.len B8 (qA (qv 3) qN))) (qO (CA (qv 10))) qE) (qO (CA (Rs (lW (qv 10)) (Rs (B6 (tV "list") T.B.isinstance cD (qA (qv 11) (qA (sP T.B.list Kg) qN))) (OB (JY (eT (J0 hr)) (qv 11) (qv 7)))))))))))))))))))),?_⟩
 (try simp only[Mn,Ml,Mm])
 refine⟨λτ M'=>∃wk:Wk,wk.Ok/\τ=[some (.lst (ns.map D.int)),some (.lst (wk.bs.map E8)),some (.lst (wk.ds.map GY)),some (.lst (wk.rs.map Fw)),none,none,none,none,none,none,none,none],?_,?_⟩
 .simp![↓Ro,↓lx,↓W8,Xn,Xr,Xq,Bo,Ba]
  refine⟨ns,[3,3,64,3,64],rfl,rfl,⟨2,rfl,by decide,by decide⟩,⟨rfl,by decide⟩,λwk wx=>⟨wk,wx.ok,rfl⟩⟩
 rintro τ M1 ⟨wk,ok,rfl⟩;have l8:=ok.r.1;refine⟨λτ M'=>τ=[some (.lst (ns.map D.int)),some (.lst (wk.bs.map E8)),some (.lst (wk.ds.map GY)),some (.lst (wk.rs.map Fw)),some wk.D,none,none,none,none,none,none,none],?_,?_⟩
 .grind;refine⟨wk,_,ok,rfl,rfl,rfl,by rw[Ab],λi x r hx hr=>?_,rfl⟩;rw[AI,hr]at hx;cases hx;exact⟨_,rfl,rfl⟩
 rintro τ M2 rfl;refine⟨λτ M'=>∃zs:List Str,zs.Perm wk.nms/\τ=[some (.lst (ns.map D.int)),some (.lst (wk.bs.map E8)),some (.lst (wk.ds.map GY)),some (.lst (wk.rs.map Fw)),some wk.D,some (.lst (zs.map D.str)),none,none,none,none,none,none],?_,?_⟩
 .simp![↓Xx,Gr,Eh]
  exact λz=>⟨⟨by decide,by decide,by decide⟩,wk.rs,rfl,l8,by ext,λzs pm=>⟨zs,pm,rfl⟩⟩
 rintro τ M3 ⟨zs,pm,rfl⟩;have lz:(Dl wk zs).length<=100:=A4 (qS (by rw[pm.length_eq,Ab];exact l8)) 'g';refine⟨λτ M'=>τ=[some (.lst (ns.map D.int)),some (.lst (wk.bs.map E8)),some (.lst (wk.ds.map GY)),some (.lst (wk.rs.map Fw)),some wk.D,some (.lst (zs.map D.str)),some (.dic (Ic (Lf wk zs (Dl wk zs)))),none,none,none,none,none],?_,?_⟩
 .grind;refine⟨wk,zs,rfl,rfl,ok,pm,wk,zs,_,rfl,rfl,rfl,ok,pm,lz,?_⟩;rw[m8 ok]
 rintro τ M4 rfl;have hk:=wS ok zs (Dl wk zs);have kn:wk.rs.map (·.1)=(Lf wk zs (Dl wk zs)).map (·.1):=by unfold Lf;rw[BB];exact(QV _).symm
 have kl:(Lf wk zs (Dl wk zs)).length=wk.rs.length:=by unfold Lf;rw[Ab,Ab]
 generalize eK:Lf wk zs (Dl wk zs)=AG at hk kn kl ⊢;simp![↓PP]
 intro p hp;have ls:∀{M:Mp} {xs:List D},Bg (put M p (.lst xs)) (.ref p)=some xs:=λ{M xs}=>by simp only[Bg,Di]
 refine⟨λτ M'=>M'=put M4 p (.lst [])/\τ=[some (.lst (ns.map D.int)),some (.lst (wk.bs.map E8)),some (.lst (wk.ds.map GY)),some (.lst (wk.rs.map Fw)),some wk.D,some (.lst (zs.map D.str)),some (.dic (Ic AG)),some (.ref p),some (Si AG []),none,none,none],?_,?_⟩
 .simp![↓PN,↓UB]
  exact⟨wk.rs,AG,[],rfl,rfl,kn,hk,rfl,rfl⟩
 rintro τ M5 ⟨rfl,rfl⟩;refine⟨λτ M'=>M'=put M4 p (.lst ((OM AG).map D.str))/\∃a,τ=[some (.lst (ns.map D.int)),some (.lst (wk.bs.map E8)),some (.lst (wk.ds.map GY)),some (.lst (wk.rs.map Fw)),some wk.D,some (.lst (zs.map D.str)),some (.dic (Ic AG)),some (.ref p),a,none,none,none],?_,?_⟩
 .grind;unfold OM;generalize hR:Uz AG (AG.length+1) []=R0;refine⟨λk τ M'=>∃c,(c.Nodup/\(∀z∈c,z∈AG.map (·.1))/\k+c.length=AG.length+1/\Uz AG k c=R0/\M'=put M4 p (.lst (c.map D.str)))/\τ=[some (.lst (ns.map D.int)),some (.lst (wk.bs.map E8)),some (.lst (wk.ds.map GY)),some (.lst (wk.rs.map Fw)),some wk.D,some (.lst (zs.map D.str)),some (.dic (Ic AG)),some (.ref p),some (Si AG c),none,none,none],⟨AG.length+1,[],⟨Iw,λz h=>absurd h AT,rfl,hR,rfl⟩,rfl⟩,?_⟩;intro k τ M';ext1⟨c,⟨cn,cs,ck,cf,e1'⟩,e2'⟩
  have cl:c.length<=AG.length:=by
   have:=Tr c (AG.map (·.1)) cn cs;rw[Ab]at this;exact this
  obtain⟨k,rfl⟩:∃k',k=k'+1:=⟨k-1,by ext⟩;rw[Uz]at cf;cases ef:QC AG c with
  |nil=>
   rw[ef,show([]:List Str).isEmpty=true from rfl,if_pos rfl]at cf;rw[show Si AG c=.non by unfold Si;rw[ef];rfl];simp![↓PN,↓UB,↓VR]
   exact Cj (λh=>absurd h 'g') λ_=>⟨by rw[cf],_,rfl⟩
  |cons z l=>
   rw[ef,show(z::l).isEmpty=false from rfl,if_neg Ak]at cf;have mz:z∈QC AG c:=by rw[ef];exact Aw
   obtain⟨kv,hkv,ez⟩:=Ao.mp mz;obtain⟨h1,h2⟩:=Bl.mp hkv;unfold PY at h2;rw[Br,decide_eq_true_eq,ez]at h2;rw[show Si AG c=.str z by unfold Si;rw[ef];rfl];simp![↓PN,↓UB,↓VR]
   refine Cj (λ_=>⟨BU (by have:=hk.l.1;ext),wk.rs,AG,c++[z],rfl,rfl,kn,hk,by rw[AJ];rfl,k,FI k,c++[z],⟨?_,λx hx=>?_,by rw[Aq,Dr];ext,cf,by rw[AJ];rfl⟩,rfl⟩) λh=>absurd rfl h
   .rw[El];refine⟨cn,by simp,λa ha b hb e=>h2.1 ?_⟩;rw[AD.mp hb]at e;exact e ▸ ha
   .rcases AQ.mp hx with hx|hx
    .exact cs x hx
    .rw[AD.mp hx,<- ez];exact FG h1
 rintro τ M6 ⟨rfl,a,rfl⟩;simp only[PJ,Fe,Fd,Ma,BS,RK,Di,UL hp,Ba,Bo];simp![↓Vo,↓Z9,↓eQ]
 have kl2:wk.nms.length=wk.rs.length:=Ab ..;refine⟨λτ M'=>(wk.rs.length<=(OM AG).length/\τ=[some (.lst (ns.map D.int)),some (.lst (wk.bs.map E8)),some (.lst (wk.ds.map GY)),some (.lst (wk.rs.map Fw)),some wk.D,some (.lst (zs.map D.str)),some (.dic (Ic AG)),some (.lst ((OM AG).map D.str)),a,some (.lst (zs.map D.str)),some (.bl false),some (.lst ((OM AG).map D.str))])\/(¬wk.rs.length<=(OM AG).length/\τ=[some (.lst (ns.map D.int)),some (.lst (wk.bs.map E8)),some (.lst (wk.ds.map GY)),some (.lst (wk.rs.map Fw)),some wk.D,some (.lst (zs.map D.str)),some (.dic (Ic AG)),some (.lst ((OM AG).map D.str)),a,some (.lst (zs.map D.str)),some (.bl true),some .non]),?_,?_⟩
 .grind;refine⟨wk,zs,rfl,rfl,ok,pm,?_⟩;rw[eK];rw[kl2];refine⟨λc=>.inl ⟨c,rfl⟩,λc=>⟨of_eq_true ς,?_⟩⟩;simp![↓Z9]
  exact .inr c
 rintro τ M7 (⟨c,rfl⟩|⟨c,rfl⟩)
 .simp![↓aB,↓VS,↓aI,↓vM,↓eI,↓Xm,↓gS,↓ZeO,T2]
  rw[gI,BS,if_neg KI,if_neg (by ext),gI,BS];exact Dn.of (q _)
 .simp![↓aB,↓aI,↓vM,↓Xm]
  rw[gI,BS,if_neg KI,if_pos (by ext)];exact Dn.of (q _)
end
end My
namespace My
open PySem PySem.W PyProof.Rows
open L2 (Tg NL Ig Eb)
noncomputable abbrev VB:Ai:=.str "beatwright.words" 351
noncomputable abbrev OJ:Ai:=.str "beatwright.terms" 399
noncomputable abbrev NJ:Ai:=.str "beatwright.dims" 567
noncomputable abbrev Qy:Ai:=.str "beatwright.works" 698
noncomputable abbrev LR:Ai:=.str "beatwright.papers" 805
noncomputable abbrev WY:Ai:=.str "beatwright.clashes" 984
noncomputable abbrev VA:Ai:=.str "beatwright.orders" 1029
noncomputable abbrev Ur:Ai:=.str "beatwright.plans" 1074
noncomputable abbrev PV:Ai:=.str "law_beatwright_k43_settling" 1134
def Uy (s:C6):Str:=match s with
 |.FunctionDef n _ _ _ _ _ _ _ _ _=>n
 |.ClassDef n _ _ _ _ _ _ _ _ _ _=>n
 |.Assign [.Name n _] _ _=>n
 |_=>""
def sV (s:C6):Nat:=match s with
 |.FunctionDef _ _ _ _ _ _ _ _ _ p=>p.line
 |_=>0
noncomputable abbrev kE (P:HZ)(n:Str)(t:Nat)(v:Ai):F6:=⟨PyData.keyHash P n,.str n t,v⟩
noncomputable abbrev kR (P:HZ)(n:Str)(t b:Nat):F6:=kE P n t (.ref b)
abbrev fk (u:Nat):Nat:=bif u == 3 then 3 else 5
noncomputable abbrev fF (n q:Str)(s:C6)(m:Ai)(c:Nat):Dy:=fnOf n q (Tg s) (NL s) (Ig s) .none .none .none m none (.ref c) .none
noncomputable abbrev fO (n q:Str)(s:C6)(m:Ai)(c:Nat):Obj:=⟨.type "function",none,.func (fF n q s m c),#[]⟩
noncomputable abbrev cO (n q:Str)(s:C6)(u b t:Nat):Obj:=⟨.type "code",none,.fields #[.str n t,.str q (t+1),.str "/claim/cut.py" (t+2),.int (sV s) 0,.int (Tg s).args.length 0,.int 0 0,.int 0 0,.int 3 0,.ref b,.bool true,.int 181 0,.ref (b+1),.none,bif u == 3 then .none else .ref (b+2),bif u == 3 then .none else .ref (b+3),.ref (bif u == 3 then b+2 else b+4),.int (t+u:Nat) 0,.int (sV s) 0,.str "/claim/cut.py" (t+u+1)],#[]⟩
def fR (m:Ai):List Nat->Nat->Nat->Nat->Q6->Q6
 |[],_,_,_,l=>l
 |u::us,i,b,t,l=>(b+fk u,cO (Uy (Dk i)) (Uy (Dk i)) (Dk i) u b t)::(b+fk u+1,fO (Uy (Dk i)) (Uy (Dk i)) (Dk i) m (b+fk u))::fR m us (i+1) (b+fk u+2) (t+u+3) l
def fA:List Nat->Nat->List Nat->List Nat
 |[],_,l=>l
 |u::us,b,l=>(b+fk u)::(b+fk u+1)::fA us (b+fk u+2) l
def fD (P:HZ):List Nat->Nat->Nat->Nat->List F6->List F6
 |[],_,_,_,l=>l
 |u::us,i,b,t,l=>kR P (Uy (Dk i)) (t+u+2) (b+fk u+1)::fD P us (i+1) (b+fk u+2) (t+u+3) l
def mR (m:Ai)(k:Nat):List Nat->List Str->Nat->Nat->Nat->Q6->Q6
 |u::us,q::qs,j,b,t,l=>(b+fk u,cO (Uy (tm k j)) q (tm k j) u b t)::(b+fk u+1,fO (Uy (tm k j)) q (tm k j) m (b+fk u))::mR m k us qs (j+1) (b+fk u+2) (t+u+3) l
 |_,_,_,_,_,l=>l
abbrev kJ:List Nat:=[4,5,4,5,5,3]
abbrev kI:List Nat:=[4,8,7,3,5,5,6,6,4,5,6,5,7,3]
abbrev kH:List Nat:=[3,4,9,3,6,6,4,6,4,11,5,6,6,5,6]
abbrev kG:List Nat:=[3,6,3,5,5,9,8,11,6,3,3]
abbrev kF:List Nat:=[10,5,5,3]
abbrev sK:List Nat:=[8,5,4,5,9,7,8,4,5,6,4,3]
abbrev kC:List Nat:=[10]
abbrev kB:List Nat:=[3,5,5,7,8]
abbrev kA:List Nat:=[3,5,3,6,3,5]
abbrev jZ:List Nat:=[5,3,13,3,3,5,5]
abbrev Vn:List Nat:=[5,4,10,3,3,10,20]
abbrev Vm:List Nat:=[3,7,3,3,15]
noncomputable abbrev wE (P:HZ):Array F6:=#[kE P "num" 405 (.int (0) 406),kE P "box" 407 (.int (0) 408),kE P "late" 409 (.int (0) 410),kE P "door" 411 (.int (0) 412),kE P "not" 413 (.int (1) 414),kE P "and" 415 (.int (2) 416),kE P "or" 417 (.int (2) 418),kE P "xor" 419 (.int (2) 420),kE P "plus" 421 (.int (2) 422),kE P "minus" 423 (.int (2) 424),kE P "less" 425 (.int (2) 426),kE P "same" 427 (.int (2) 428),kE P "pick" 429 (.int (3) 430),kE P "join" 431 (.int (2) 432),kE P "part" 433 (.int (1) 434)]
abbrev xN:List Str:=["NoName", "Twice", "NoWidth", "NoWord", "TooMany", "Unknown", "Unlike", "NoOrder", "Ring"]
noncomputable abbrev xD (P:HZ)(t l a:Nat):Obj:=⟨.type "dict",none,.dict #[kE P "__module__" (t+7) (.str "beatwright.errors" 187),kE P "__firstlineno__" (t+11) (.int l (t+10)),kE P "__static_attributes__" (t+12) (.ref (a-2)),kE P "__doc__" (t+13) .none] 2,#[]⟩
noncomputable abbrev xC (n:Str)(t a:Nat):Obj:=⟨.type "type",none,.cls {name:=n,bases:=[.ref 24],mro:=[.ref a,.ref 24,.type "ValueError",.type "Exception",.type "BaseException",.type "object"],ns:=a-1,qualname:=n,hasDict:=true,slotNames:=[],subclasses:=[],abstract:=false,collection:=none,hasDel:=false},#[some (.ref (a-9)),none,some (.str n t),some (.str n (t+8)),some (.builtin "ValueError.__new__"),some (.bool true)]⟩
def xR (P:HZ):List Str->Nat->Nat->Nat->Q6->Q6
 |[],_,_,_,l=>l
 |n::ns,a,t,y,l=>(a-1,xD P t y a)::(a,xC n t a)::xR P ns (a+12) (t+16) (y+2) l
def xA:List Str->Nat->List Nat->List Nat
 |[],_,l=>l
 |_::ns,a,l=>(a-1)::a::xA ns (a+12) l
def xK (P:HZ):List Str->Nat->Nat->List F6->List F6
 |[],_,_,l=>l
 |n::ns,a,t,l=>kR P n (t+15) a::xK P ns (a+12) (t+16) l
noncomputable def hK (P:HZ):Q6:=((3:Av),(⟨(.type "dict"),none,.dict ⟨kE P "__name__" 165 (.str "law_beatwright_k43_settling" 1134)::kE P "__doc__" 166 .none::kE P "__package__" 167 .none::kE P "__loader__" 168 (.builtin "__main__.__loader__#opaque")::kE P "__spec__" 169 .none::kR P "__annotations__" 170 6::kR P "__builtins__" 171 4::kE P "__file__" 173 (.str "/claim/cut.py" 172)::kE P "__cached__" 174 .none::kR P "BeatError" 206 24::xK P xN 37 207 ( kE P "WIDEST" 354 (.int (64) 353)::fD P kJ 13 136 355 ( kE P "MOST_PARTS" 402 (.int (100) 401)::kE P "MOST_DEEP" 404 (.int (12) 403)::kR P "HELD" 450 176::fD P kI 23 177 451 ( fD P kH 38 271 569 ( kE P "MOST_BOXES" 701 (.int (12) 700)::kE P "MOST_DOORS" 703 (.int (6) 702)::kE P "MOST_RULES" 705 (.int (8) 704)::kE P "MOST_WRITES" 707 (.int (6) 706)::kE P "LONGEST_NAME" 709 (.int (8) 708)::fD P kG 59 372 710 ( kE P "MOST_CUBES" 808 (.int (64) 807)::fD P kF 72 441 809 ( kR P "Known" 970 558::fD P kC 77 563 971 ( fD P kB 79 570 986 ( fD P kA 85 603 1031 ( fD P jZ 92 639 1076 ( fD P Vn 100 682 1136 ( kR P "_law_words" 1221 733::fD P Vm 108 734 1222 ( []))))))))))))⟩ 112,#[]⟩:Obj))::((23:Av),(⟨(.type "dict"),none,.dict #[kE P "__module__" 196 (.str "beatwright.errors" 187),kE P "__firstlineno__" 200 (.int (2) 199),kR P "__static_attributes__" 201 22,kR P "__weakref__" 203 25,kE P "__doc__" 204 .none] 3,#[]⟩:Obj))::((24:Av),(⟨(.type "type"),none,.cls {name:="BeatError",bases:=[(.type "ValueError")],mro:=[(.ref 24),(.type "ValueError"),(.type "Exception"),(.type "BaseException"),(.type "object")],ns:=23,qualname:="BeatError",hasDict:=true,slotNames:=[],subclasses:=[(.ref 37),(.ref 49),(.ref 61),(.ref 73),(.ref 85),(.ref 97),(.ref 109),(.ref 121),(.ref 133)],abstract:=false,collection:=none,hasDel:=false},#[some (.ref 15),none,some (.str "BeatError" 189),some (.str "BeatError" 197),some (.builtin "ValueError.__new__"),some (.bool true)]⟩:Obj))::xR P xN 37 207 4 ( fR VB kJ 13 136 355 ( ((176:Av),(⟨.type "dict",none,.dict (wE P) 15,#[]⟩:Obj))::fR OJ kI 23 177 451 ( fR NJ kH 38 271 569 ( fR Qy kG 59 372 710 ( fR LR kF 72 441 809 ( mR LR 76 sK ["Known.__init__", "Known.learn", "Known.forget", "Known.know", "Known.go_on", "Known.settled_at", "Known.put", "Known.turn", "Known.guard_marks", "Known.guard_mark", "Known.both_words", "Known.low_words"] 0 474 856 ( ((557:Av),(⟨(.type "dict"),none,.dict #[kE P "__module__" 851 (.str "beatwright.papers" 805),kE P "__firstlineno__" 855 (.int (285) 854),kR P "__init__" 866 480,kR P "learn" 874 487,kR P "forget" 881 494,kR P "know" 889 501,kR P "go_on" 901 508,kR P "settled_at" 911 515,kR P "put" 922 522,kR P "turn" 929 529,kR P "guard_marks" 937 536,kR P "guard_mark" 946 543,kR P "both_words" 953 550,kR P "low_words" 959 555,kR P "__static_attributes__" 963 556,kR P "__dict__" 965 559,kR P "__weakref__" 967 560,kE P "__doc__" 968 .none] 4,#[]⟩:Obj))::((558:Av),(⟨(.type "type"),none,.cls {name:="Known",bases:=[(.type "object")],mro:=[(.ref 558),(.type "object")],ns:=557,qualname:="Known",hasDict:=true,slotNames:=[],subclasses:=[],abstract:=false,collection:=none,hasDel:=false},#[none,none,some (.str "Known" 844),some (.str "Known" 852),some (.builtin "object.__new__"),some (.bool true)]⟩:Obj))::fR LR kC 77 563 971 ( fR WY kB 79 570 986 ( fR VA kA 85 603 1031 ( fR Ur jZ 92 639 1076 ( fR PV Vn 100 682 1136 ( fR PV Vm 108 734 1222 ( [])))))))))))))
noncomputable def has:List Av:=3::23::24::xA xN 37 ( fA kJ 136 ( 176::fA kI 177 ( fA kH 271 ( fA kG 372 ( fA kF 441 ( fA sK 474 ( 557::558::fA kC 563 ( fA kB 570 ( fA kA 603 ( fA jZ 639 ( fA Vn 682 ( fA Vm 734 ( [])))))))))))))
def lo (p:Bs):List Str:=[(1,10),(12,7),(20,17),(38,15),(54,16),(71,7),(79,5),(85,6),(92,7),(100,12)].flatMap λx=>((p.main.body.drop x.1).take x.2).map Uy
noncomputable def hq:Bs:=view Bp [112]
noncomputable def hloose:List Str:=lo Bp
noncomputable def hXt (q:Bs)(s:As):Bool:=xlAt q [] s && recOk [] s
noncomputable def hrun (H₀:HZ->CN)(p q:Bs)(w:BK)(os:WL):=SH.whole (H₀ w.params) p q (lo p) (hXt q) (λs=>has.map s.heap.get?) 11 (some (.ref 6)) 5687 w os
noncomputable def hgood (K:HZ->Q6)(p q:Bs)(w:BK):=some (true,openGood q (lo p),(K w.params).map λp=>some p.2)
theorem hrun_self:hrun=hrun:=rfl
theorem hgood_self:hgood=hgood:=rfl
lay_quick My.hrun My.hgood
name_quick hrunQ for My.hrun by My.hrun_self
name_quick hgoodQ for My.hgood by My.hgood_self
def Zj8 (w:BK):(λos=>PySem.W.Fast.hrunQ ED Bp hq (w.withFollow "special-get-raises" false) os)=λ_=>PySem.W.Fast.hgoodQ hK Bp hq (w.withFollow "special-get-raises" false):=by kernel_rfl
def ZkA (w:BK):(λos=>PySem.W.Fast.hrunQ ED Bp hq (w.withFollow "special-get-raises" true) os)=λ_=>PySem.W.Fast.hgoodQ hK Bp hq (w.withFollow "special-get-raises" true):=by kernel_rfl
def ZkB:∀w:BK,(λos=>PySem.W.Fast.hrunQ ED Bp hq w os)=λ_=>PySem.W.Fast.hgoodQ hK Bp hq w:=byRow2 "special-get-raises" Zj8 ZkA
noncomputable def hYf (s:As):List (Option Obj):=has.map s.heap.get?
noncomputable def hYa (w:BK):List (Option Obj):=(hK w.params).map λp=>some p.2
theorem ws_self:Ps=Ps:=rfl
lay_quick PySem.W.OpenLaw.wellSaid
name_quick wsQ for PySem.W.OpenLaw.wellSaid by My.ws_self
def hsaid:PySem.W.Fast.wsQ Hk=true:=by kernel_rfl
def hleft:LeftO Bp hq hloose (hXt hq) hYf hYa 12074:=SH.left_of (Yf:=hYf) (Ya:=hYa) (M:=5687) (n₀:=11) (ann:=(some (.ref 6))) (by kernel_rfl) 'g' (λs=>by kernel_rfl) (λP=>by kernel_rfl) (λw=>by kernel_rfl) 'g' λw os=>(congrFun (congrFun (congrFun (congrFun (congrFun PySem.W.Fast.hrunQ_eq _) _) _) w) os).trans ((congrFun (ZkB w) os).trans (congrFun (congrFun (congrFun (congrFun PySem.W.Fast.hgoodQ_eq _) _) _) w).symm)
structure Hd (w:BK)(n:Str)(s:C6)(c:Nat)(m:Ai):Prop where
 a:nsIn (hK w.params) BF n=some (some (.ref (c+1)))
 l:(hK w.params).lookup (c+1)=some (fO n n s m c)
 o:codeIn (hK w.params) (.ref c) n=true
 k:keepIn (hK w.params) (.ref (c+1))=true
structure Hm (w:BK)(C:Av)(n q:Str)(s:C6)(c:Nat)(m:Ai):Prop where
 a:jB (hK w.params) (.ref C) n=some (some (.ref (c+1)))
 i:isFn (hK w.params) (.ref (c+1))=true
 l:(hK w.params).lookup (c+1)=some (fO n q s m c)
 o:codeIn (hK w.params) (.ref c) q=true
 k:keepIn (hK w.params) (.ref (c+1))=true
def On {α:Type}{us:List α}{n:Nat}(h:us.length=n+1):∃a t,us=a::t/\t.length=n:=by
 cases us with
 |nil=>cases h
 |cons a t=>exact⟨a,t,rfl,He h⟩
def lenU1 {fd:Dy}{ps:List Str}{us:List Ai}(hl:us.length=1)(h:∀a0,Ez fd ⟨[a0],[]⟩=pure (ps.zip [a0])):Ez fd ⟨us,[]⟩=pure (ps.zip us):=by
 obtain⟨a0,u0,rfl,l0⟩:=On hl;cases AH l0;exact h a0
def lenU2 {fd:Dy}{ps:List Str}{us:List Ai}(hl:us.length=2)(h:∀a0 a1,Ez fd ⟨[a0,a1],[]⟩=pure (ps.zip [a0,a1])):Ez fd ⟨us,[]⟩=pure (ps.zip us):=by
 obtain⟨a0,u0,rfl,l0⟩:=On hl;obtain⟨a1,u1,rfl,l1⟩:=On l0;cases AH l1;exact h a0 a1
def lenU3 {fd:Dy}{ps:List Str}{us:List Ai}(hl:us.length=3)(h:∀a0 a1 a2,Ez fd ⟨[a0,a1,a2],[]⟩=pure (ps.zip [a0,a1,a2])):Ez fd ⟨us,[]⟩=pure (ps.zip us):=by
 obtain⟨a0,u0,rfl,l0⟩:=On hl;obtain⟨a1,u1,rfl,l1⟩:=On l0;obtain⟨a2,u2,rfl,l2⟩:=On l1;cases AH l2;exact h a0 a1 a2
def lenU4 {fd:Dy}{ps:List Str}{us:List Ai}(hl:us.length=4)(h:∀a0 a1 a2 a3,Ez fd ⟨[a0,a1,a2,a3],[]⟩=pure (ps.zip [a0,a1,a2,a3])):Ez fd ⟨us,[]⟩=pure (ps.zip us):=by
 obtain⟨a0,u0,rfl,l0⟩:=On hl;obtain⟨a1,u1,rfl,l1⟩:=On l0;obtain⟨a2,u2,rfl,l2⟩:=On l1;obtain⟨a3,u3,rfl,l3⟩:=On l2;cases AH l3;exact h a0 a1 a2 a3
def lenU5 {fd:Dy}{ps:List Str}{us:List Ai}(hl:us.length=5)(h:∀a0 a1 a2 a3 a4,Ez fd ⟨[a0,a1,a2,a3,a4],[]⟩=pure (ps.zip [a0,a1,a2,a3,a4])):Ez fd ⟨us,[]⟩=pure (ps.zip us):=by
 obtain⟨a0,u0,rfl,l0⟩:=On hl;obtain⟨a1,u1,rfl,l1⟩:=On l0;obtain⟨a2,u2,rfl,l2⟩:=On l1;obtain⟨a3,u3,rfl,l3⟩:=On l2;obtain⟨a4,u4,rfl,l4⟩:=On l3;cases AH l4;exact h a0 a1 a2 a3 a4
section
variable {w:BK}{h:CN}{mg:Str->Option Ai}
noncomputable def hd {n:Str}{s:C6}{ps:List Str}(c:Nat)(m:Ai)(X:autoParam ((hK w.params).In h) tJ)(G:autoParam (h.Ns BF mg) tJ)(H:Hd w n s c m:=by exact⟨by kernel_rfl,by kernel_rfl,by kernel_rfl,by kernel_rfl⟩)
  (b:autoParam (∀(kV dc pm:Ai) (an:Option Av) (cd ct:Ai) (us:List Ai),us.length=ps.length->Ez (fnOf n n (Tg s) (NL s) (Ig s) .none kV dc pm an cd ct) ⟨us,[]⟩=pure (ps.zip us)) ZW):DF (hK w.params) mg n s ps:=
 ⟨c+1,fF n n s m c,L2.fun_mk (st:=s) H.l H.o H.k,(L2.fun_mk (st:=s) H.l H.o H.k).binds b,mg_of X G H.a⟩
noncomputable def QB {n q:Str}{s:C6}{ps:List Str}{C:Av}(c:Nat)(m:Ai)(H:Hm w C n q s c m:=by exact⟨by kernel_rfl,by kernel_rfl,by kernel_rfl,by kernel_rfl,by kernel_rfl⟩)
  (b:autoParam (∀(kV dc pm:Ai) (an:Option Av) (cd ct:Ai) (us:List Ai),us.length=ps.length->Ez (fnOf n q (Tg s) (NL s) (Ig s) .none kV dc pm an cd ct) ⟨us,[]⟩=pure (ps.zip us)) ZW):DM (hK w.params) C n q s ps:=
 ⟨c+1,fF n q s m c,L2.fun_mk (st:=s) H.l H.o H.k,(L2.fun_mk (st:=s) H.l H.o H.k).binds b,⟨H.a,H.i,H.k⟩⟩
def hs {n:Str}{v:Ai}(X:(hK w.params).In h)(G:h.Ns BF mg)(e:autoParam (nsIn (hK w.params) BF n=some (some v)) ZU):mg n=some v:=mg_of X G e
def hn {n:Str}(X:(hK w.params).In h)(G:h.Ns BF mg)(e:autoParam (nsIn (hK w.params) BF n=some none) ZU):mg n=none:=mg_none_of X G e
end
def yv (w:BK):L2.TabOk (hK w.params) w 176 RP:=⟨wE w.params,15,by kernel_rfl,by k_keys,λx v e=>by
 have m:=L2.lookup_mem e;unfold RP at m;simp only[BD,R8,AT,or_false]at m;rcases m with⟨rfl,rfl⟩|⟨rfl,rfl⟩|⟨rfl,rfl⟩|⟨rfl,rfl⟩|⟨rfl,rfl⟩|⟨rfl,rfl⟩|⟨rfl,rfl⟩|⟨rfl,rfl⟩|⟨rfl,rfl⟩|⟨rfl,rfl⟩|⟨rfl,rfl⟩|⟨rfl,rfl⟩|⟨rfl,rfl⟩|⟨rfl,rfl⟩|⟨rfl,rfl⟩
 .exact⟨406,by kernel_rfl⟩
 .exact⟨408,by kernel_rfl⟩
 .exact⟨410,by kernel_rfl⟩
 .exact⟨412,by kernel_rfl⟩
 .exact⟨414,by kernel_rfl⟩
 .exact⟨416,by kernel_rfl⟩
 .exact⟨418,by kernel_rfl⟩
 .exact⟨420,by kernel_rfl⟩
 .exact⟨422,by kernel_rfl⟩
 .exact⟨424,by kernel_rfl⟩
 .exact⟨426,by kernel_rfl⟩
 .exact⟨428,by kernel_rfl⟩
 .exact⟨430,by kernel_rfl⟩
 .exact⟨432,by kernel_rfl⟩
 .exact ⟨434,by kernel_rfl⟩⟩
def all_mk {P:Bs}{w:BK}{h:CN}{mg:Str->Option Ai}{fa:Av}(X:(hK w.params).In h)(G:h.Ns BF mg)(hfa:mg "law" = some (.ref fa)):∃fd:Dy,(∀(s:As) (v:Ai),NE s fd ⟨[v],[]⟩ [("script",v)])/\∀base:CN,(hK w.params).In base->base.Ns BF mg->L2.FnOk P w (hK w.params) mg base L2.CX0 50 fa fd ["script"] (L3.lSp (hK w.params) L3.spLaw2):=by
 have e:=hfa.symm.trans (hs X G (v:=.ref 762));cases e
 let T:Tx (hK w.params) w mg:=⟨558,
  ⟨⟨⟨⟨⟨⟨⟨hd 141 VB,hd 148 VB⟩,hd 155 VB⟩,⟨hd 162 VB,hd 169 VB⟩,hd 174 VB⟩,⟨⟨hd 182 OJ,hd 189 OJ⟩,hd 196 OJ⟩,⟨hd 201 OJ,hd 208 OJ⟩,hd 215 OJ⟩,⟨⟨⟨hd 222 OJ,hd 229 OJ⟩,hd 236 OJ⟩,⟨hd 243 OJ,hd 250 OJ⟩,hd 257 OJ⟩,⟨⟨hd 264 OJ,hd 269 OJ⟩,hd 274 NJ⟩,hd 281 NJ,hd 288 NJ⟩,⟨⟨⟨⟨hd 293 NJ,hd 300 NJ⟩,hd 307 NJ⟩,⟨hd 314 NJ,hd 321 NJ⟩,hd 328 NJ⟩,⟨⟨hd 335 NJ,hd 342 NJ⟩,hd 349 NJ⟩,⟨hd 356 NJ,hd 363 NJ⟩,hd 370 NJ⟩,⟨⟨⟨hd 375 Qy,hd 382 Qy⟩,hd 387 Qy⟩,⟨hd 394 Qy,hd 401 Qy⟩,hd 408 Qy⟩,⟨⟨hd 415 Qy,hd 422 Qy⟩,hd 429 Qy⟩,hd 434 Qy,hd 439 Qy⟩,⟨⟨⟨⟨⟨hd 446 LR,hd 453 LR⟩,hd 460 LR⟩,⟨hd 465 LR,⟨QB 479 LR,⟨by kernel_rfl,by kernel_rfl,by kernel_rfl,by kernel_rfl⟩⟩⟩,QB 486 LR⟩,⟨⟨QB 493 LR,QB 500 LR⟩,QB 507 LR⟩,⟨QB 514 LR,QB 521 LR⟩,QB 528 LR⟩,⟨⟨⟨QB 535 LR,QB 542 LR⟩,QB 549 LR⟩,⟨QB 554 LR,hd 568 LR⟩,hd 573 WY⟩,⟨⟨hd 580 WY,hd 587 WY⟩,hd 594 WY⟩,hd 601 WY,hd 606 VA⟩,⟨⟨⟨⟨hd 613 VA,hd 618 VA⟩,hd 625 VA⟩,⟨hd 630 VA,hd 637 VA⟩,hd 644 Ur⟩,⟨⟨hd 649 Ur,hd 656 Ur⟩,hd 661 Ur⟩,⟨hd 666 Ur,hd 673 Ur⟩,hd 680 Ur⟩,⟨⟨⟨hd 687 PV,hd 701 PV⟩,hd 706 PV⟩,⟨hd 711 PV,hd 718 PV⟩,hd 725 PV⟩,⟨⟨hd 737 PV,hd 744 PV⟩,hd 749 PV⟩,hd 754 PV,hd 761 PV⟩,
  ⟨by kernel_rfl,by kernel_rfl,by kernel_rfl,by kernel_rfl⟩,
  hs X G,
  (show Eb _ _ _ by unfold Eb;kernel_rfl),
  (show Eb _ _ _ by unfold Eb;kernel_rfl),
  (show Eb _ _ _ by unfold Eb;kernel_rfl),
  _,
  hs X G (v:=(.int (64) 353)),
  _,
  hs X G (v:=(.int (100) 401)),
  _,
  hs X G (v:=(.int (12) 403)),
  _,
  hs X G (v:=(.int (12) 700)),
  _,
  hs X G (v:=(.int (6) 702)),
  _,
  hs X G (v:=(.int (8) 704)),
  _,
  hs X G (v:=(.int (6) 706)),
  _,
  hs X G (v:=(.int (8) 708)),
  _,
  hs X G (v:=(.int (64) 807)),
  176,
  hs X G,
  yv w,
  L3.allC_of X G (show L3.allChk (hK w.params) "Ring" XS CS=true by kernel_rfl),
  ⟨hn X G,hn X G,hn X G,hn X G,hn X G,hn X G,hn X G,hn X G,hn X G,hn X G,hn X G,hn X G,hn X G,hn X G,hn X G,hn X G,hn X G,hn X G⟩⟩
 exact⟨_,λs v=>.of_eq rfl,λbase _ _=>p6 T⟩
end My
end Internal
open Internal
open PySem PySem.W PyProof.Rows
set_option maxRecDepth 100000 in
set_option maxHeartbeats 0 in
theorem PySem.Challenge.cw_beatwright_k43_settling_holds : PySem.Challenge.rw_beatwright_k43_settling.Holds := by
 refine holds_law ((congrFun PySem.W.Fast.wsQ_eq _).trans My.hsaid) λsaid=>?_;refine PySem.W.holds_open (q:=My.hq) (loose:=My.hloose) (Xt:=My.hXt My.hq) (XP:=XL My.hq []) (Yf:=My.hYf) (Ya:=My.hYa) (YP:=InK My.hK) (N:=12074) My.hleft (InK.of λ_=>by kernel_rfl) InK.keeps (λs e=>xl_of s (Bool.and_eq_true_iff.mp e).1) XL.keeps (by rfl) (by rfl) (by rfl) (λs e=>recFacts_of (Bool.and_eq_true_iff.mp e).2) (by rfl) (by first | assumption | nofun) (by nofun) ⟨rfl,rfl,rfl,rfl,rfl,by nofun⟩ ?hw ?hc
 case hw=>w_witness2
 refine L3.walk2 (l:=rw_beatwright_k43_settling) (k:=50) rfl rfl ⟨rfl,by decide,by decide⟩ (λw h Y=>Y) ?F;intro w mg fa h KX G hmg;exact My.all_mk KX G hmg
#print axioms PySem.Challenge.cw_beatwright_k43_settling_holds
