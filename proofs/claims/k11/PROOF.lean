import PyProof.Rows.All
import Wide.All
import OpenK.AllK
import Wide.FinOn
import Lean
import PyProof.EqAt
import PyProof.EqKinds
import PyProof.TupleCall
import PyProof.Draws
import PyProof.EnumMake
import PyProof.EnumFor
import PyProof.TupleIter
import PyProof.P3Eq
import PyProof.EqLayable
import PyProof.ConsumeWalk
import PyProof.ZipIter
import KE.KDictOf
import PyProof.AttrMissHeap
import KE.KPairComp
import KE.KDictList
import KE.KIntText
import PyProof.StrWalks
import PyProof.SliceStr2
import PyProof.StrBlockI
import PyProof.WalksMore
import PyProof.NsDelKeeps
import PySem.Challenge.RW_backhead_k11_whole_one_after
open Array renaming length_toList->lR,toList->nC,getElem?_toList->oo
open Bool renaming false_ne_true->cJ,eq_iff_iff->gO,and_eq_true->dY,or_eq_true->mF,beq_eq_decide_eq->pS
open Classical renaming byContradiction->jW
open Decidable renaming byContradiction->m3
open False renaming elim->eK
open Function renaming comp->nc
open Int renaming fdiv_eq_ediv_of_nonneg->nJ,fmod_eq_emod_of_nonneg->nL,toNat_natCast->gH,toNat_of_nonneg->lh,emod_nonneg->m9,emod_lt_of_pos->ql
open List renaming range->aF,mem_filter->fU,mem_range->bR,filterMap_cons->lN,mem_cons_self->bN,mem_cons_of_mem->bO,mem_cons->aU,mem_append->bX,mem_append_left->eJ,getElem?_eq_some_iff->bE,getElem_inj->gZ,getElem?_set_self->eQ,getElem?_set_ne->dX,mem_filterMap->nH,mem_append_right->dH,length_cons->cD,length_nil->jF,lookup->fZ,map_cons->bI,length_map->aN,append_nil->gB,nodup_cons->dO,of_mem_zip->l6,replicate->aZ,length->l8,length_take->iP,getElem?_append_right->fF,getElem?_replicate->l9,getElem?_append_left->dF,getElem?_map->aY,getElem?_take_of_lt->nX,mem_of_getElem?->cE,length_append->bM,length_replicate->nY,size_toArray->cF,length_set->cQ,replicate_succ->fL,flatten_cons->gR,foldl->kT,append_assoc->kU,foldl_cons->om,length_singleton->cN,length_dropLast->ou,map_nil->mC,lookup_cons->gS,forIn_cons->jQ,all_eq_true->dG,mem_singleton->bW,length_range->cY,getElem?_range->fP,drop_eq_getElem_cons->mL,drop_length->mM,getElem?_eq_getElem->bK,any_cons->fQ,getD->fR,mem_iff_getElem->cS,getElem_mem->bY,mem_map->bA,length_eq_zero_iff->gJ,find?_cons->eF,filter_cons->iW,length_filter_le->la,nodup_nil->mO,zip_cons_cons->lg,forIn_nil->mQ,getD_eq_getElem?_getD->aX,getElem?_set->mS,mem_erase_of_ne->pJ,length_erase_of_mem->pK,length_pos_of_mem->pL,getElem?_eq_none->mT,nodup_append->dZ,cons_append->lp,flatMap_cons->lq,foldl_append->iX,mem_flatMap->jS,dropLast_concat_getLast->mV,getLast?_eq_some_getLast->mW,getElem?_of_mem->eW,take_add_one->lu,take_zero->pN,ext_getElem?->pO,take_length->fG,range_succ->lx,filter_append->mX,map_map->cZ,map_congr_left->dC,map_append->cL,flatMap_append->pP,map_const'->pQ,nodup_range->mZ,getElem?_take->pR,any_map->pT,ext_getElem->jV,idxOf_lt_length_of_mem->p7,getElem_idxOf->p8,getElem_map->eG,pairwise_iff_getElem->p9,take_append_of_le_length->lB,getElem_take->m4,getElem_zip->qb,prefix_refl->lC,prefix_append->m5,take_succ_eq_append_getElem->iG,zipIdx_cons->qd,zipIdx_nil->qe,not_mem_nil->gY,idxOf_cons->m8,length_pos_iff->qk,any_eq_true->jA,getElem_range->lG,getElem?_cons_succ->lH,getElem?_cons_zero->ng,mem_iff_getElem?->qm,range'->cT,range'_succ->jZ,range_eq_range'->nh,set->lJ,map->kA,map_singleton->ni,map_set->nj,take_of_length_le->nq
open List.Nodup renaming idxOf_getElem->qa
open List.Pairwise renaming filter->rg
open Nat renaming lt_of_lt_of_le->cI,lt_irrefl->cV,ne_of_lt->bT,le_trans->bS,le_of_lt->fI,ne_of_gt->jD,le_refl->aP,zero_le->dJ,le_of_eq->fK,lt_succ_self->iB,le_succ->kR,succ_mul->jN,add_comm->jO,lt_of_le_of_lt->iE,lt_succ_of_lt->gE,succ_ne_self->oO,lt_trans->dP,mul_comm->gW,not_lt_zero->mU,zero_add->dQ,succ_le_succ->mY,strongRecOn->pU,pos_of_ne_zero->pV,div_lt_of_lt_mul->pW,mod_lt->lz,mul_le_mul_right->iY,mul_add_div->pX,div_eq_of_lt->pY,mul_add_mod->pZ,mod_eq_of_lt->p0,lt_trichotomy->lA,lt_asymm->p5,lt_or_ge->gX,le_antisymm->p6,le_add_right->jX,mul_pos->qc,mul_le_mul->lI,pow_succ->qp,add_zero->qq,add_le_add->qs,add_sub_cancel->qt
open Ne renaming symm->aQ
open Option renaming isSome_iff_exists->nW,map_some->eL,bind_some->bH,isSome_map->oQ,map_eq_some_iff->eV,bind_eq_some_iff->eA,getD_some->eX,or->qr
open Option.some renaming inj->eP,injEq->ox
open Prod renaming fst->cC,snd->fO
open Prod.mk renaming injEq->pM
open PyProof renaming noPylong_small->nK
open PyProof.Rows renaming IsTup->fH,AllBare->fW,callWith_type1->jE,envOfC->fE,callWith_builtin1->qX,subscriptTail->my,subscriptTail_builtinR->nZ,IntsAre->jP,boot_enumerate->oM,boot_tuple->dW,boot_isinstance->eI,boot_int->nr,boot_str->fS,boot_all->kB
open PyProof.Rows.IsTup renaming new->mu
open PySem renaming Str->aC,Value->aB,World->aO,Tok->cU,Program->aS,Addr->aA,Obj->aL,Heap->aK,sizeLine->aH,sysModules->eY,tupleKind->iH,Within->lK,mainGlobals->aT,builtinsNs->lM,bootBuiltins->fV,Around->bG,Shared->aD,Env->cA,Scope->cB,GenState->lO,Model->hV,storeName->lP,Expr->aG,model->aJ,eval->aW,isTrue->iI,Sem->cW,Pos->aR,backTo->cX,starEach->bD,Stmt->aM,wpAny_mono->eB,wpAny_Name->lQ,wpAny_loadName_local->ny,wpAny_loadName_cell->nz,CmpOp->iJ,compareOp->cP,behindInMarks->hX,wpAny_isTrue_Compare1->nB,wpAny_truthy_bool->iK,standAt->iL,holding->eZ,wpAny_execs_nil->kC,wpAny_execs_cons->nD,swapsWith->dD,assign->eS,assignEach->eT,setItem->kD,wpAny_assign_Name->nE,wpAny_bind->aI,wpAny_holding->jC,wpAny_standAt->lS,swapsWithSole->lT,swappedStores->lU,PassesOwn->kE,wpAny_passesOwn->hZ,pyNext->fA,letOwnedTupleGo->kF,wpAny_pure->bJ,rawInt->fX,wpAny_pyNext_list_item->nF,wpAny_pyNext_list_end->nG,wpAny_pyIter_list->kG,wpAny_pyIter_tuple->iA,foldedSetIterable->gM,binaryOp->dM,rule->gN,intBits_le_64->nI,sizeLine_eq->fB,getMethod->kI,Result->kK,attributeBase->iN,recursionLimit->nQ,cLine->bV,FuncData->bQ,BindsTo->iO,codeAny_mono->kM,wpAny_Call_Name_kw->kO,backToKw->kP,keywordEach->kQ,Keyword->jH,NameKind->gC,bindL->gP,bindC->gQ,cellsFrom->l7,mem_of_lookup->jI,concat_meets->md,noFill_tuple_add->mf,seq_tuple_add->mh,seqIndex_of->mx,subscripted->jJ,getItem->jK,typeIs_int->jM,wpAny_Call_method0_late->oh,evalArgs_none->oi,call_meets->gD,Params->kW,callerA->iD,call->mE,comprehension->oy,wpAny_newObj_type->mG,wpAny_callSpecial?_slot->iR,wpAny_call_entry->iS,field->fM,wpAny_field->eC,wpAny_seqItems->gG,wpAny_setField->oB,wpAny_rule->kY,firstArgMember->oG,Meets->iT,Builtin->fN,IsEnum->kZ,wpAny_pyNext_enum_itemD->oH,wpAny_letOwnedTupleGo_enum->oI,wpAny_attempt->jR,wpAny_isInstance->k4,isSubtype_stop->mK,wpAny_pyIter_enum->k6,PyData->eU,ReadsAll->iU,Reads->iV,valueAt->gU,stored->k7,atKey->gK,tupleKind_room_in1->mN,typeLookup->lb,getitemInPython_of_ne->oS,wpAny_specialOf->oT,letTemporaryGo->oU,wpAny_operating->oV,wpAny_letTemporaryGo->oW,seqSlot_of->pe,wpAny_binaryOp_repeat_ref->pf,sub_AttributeError->pC,getattributeRaised->pD,codeAny_builtin->pE,plainId_quiet->pG,intText?->jT,ZipApart->jY,IsZip->dU,IsPair->cO,wpAny_setField_rec->iZ,wpAny_onRaise->lE,wpAny_updateSeq_pair->m6,wpAny_letGo->m7,wpAny_pyIter_zip->qj,boot_len->bP
open PySem.Around renaming under->lY,under_plainId->pF
open PySem.AutoSeq1 renaming idx_int->o8
open PySem.Builtin.Dict renaming pairItems->q0,selfAndRest->q9,updateFrom->pH
open PySem.Builtin.List renaming listTooLong->mz
open PySem.Builtin.Range renaming rangeSize->qy
open PySem.Builtin.SmallTypes renaming nextOf->gT,ownedTupleIsFree->lD,ownedTupleHandOut->qg
open PySem.Builtin.Tuple renaming tupleCompareSizes->qZ,tupleTooMany->pb
open PySem.Calls renaming Name_function_global->nA,spliced_nil->nS,spliced_cons->nT,callWith_builtin->kS,evalArgs_plain->oj
open PySem.Code renaming frames->nR,isFrame->lZ
open PySem.EqMixed renaming eq_bool_str->qE,eq_int_str->qG,eq_str_bool->qI,eq_str_int->qJ,ne_bool_str->qP,ne_int_str->qR,ne_str_bool->qT,ne_str_int->qU
open PySem.EqNone renaming eq_none_none->qz,eq_none_bool->qA,eq_none_int->qB,eq_none_str->qC,eq_bool_none->qD,eq_int_none->qF,eq_str_none->qH,ne_none_none->qK,ne_none_bool->qL,ne_none_int->qM,ne_none_str->qN,ne_bool_none->qO,ne_int_none->qQ,ne_str_none->qS
open PySem.F renaming slot_tuple_add->mi,entry_tuple_add->mj,args_tuple_add_2->mq,slot_list_append->cM,slot_list_extend->mB,slot_list_pop->oq,slot_tuple_iterator_next->kX,entry_tuple_iterator_next->oz,args_tuple_iterator_next_1->oA,slot_enumerate_next->k3,entry_enumerate_next->oJ,args_enumerate_next_1->oK,slot_dict_pop->oR,slot_dict_getitem->oX,plainAttrs_dict->oZ,slot_list_index->mP,slot_tuple_mul->lj,slot_tuple_rmul->pd,fills_int_mul->ph,slot_int_rmul->ll,slot_int_index->pj,entry_int_rmul->pw,args_int_rmul_2->pz,entry_tuple_mul->pA,args_tuple_mul_2->pB,slot_list_getattribute->mR,slot_dict_items->pI,slot_zip_next->lF,entry_zip_next->qh,args_zip_next_1->qi,plainAttrs_list->cG,type_list_append->cR,type_list_extend->qu,type_list_index->qv
open PySem.Heap renaming lt_size->bF,SameBut->jB,get?_push_of_some->bB,get?_push_size->cK,size_push->fJ,get?_update_self->oa,get?_update_other->og,ExtBut->oF,IsTuple->mH
open PySem.Heap.DictOf renaming new->oY
open PySem.Heap.SameBut renaming update->oC
open PySem.Obj renaming mapSeq->jL,data_mapFields->oE
open PySem.PassesOwn renaming never->cH
open PySem.PyData renaming strOk->eD,canLay0->eM,canLayAll0->gI,eqv->bL,depth->iF,depthAll->ly,eqvAll->jU
open PySem.SeqAt renaming shaped->bZ,canLay_of_shaped->eE,in_tupleAt->oP
open PySem.SeqAt.EqAt renaming int_str->qw,str_int->qx
open PySem.SeqAt.Reads renaming unique->qY
open PySem.Shared renaming heap->mJ
open PySem.Str renaming empty->lX,ofString->gF
open PySem.Value renaming isInt->nt,isStrOf->nv
open PySem.W renaming instObj->gL,methodObj->lL,Frag->aE,lookIn->kH,plainGet->iM,hasDictIn->jG,findIn->bU,handedIn->nM,plainGet_of->lV,isFn->fC,plainOver->kJ,takerIn->lW,makesIn->kL,emptyDict->fY,keepIn->gA,kitOne->nN,kia_one->fD,kitx_list->nO,kitx_dict->nP,callWith_K->l5,methodCall_KW->nU,cellsFrom_some->nV,fnOf->iC,codeIn->ma,OpenLaw->iQ,WalkO->mD,nsIn->aV,mg_of->bC,mg_none_of->eN
open PySem.W.KIN renaming call_text->rf
open PySem.W.Looks renaming here->qV
open PySem.W.WShape renaming has->ow
open PySem.Within renaming cons->qW
set_option Elab.async false
set_option linter.all false
set_option maxRecDepth 100000
set_option maxHeartbeats 4000000
namespace L2
open PySem PySem.Spec PyProof.Rows
abbrev Key:=Sum Int aC
def XG:Key->aB->Bool
 | .inl k,v=>nt k v
 | .inr x,v=>nv x v
def zmn(w:aO):Key->Int
 | .inl k=>hashInt k
 | .inr x=>hashStr w x
theorem xx:∀{k:Key} {v:aB},XG k v=true->(∃i t,k=Sum.inl i/\v=Value.int i t)\/(∃x t,k=Sum.inr x/\v=Value.str x t)
 | .inl i,v,h=>by
  obtain⟨t,e⟩:=Value.isInt_shape (k:=i) (v:=v) h
  exact .inl ⟨i,t,rfl,e⟩
 | .inr x,v,h=>by
  obtain⟨t,e⟩:=Value.isStrOf_shape (x:=x) (v:=v) h
  exact .inr ⟨x,t,rfl,e⟩
theorem zek(i:Int)(t:cU):XG (.inl i) (.int i t)=true:=by simp[XG,nt]
theorem zel(x:aC)(t:cU):XG (.inr x) (.str x t)=true:=by simp[XG,nv]
theorem zjd(a b:Int):decide ((Sum.inl a:Key)=Sum.inl b)=(a==b):=by
 by_cases e:a=b
 ·subst e;simp
 ·have h:¬(Sum.inl a:Key)=Sum.inl b:=λq=>e (Sum.inl.inj q)
  rw[decide_eq_false h]
  exact(beq_eq_false_iff_ne.mpr e).symm
theorem zje(a b:aC):decide ((Sum.inr a:Key)=Sum.inr b)=decide (a=b):=by
 by_cases e:a=b
 ·subst e;simp
 ·have h:¬(Sum.inr a:Key)=Sum.inr b:=λq=>e (Sum.inr.inj q)
  rw[decide_eq_false h,decide_eq_false e]
theorem zjf(a:Int)(b:aC):decide ((Sum.inl a:Key)=Sum.inr b)=false:=decide_eq_false (λq=>nomatch q)
theorem zjg(a:aC)(b:Int):decide ((Sum.inr a:Key)=Sum.inl b)=false:=decide_eq_false (λq=>nomatch q)
def yg(prog:aS)(w:aO):PySem.KeyKind prog w Key where
 is:=XG
 hash:=zmn w
 inj:=λv a b ha hb=>by
  rcases xx ha with⟨i,t,rfl,rfl⟩|⟨x,t,rfl,rfl⟩
  ·rcases xx hb with⟨j,u,rfl,e⟩|⟨y,u,rfl,e⟩
   ·injection e with e1 _;rw[e1]
   ·exact nomatch e
  ·rcases xx hb with⟨j,u,rfl,e⟩|⟨y,u,rfl,e⟩
   ·exact nomatch e
   ·injection e with e1 _;rw[e1]
 byValue:=λk v h=>by
  rcases xx h with⟨i,t,rfl,rfl⟩|⟨x,t,rfl,rfl⟩ <;>rfl
 pyHash:=λhv h=>by
  rcases xx hv with⟨i,t,rfl,rfl⟩|⟨x,t,rfl,rfl⟩
  ·exact wpAny_pyHash_int h
  ·exact wpAny_pyHash_str h
 eqBool:=λhu hv h=>by
  rcases xx hu with⟨i,t,rfl,rfl⟩|⟨x,t,rfl,rfl⟩
  ·rcases xx hv with⟨j,u,rfl,rfl⟩|⟨y,u,rfl,rfl⟩
   ·rw[zjd]at h;exact wpAny_eqBool_int h
   ·rw[zjf]at h;exact qw i t y u _ _ _ _ h
  ·rcases xx hv with⟨j,u,rfl,rfl⟩|⟨y,u,rfl,rfl⟩
   ·rw[zjg]at h;exact qx x t j u _ _ _ _ h
   ·rw[zje]at h;exact wpAny_eqBool_str h
 «strs»:=λk x t v h=>by
  rcases xx h with⟨i,u,rfl,e⟩|⟨y,u,rfl,e⟩
  ·exact nomatch e
  ·injection e with e1 _
   subst e1
   cases v <;>rfl
theorem zbr(prog:aS)(w:aO)(i:Int)(t:cU):(yg prog w).is (.inl i) (.int i t)=true:=zek i t
theorem zbs(prog:aS)(w:aO)(x:aC)(t:cU):(yg prog w).is (.inr x) (.str x t)=true:=zel x t
end L2
namespace L2
open PySem PySem.Spec PyProof.Rows
inductive V where
 | non|bl (b:Bool)|int (i:Int)|str (x:aC)|byt (b:Array UInt8)|flt (b:UInt64)|ref (a:aA)|ty (n:String)
 deriving DecidableEq
def zQ:V->aB->Prop
 | .non,u=>u=Value.none
 | .bl b,u=>u=Value.bool b
 | .int i,u=>∃t,u=Value.int i t
 | .str x,u=>∃t,u=Value.str x t
 | .byt b,u=>∃t,u=Value.bytes b t
 | .flt b,u=>∃t,u=Value.float b t
 | .ref a,u=>u=Value.ref a
 | .ty n,u=>u=Value.type n
abbrev zO:List V->List aB->Prop:=Paired zQ
theorem zO.length(r:zO xs us):xs.length=us.length:=Paired.length r
theorem zO.get:∀{xs:List V} {us:List aB} {i:Nat} {x:V},zO xs us->xs[i]?=some x->∃u,us[i]?=some u/\zQ x u
 | _,_,_,_,.nil,e=>by simp at e
 | _,_,0,_,.cons r _,e=>by simp at e;subst e;exact⟨_,rfl,r⟩
 | _,_,i+1,x,.cons _ t,e=>by
  obtain⟨u,h1,h2⟩:=zO.get (i:=i) (x:=x) t (by simpa using e)
  exact⟨u,by simpa using h1,h2⟩
theorem zO.set(r:zQ x u):∀{xs:List V} {us:List aB} (i:Nat),zO xs us->zO (xs.set i x) (us.set i u)
 | _,_,_,.nil=>.nil
 | _,_,0,.cons _ t=>.cons r t
 | _,_,i+1,.cons q t=>.cons q (zO.set r i t)
theorem zO.append:∀{xs ys:List V} {us ws:List aB},zO xs us->zO ys ws->zO (xs++ys) (us++ws)
 | _,_,_,_,.nil,s=>s
 | _,_,_,_,.cons r t,s=>.cons r (zO.append t s)
def vg:Option V->Option aB->Prop
 | some v,some u=>zQ v u
 | none,none=>True
 | _,_=>False
def KV{κ:Type}:List (κ×V)->List (κ×aB)->Prop:=Paired λ(p:κ×V) (q:κ×aB)=>p.1=q.1/\zQ p.2 q.2
def kV:Key->V
 | .inl i=>.int i
 | .inr x=>.str x
inductive HO where
 | lst (xs:List V)
 | tup (xs:List V)
 | dK (kvs:List (Key×V))|dT (kvs:List (List Key×V))
 | set (S:Int->Bool) (n:Nat)
 | ins (C dx:aA) (fs:List (aC×V))
 | own (x:aA)
 | xd (fs:List (aC×V))
 | met (f x:aA)
 | rng (lo hi:Int)
 | frz (o:aL) (u:HO)
 | tbl (ps:Array aB)
 | ext (φ:aK->Prop)
abbrev Hp:=aA->Option HO
def upd(H:Hp)(a:aA)(o:HO):Hp:=λb=>if b=a then some o else H b
theorem zk:upd H a o a=some o:=by unfold upd;rw[if_pos rfl]
theorem ze(h:b≠a):upd H a o b=H b:=by unfold upd;rw[if_neg h]
theorem zh6:upd (upd H a o) a u=upd H a u:=by
 funext b;unfold upd;split <;>rfl
theorem vX{H:Hp}{a b:aA}{o u:HO}(h:H a=some o)(h':H b=some u)(d:o≠u):a≠b:=by
 intro e;subst e;rw[h]at h';exact d (eP h')
theorem zt{H:Hp}{a b:aA}{o:HO}(h:H a=some o)(h':H b=none):a≠b:=by
 intro e;subst e;rw[h]at h';cases h'
section
variable (P:aS) (w:aO)
def yK(H:Hp)(h:aK)(a:aA):HO->Prop
 | .lst xs=>xs.length<=aH/\∃(its:List aB) (n:Nat),zO xs its/\h.get? a=some {cls:=.type "list",data:=.seq its.toArray n}
 | .tup xs=>xs.length<=aH/\∃its:List aB,zO xs its/\fH h a its.toArray
 | .dK kvs=>kvs.length<=aH/\(a==eY)=false/\∃vs,KV kvs vs/\h.DictOf (yg P w) a vs
 | .dT kvs=>kvs.length<=aH/\(a==eY)=false/\∃xs:List (List Key×aA×aB),
  Paired (λ(p:List Key×V) (q:List Key×aA×aB)=>p.1=q.1/\H q.2.1=some (.tup (p.1.map kV))/\zQ p.2 q.2.2) kvs xs/\
  ∃o es ep,h.get? a=some o/\o.ExactDict/\o.data=.dict es ep/\es.toList=xs.map (entryOfKey (iH (yg P w)))/\(xs.map (·.1)).Nodup
 | .set S n=>h.SetOf (intKind P w) a S n
 | .ins C dx fs=>H dx=some (.own a)/\fs.length<=1000/\dx≠a/\h.get? a=some (gL C dx)/\
  ∃mA,h.Ns1 dx mA/\(∀f,vg (fs.lookup f) (mA f))/\lK mA (fs.map (·.1))
 | .own _=>∃o,h.get? a=some o
 | .xd fs=>∃mA,h.Ns1 a mA/\∀f,vg (fs.lookup f) (mA f)
 | .rng lo hi=>∃t u v,h.get? a=some {cls:=.type "range",data:=.fields #[.int lo t,.int hi u,.int 1 v]}
 | .frz o u=>h.get? a=some o/\yK H h a u
 | .tbl ps=>h.get? a=some {cls:=.none,data:=.fields ps}
 | .met f x=>h.get? a=some (lL (.ref f) (.ref x))
 | .ext φ=>φ h/\(∃o,h.get? a=some o)/\∀h1 h2:aK,φ h1->(∀o,h1.get? a=some o->h2.get? a=some o)->φ h2
def HOk(H:Hp)(h:aK):Prop:=∀a o,H a=some o->yK P w H h a o
end
section
variable {P:aS} {w:aO} {H H':Hp} {h h':aK} {a:aA} {o:HO}
theorem yK.lt(x:yK P w H h a o):a<h.objs.size:=by
 cases o with
 | lst xs=>obtain⟨_,_,_,_,e⟩:=x;exact bF e
 | tup xs=>obtain⟨_,_,_,p⟩:=x;exact p.lt
 | dK kvs=>obtain⟨_,_,_,_,o,_,_,e,_⟩:=x;exact bF e
 | dT kvs=>obtain⟨_,_,_,_,o,_,_,e,_⟩:=x;exact bF e
 | set S n=>obtain⟨o,_,_,_,e,_⟩:=x;exact bF e
 | ins C dx fs=>obtain⟨_,_,_,e,_⟩:=x;exact bF e
 | own y=>obtain⟨_,e⟩:=x;exact bF e
 | xd fs=>obtain⟨_,⟨_,_,_,e,_⟩,_⟩:=x;exact bF e
 | rng lo hi=>obtain⟨_,_,_,e⟩:=x;exact bF e
 | frz j u=>obtain⟨e,_⟩:=x;exact bF e
 | tbl ps=>exact bF (show h.get? a=some _ from x)
 | met f y=>exact bF (show h.get? a=some _ from x)
 | ext φ=>obtain⟨_,⟨_,e⟩,_⟩:=x;exact bF e
theorem Paired.mapP{α β:Type}{F G:α->β->Prop}:∀{l₁:List α} {j:List β},Paired F l₁ j->(∀a b,F a b->G a b)->Paired G l₁ j
 | _,_,.nil,_=>.nil
 | _,_,.cons r t,f=>.cons (f _ _ r) (Paired.mapP t f)
theorem yK.stay(x:yK P w H h a o)(k:∀b u,(b=a\/H b=some (.own a))->h.get? b=some u->h'.get? b=some u) 
  (J:∀b,H b=some (.own a)->H' b=some (.own a)) (O:∀b xs,H b=some (.tup xs)->H' b=some (.tup xs)):yK P w H' h' a o:=by
 induction o with
 | lst xs=>obtain⟨z,its,n,r,e⟩:=x;exact⟨z,its,n,r,k _ _ (.inl rfl) e⟩
 | tup xs=>obtain⟨z,its,r,j,e,c⟩:=x;exact⟨z,its,r,j,k _ _ (.inl rfl) e,c⟩
 | dK kvs=>obtain⟨z,y,vs,r,j,es,ep,e,c⟩:=x;exact⟨z,y,vs,r,j,es,ep,k _ _ (.inl rfl) e,c⟩
 | dT kvs=>
  obtain⟨z,y,xs,r,j,es,ep,e,c⟩:=x
  exact⟨z,y,xs,Paired.mapP r λp q z=>⟨z.1,O _ _ z.2.1,z.2.2⟩,j,es,ep,k _ _ (.inl rfl) e,c⟩
 | set S n=>obtain⟨j,es,ep,t,e,c⟩:=x;exact⟨j,es,ep,t,k _ _ (.inl rfl) e,c⟩
 | ins C dx fs=>
  obtain⟨d,z,ne,e,mA,⟨I,es,ep,R,c⟩,r⟩:=x
  exact⟨J _ d,z,ne,k _ _ (.inl rfl) e,mA,⟨I,es,ep,k _ _ (.inr d) R,c⟩,r⟩
 | own y=>obtain⟨j,e⟩:=x;exact⟨j,k _ _ (.inl rfl) e⟩
 | xd fs=>obtain⟨mA,⟨I,es,ep,e,c⟩,r⟩:=x;exact⟨mA,⟨I,es,ep,k _ _ (.inl rfl) e,c⟩,r⟩
 | rng lo hi=>obtain⟨t,u,v,e⟩:=x;exact⟨t,u,v,k _ _ (.inl rfl) e⟩
 | frz j u U=>obtain⟨e,q⟩:=x;exact⟨k _ _ (.inl rfl) e,U q⟩
 | tbl ps=>
  have e:h.get? a=some {cls:=.none,data:=.fields ps}:=x
  show h'.get? a=some {cls:=.none,data:=.fields ps}
  exact k a _ (.inl rfl) e
 | met f y=>
  have e:h.get? a=some (lL (.ref f) (.ref y)):=x
  show h'.get? a=some (lL (.ref f) (.ref y))
  exact k a _ (.inl rfl) e
 | ext φ=>obtain⟨p,⟨o,e⟩,st⟩:=x;exact⟨st _ _ p λo q=>k _ _ (.inl rfl) q,⟨o,k _ _ (.inl rfl) e⟩,st⟩
theorem HOk.lt(x:HOk P w H h)(e:H a=some o):a<h.objs.size:=(x a o e).lt
theorem HOk.fresh(x:HOk P w H h)(e:h.objs.size<=a):H a=none:=by
 cases q:H a with
 | none=>rfl
 | some u=>exact absurd (cI (x.lt q) e) (cV _)
theorem HOk.kept(x:HOk P w H h)(k:∀b u,h.get? b=some u->h'.get? b=some u):HOk P w H h':=λa o e=>
 (x a o e).stay (λb u _ q=>k b u q) (λ_ q=>q) λ_ _ q=>q
theorem HOk.laid(x:HOk P w H h)(k:∀b u,h.get? b=some u->h'.get? b=some u)(I:h.objs.size<=a)(new:yK P w (upd H a o) h' a o):HOk P w (upd H a o) h':=λb u e=>by
 have j:=x.fresh I
 by_cases z:b=a
 ·subst z;rw[zk]at e;cases e;exact new
 ·rw[ze z]at e
  exact(x b u e).stay (λc v _ q=>k c v q) (λc q=>by rw[ze (zt q j)];exact q) λc xs q=>by rw[ze (zt q j)];exact q
end
def Rd(H:Hp)(a:aA)(u:HO):Prop:=H a=some u\/∃o,H a=some (.frz o u)
theorem Rd.ok(r:Rd H a u)(x:HOk P w H h):yK P w H h a u:=by
 rcases r with r|⟨o,r⟩
 ·exact x a u r
 ·obtain⟨_,q⟩:=x a _ r
  exact q
def Mut:Option HO->Prop
 | some (.lst _)=>True
 | some (.dK _)=>True
 | some (.dT _)=>True
 | some (.set _ _)=>True
 | some (.ins _ _ _)=>True
 | some (.ext _)=>True
 | _=>False
section
variable {P:aS} {w:aO} {H:Hp} {h h':aK} {x e:aA} {o':HO}
theorem HOk.write(ok:HOk P w H h)(O:Mut (H x))(Z:e=x\/H e=some (.own x))(k:∀b u,b≠e->h.get? b=some u->h'.get? b=some u)(Y:∃u,h'.get? e=some u) 
  (new:yK P w (upd H x o') h' x o'):HOk P w (upd H x o') h':=λb u q=>by
 have I:∀c y,H c=some (.own y)->c≠x:=λc y r z=>by subst z;rw[r]at O;exact O
 have J:∀c xs,H c=some (.tup xs)->c≠x:=λc xs r z=>by subst z;rw[r]at O;exact O
 by_cases R:b=x
 ·subst R;rw[zk]at q;cases q;exact new
 ·rw[ze R]at q
  by_cases j:b=e
  ·have q':H b=some (.own x):=by
    rcases Z with z|z
    ·exact absurd (j.trans z) R
    ·rw[j];exact z
   rw[q]at q';cases q'
   obtain⟨v,hv⟩:=Y
   exact⟨v,by rw[j];exact hv⟩
  ·refine(ok b u q).stay (λc v U r=>k c v ?_ r) (λc r=>by rw[ze (I c b r)];exact r) λc xs r=>by rw[ze (J c xs r)];exact r
   rcases U with rfl|U
   ·exact j
   ·rintro rfl
    rcases Z with z|z
    ·exact I c b U z
    ·rw[U]at z;cases z;exact R rfl
end
structure Un (fs ex:List aA) (H H':Hp) (h h':aK):Prop where
 keep:∀b o,h.get? b=some o->H b=none->b∉fs->b∉ex->h'.get? b=some o
 slot:∀b o,h.get? b=some o->H b=none->b∈fs->b∉ex->∃sl,h'.get? b=some {o with slots:=sl}
 free:∀b o,h.get? b=some o->H b=none->b∉ex->H' b=none
 there:∀b o,h.get? b=some o->b∉ex->∃o',h'.get? b=some o'
 tups:∀b xs,H b=some (.tup xs)->H' b=some (.tup xs)
 frzs:∀b o u,H b=some (.frz o u)->H' b=some (.frz o u)
 tbls:∀b ps,H b=some (.tbl ps)->∃more,H' b=some (.tbl (ps++more))
section
variable {fs fs' ex ex':List aA} {H H1 H2:Hp} {h h1 h2 h':aK} {a x e:aA} {o:HO}
theorem Un.any(u:Un fs ex H H1 h h1)(q:h.get? b=some j)(n:H b=none)(z:b∉ex):∃J,h1.get? b=some {j with slots:=J}:=by
 by_cases I:b∈fs
 ·exact u.slot b j q n I z
 ·exact⟨j.slots,u.keep b j q n I z⟩
theorem Un.kept(k:∀b u,h.get? b=some u->h'.get? b=some u):Un fs ex H H h h' :=
 ⟨λb j q _ _ _=>k b j q,λb j q _ _ _=>⟨j.slots,k b j q⟩,λ_ _ _ n _=>n,λb j q _=>⟨j,k b j q⟩,λ_ _ q=>q,λ_ _ _ q=>q,λ_ ps q=>⟨#[],by rw[q];simp⟩⟩
theorem Un.refl:Un fs ex H H h h:=Un.kept λ_ _ q=>q
theorem Un.laid(k:∀b u,h.get? b=some u->h'.get? b=some u)(hp:h.objs.size<=a)(hn:H a=none):Un fs ex H (upd H a o) h h' where
 keep:=λb u q _ _ _=>k b u q
 slot:=λb u q _ _ _=>⟨u.slots,k b u q⟩
 free:=λb u q n _=>by rw[ze (bT (cI (bF q) hp))];exact n
 there:=λb u q _=>⟨u,k b u q⟩
 tups:=λb xs q=>by rw[ze (zt q hn)];exact q
 frzs:=λb u xs q=>by rw[ze (zt q hn)];exact q
 tbls:=λb ps q=>⟨#[],by rw[ze (zt q hn),q];simp⟩
theorem Un.write(I:Mut (H x))(Y:e=x\/H e=some (.own x))(k:∀b u,b≠e->h.get? b=some u->h'.get? b=some u)(J:∃u,h'.get? e=some u):Un fs ex H (upd H x o) h h':=by
 have R:∀b,H b=none->b≠x:=λb n z=>by subst z;rw[n]at I;exact I
 have U:∀b,H b=none->b≠e:=λb n z=>by
  subst z
  rcases Y with r|r
  ·exact R b n r
  ·rw[n]at r;cases r
 have O:∀b u,H b=some u->¬Mut (some u)->b≠x:=λb u q nm z=>by subst z;rw[q]at I;exact nm I
 refine⟨λb u q n _ _=>k b u (U b n) q,λb u q n _ _=>⟨u.slots,k b u (U b n) q⟩,λb u q n _=>by rw[ze (R b n)];exact n,λb u q _=>?_,
  λb xs q=>by rw[ze (O b _ q λz=>z)];exact q,λb u xs q=>by rw[ze (O b _ q λz=>z)];exact q,λb ps q=>⟨#[],by rw[ze (O b _ q λz=>z),q];simp⟩⟩
 by_cases j:b=e
 ·subst j;exact J
 ·exact⟨u,k b u j q⟩
end
def trk(h:aK)(H:Hp):List aA:=(aF h.objs.size).filter λa=>(H a).isSome
def Yr(h:aK)(H:Hp):aK:=PySem.W.hideAll h (trk h H)
theorem zem(h:aK)(H:Hp):(Yr h H).objs.size=h.objs.size:=PySem.W.hideAll_size _ _
theorem zfH(e:h.get? b=some o)(n:H b=none):(Yr h H).get? b=some o :=
 PySem.W.hideAll_get _ e λj=>by
  have q:(H b).isSome=true:=(fU.mp j).2
  rw[n]at q;simp at q
theorem zh7(e:(Yr h H).get? b=some o):h.get? b=some o/\H b=none:=by
 have j:h.get? b=some o:=PySem.W.of_hideAll (trk h H) e
 refine⟨j,?_⟩
 cases q:H b with
 | none=>rfl
 | some x=>
  have I:b∈trk h H:=fU.mpr ⟨bR.mpr (bF j),by simp[q]⟩
  have z:(Yr h H).get? b=none:=PySem.W.hideAll_none (trk h H) I
  rw[z]at e;cases e
end L2
namespace L2
open PySem PySem.Spec PyProof.Rows
structure Mod (K:aE) (mg:aC->Option aB) (base:aK):Prop where
 kin:K.In base
 glob:base.Ns aT mg
 blt:∃mb,base.Ns lM mb/\∀x:aC,x≠"__name__"->mb x=fV x
 nolimit:base.NoLimit
structure Cx where
 prog:aS
 w:aO
 K:aE
 mg:aC->Option aB
 base:aK
 A:bG
 N:List aC
 s₀:aD
 H₀:Hp
 env:cA
 outer:List cA
 stack:List cA
 ex:List aA
 fn:aC->Bool
 calm:Bool
 pn:List (aA×aL)
 xe:aB->aD->Prop
def frs(l:List cA):List aA:=l.filterMap (·.frame)
abbrev Cx.fs(X:Cx):List aA:=frs X.outer
def Vis(j:cB)(x:aC):Prop:=j.names.lookup x=some .local\/j.names.lookup x=some .cell\/j.names.lookup x=some .free
def Loc(j:cB)(x:aC):Prop:=j.names.lookup x=some .local\/j.names.lookup x=some .cell
def zmo(env:cA)(h:aK)(m:aC->Option aB)(x:aC)(u:aB):Prop :=
 (env.kindOf x=some .local/\m x=some u)\/((env.kindOf x=some .cell\/env.kindOf x=some .free)/\∃c,env.cells.lookup x=some c/\h.IsCell c (some u))
structure Cx.Ok (X:Cx):Prop where
 mod:Mod X.K X.mg X.base
 kind:X.env.scope.kind=.function
 glob:X.env.globals=aT
 blt:X.env.builtins=lM
 above:X.s₀.heap.objs.size<=X.env.locals
 inj:∀x y c,X.env.cells.lookup x=some c->X.env.cells.lookup y=some c->x=y
 has:∀x,(X.env.kindOf x=some .cell\/X.env.kindOf x=some .free)->∃c,X.env.cells.lookup x=some c
 cab:∀x c,X.fn x=true->X.env.cells.lookup x=some c->X.s₀.heap.objs.size<=c
 hd:X.calm=true->X.A.handled=none
 frames:X.A.frames=some X.stack
 stk:X.stack=X.outer\/(X.stack=X.env::X.outer/\X.env.frame=some X.env.locals)
 exf:∀b∈X.ex,b≠X.env.locals/\∀x c,X.env.cells.lookup x=some c->c≠b
 bs:∀b o,X.base.get? b=some o->X.s₀.heap.get? b=some o/\X.H₀ b=none
 bsz:X.base.objs.size<=X.s₀.heap.objs.size
 noex:∀b o,X.base.get? b=some o->b∉X.ex
 exfs:∀b∈X.ex,b∉X.fs
 funs:X.s₀.heap.FunFrames X.base X.outer
 frf:∀b∈X.fs,X.H₀ b=none
structure Inv (X:Cx) (pins:List (aA×aL)) (σ:List (Option V)) (H:Hp) (s:aD):Prop where
 ok:X.Ok
 os:s.os=X.s₀.os
 bare:fW s.gens
 base:Un X.fs X.ex X.H₀ H X.s₀.heap s.heap
 loc:∃m,s.heap.Ns X.env.locals m/\∀(i:Nat) (x:aC) (v:V),X.N[i]?=some x->σ[i]?=some (some v)->Vis X.env.scope x->∃u,zQ v u/\zmo X.env s.heap m x u
 cell:∀x c,X.env.cells.lookup x=some c->∃v,s.heap.IsCell c v
 free:H X.env.locals=none
 freeC:∀x c,X.env.cells.lookup x=some c->H c=none
 pin:∀p∈X.pn++pins,s.heap.get? p.1=some p.2/\H p.1=none/\p.1≠X.env.locals/\p.1∉X.fs/\∀v,p.2.data≠.cell v
 hok:HOk X.prog X.w H s.heap
 len:σ.length=X.N.length
section
variable {X:Cx} {pins:List (aA×aL)} {σ:List (Option V)} {H H':Hp} {s:aD} {h':aK}
theorem Cx.Ok.nofr(ok:X.Ok)(e:X.base.get? b=some o):b∉X.fs:=λj=>by
 have:=(ok.funs.mem j).1
 rw[e]at this;cases this
theorem Inv.bs(I:Inv X pins σ H s):∀b o,X.base.get? b=some o->s.heap.get? b=some o/\H b=none:=λb o e=>
 ⟨I.base.keep b o (I.ok.bs b o e).1 (I.ok.bs b o e).2 (I.ok.nofr e) (I.ok.noex b o e),I.base.free b o (I.ok.bs b o e).1 (I.ok.bs b o e).2 (I.ok.noex b o e)⟩
theorem Inv.bk(I:Inv X pins σ H s):∀b o,X.base.get? b=some o->s.heap.get? b=some o:=λb o e=>(I.bs b o e).1
theorem Inv.mod(I:Inv X pins σ H s):Mod X.K X.mg X.base:=I.ok.mod
theorem Inv.kIn(I:Inv X pins σ H s):X.K.In s.heap:=I.ok.mod.kin.keeps I.bk
theorem Inv.lt(I:Inv X pins σ H s):X.env.locals<s.heap.objs.size:=(by obtain⟨_,j,_⟩:=I.loc;exact j.lt)
theorem Inv.sz(I:Inv X pins σ H s):X.s₀.heap.objs.size<=s.heap.objs.size:=bS I.ok.above (fI I.lt)
theorem Inv.nofs(I:Inv X pins σ H s)(h:s.heap.objs.size<=a):a∉X.fs:=λj=>by
 obtain⟨_,o,q,_⟩:=I.ok.funs.mem j
 exact absurd (cI (bF q) (bS I.sz h)) (cV _)
theorem Inv.cne(I:Inv X pins σ H s):∀x c,X.env.cells.lookup x=some c->c≠X.env.locals:=λx c e z=>by
 obtain⟨v,o,J,O⟩:=I.cell x c e
 obtain⟨m,⟨o',es,ep,j,q,_⟩,_⟩:=I.loc
 rw[z,j]at J;cases J;rw[q]at O;cases O
theorem Inv.funs(I:Inv X pins σ H s):s.heap.FunFrames X.base X.outer:=by
 have all:∀(l:List cA),(∀b∈frs l,b∈X.fs)->X.s₀.heap.FunFrames X.base l->s.heap.FunFrames X.base l:=by
  intro l
  induction l with
  | nil=>intro _ _;trivial
  | cons env r R=>
   intro O U
   obtain⟨Y,⟨L,o,j,Z,ho,hd⟩,hr⟩:=U
   have q:L∈X.fs:=O L (by unfold frs;rw[lN,j];exact bN)
   obtain⟨sl,e⟩:=I.base.slot L o ho (I.ok.frf L q) q λz=>I.ok.exfs L z q
   exact⟨Y,⟨L,_,j,Z,e,hd⟩,R (λb J=>O b (by unfold frs;rw[lN,j];exact bO _ J)) hr⟩
 exact all X.outer (λ_ J=>J) I.ok.funs
theorem Inv.stack(I:Inv X pins σ H s):s.heap.FunFrames X.base X.stack:=by
 rcases I.ok.stk with e|⟨e,j⟩
 ·rw[e];exact I.funs
 ·rw[e]
  obtain⟨m,q,_⟩:=I.loc
  refine .cons (by rw[I.ok.kind];decide) j q ?_ I.funs
  exact Heap.get?_none_of_le (bS I.ok.bsz I.ok.above)
theorem Inv.stkSub(I:Inv X pins σ H s):∀b∈frs X.stack,b∈X.env.locals::X.fs:=λb j=>by
 rcases I.ok.stk with e|⟨e,q⟩
 ·rw[e]at j;exact bO _ j
 ·rw[e]at j
  unfold frs at j
  rw[lN,q]at j
  exact j
theorem Inv.stkFree(I:Inv X pins σ H s):∀b∈frs X.stack,H b=none:=λb j=>by
 rcases aU.mp (I.stkSub b j)with e|j
 ·rw[e];exact I.free
 ·obtain⟨_,o,q,_⟩:=I.ok.funs.mem j
  exact I.base.free b o q (I.ok.frf b j) λz=>I.ok.exfs b z j
theorem Inv.step{g':Array lO}{t':Nat}{d':Drawn}{ch:List aA}(I:Inv X pins σ H s) 
  (J:∀b∈ch,(b∈X.ex\/X.s₀.heap.objs.size<=b)/\b≠X.env.locals/\(∀x c,X.env.cells.lookup x=some c->c≠b)/\∀p∈X.pn++pins,p.1≠b)
  (O:∀b o,b≠X.env.locals->b∉X.fs->b∉ch->s.heap.get? b=some o->H b=none->h'.get? b=some o)
  (aa:∀b o,b≠X.env.locals->b∈X.fs->b∉ch->s.heap.get? b=some o->H b=none->∃sl,h'.get? b=some {o with slots:=sl}) (free:∀b o,b∉ch->s.heap.get? b=some o->H b=none->H' b=none)
  (ab:∀b o,b∉ch->s.heap.get? b=some o->∃o',h'.get? b=some o')
  (ac:∀b xs,H b=some (.tup xs)->H' b=some (.tup xs)) (ad:∀b o u,H b=some (.frz o u)->H' b=some (.frz o u)) (ae:∀b ps,H b=some (.tbl ps)->∃af,H' b=some (.tbl (ps++af)))
  (ns:∀m,s.heap.Ns X.env.locals m->h'.Ns X.env.locals m) (ai:HOk X.prog X.w H' h') (hg:fW g') :
  Inv X pins σ H' {s with heap:=h',gens:=g',drawn:=d',toks:=t'}:=by
 have ag:∀b o,X.s₀.heap.get? b=some o->b≠X.env.locals:=λb o e=>bT (cI (bF e) I.ok.above)
 have Y:∀b o,X.s₀.heap.get? b=some o->b∉X.ex->b∉ch:=λb o e j hb=>by
  rcases(J b hb).1 with z|z
  ·exact j z
  ·exact absurd (cI (bF e) z) (cV _)
 have R:∀x c,X.env.cells.lookup x=some c->∀v,s.heap.IsCell c v->h'.IsCell c v:=λx c e v ah=>by
  obtain⟨o,ho,hd⟩:=ah
  have U:c∉ch:=λz=>(J c z).2.2.1 x c e rfl
  by_cases hc:c∈X.fs
  ·obtain⟨sl,q⟩:=aa c o (I.cne x c e) hc U ho (I.freeC x c e)
   exact⟨_,q,hd⟩
  ·exact⟨o,O c o (I.cne x c e) hc U ho (I.freeC x c e),hd⟩
 refine⟨I.ok,I.os,hg,⟨λb o e n hb j=>?_,λb o e n hb j=>?_,λb o e n j=>?_,λb o e j=>?_,λb xs e=>ac b xs (I.base.tups b xs e),λb o xs e=>ad b o xs (I.base.frzs b o xs e),λb ps e=>?_⟩,?_,λx c e=>?_,?_,λx c e=>?_,λp hp=>?_,ai,I.len⟩
 ·exact O b o (ag b o e) hb (Y b o e j) (I.base.keep b o e n hb j) (I.base.free b o e n j)
 ·obtain⟨sl,Z⟩:=I.base.slot b o e n hb j
  obtain⟨aj,e2⟩:=aa b _ (ag b o e) hb (Y b o e j) Z (I.base.free b o e n j)
  exact⟨aj,e2⟩
 ·obtain⟨o',Z⟩:=I.base.there b o e j
  exact free b o' (Y b o e j) Z (I.base.free b o e n j)
 ·obtain⟨o',Z⟩:=I.base.there b o e j
  exact ab b o' (Y b o e j) Z
 ·obtain⟨m1,Z⟩:=I.base.tbls b ps e
  obtain⟨m2,e2⟩:=ae b _ Z
  exact⟨m1++m2,by rw[e2,Array.append_assoc]⟩
 ·obtain⟨m,hn,hl⟩:=I.loc
  refine⟨m,ns m hn,λi x v Z e2 e3=>?_⟩
  obtain⟨u,r,l⟩:=hl i x v Z e2 e3
  refine⟨u,r,?_⟩
  rcases l with l|⟨k,c,e,z⟩
  ·exact .inl l
  ·exact .inr ⟨k,c,e,R x c e _ z⟩
 ·obtain⟨v,z⟩:=I.cell x c e
  exact⟨v,R x c e v z⟩
 ·obtain⟨m,⟨o,_,_,ho,_⟩,_⟩:=I.loc
  exact free _ o (λz=>(J _ z).2.1 rfl) ho I.free
 ·obtain⟨v,o,ho,hd⟩:=I.cell x c e
  exact free c o (λz=>(J c z).2.2.1 x c e rfl) ho (I.freeC x c e)
 ·obtain⟨e,n,ne,nf,d⟩:=I.pin p hp
  have U:p.1∉ch:=λz=>(J p.1 z).2.2.2 p hp rfl
  exact⟨O p.1 p.2 ne nf U e n,free p.1 p.2 U e n,ne,nf,d⟩
theorem Inv.un(I:Inv X pins σ H s)(u:Un X.fs [] H H' s.heap h')(q:HOk X.prog X.w H' h'):Inv X pins σ H' {s with heap:=h',toks:=t'}:=by
 obtain⟨m,⟨o,es,ep,U,r⟩,_⟩:=id I.loc
 obtain⟨sl,Y⟩:=u.any U I.free (by simp)
 exact I.step (g':=s.gens) (d':=s.drawn) (ch:=[]) (λ_ z=>nomatch z) (λb o _ J _ e n=>u.keep b o e n J (by simp)) (λb o _ J _ e n=>u.slot b o e n J (by simp)) (λb o _ e n=>u.free b o e n (by simp)) (λb o _ e=>u.there b o e (by simp)) u.tups u.frzs u.tbls (λm' Z=>by
  obtain⟨o',O,R,j,r'⟩:=Z
  rw[U]at j;cases j
  exact⟨_,O,R,Y,r'⟩) q I.bare
theorem Inv.call{g':Array lO}{t':Nat}{d':Drawn}{ch:List aA}(I:Inv X pins σ H s)(u:Un (frs X.stack) ch H H' s.heap h')(O:HOk X.prog X.w H' h')(hg:fW g') 
  (q:∀b∈ch,(b∈X.ex\/X.s₀.heap.objs.size<=b)/\b≠X.env.locals/\(∀x c,X.env.cells.lookup x=some c->c≠b)/\∀p∈X.pn++pins,p.1≠b) :
  Inv X pins σ H' {s with heap:=h',gens:=g',drawn:=d',toks:=t'}:=by
 obtain⟨m,⟨o,es,ep,Z,r⟩,_⟩:=id I.loc
 obtain⟨sl,R⟩:=u.any Z I.free λz=>(q _ z).2.1 rfl
 exact I.step (ch:=ch) q (λb o R hb j e n=>u.keep b o e n (λz=>(aU.mp (I.stkSub b z)).elim R hb) j) (λb o _ _ j e n=>u.any e n j) (λb o j e n=>u.free b o e n j) (λb o j e=>u.there b o e j) u.tups u.frzs u.tbls (λm' hm=>by
  obtain⟨o',U,Y,J,r'⟩:=hm
  rw[Z]at J;cases J
  exact⟨_,U,Y,R,r'⟩) O hg
theorem Inv.turned{t':Nat}{j:aA}(I:Inv X pins σ H s)(k:∀b o,b≠j->s.heap.get? b=some o->h'.get? b=some o)(U:H j=none)(R:j≠X.env.locals) 
  (h1:j∈X.ex\/X.s₀.heap.objs.size<=j) (h2:∀x c,X.env.cells.lookup x=some c->c≠j) (Y:∀p∈X.pn++pins,p.1≠j):Inv X pins σ H {s with heap:=h',toks:=t'}:=by
 have O:∀b u,H b=some u->b≠j:=λb u e z=>by rw[z,U]at e;cases e
 refine I.step (g':=s.gens) (d':=s.drawn) (ch:=[j]) (λb Z=>?_) (λb o _ _ J e _=>k b o (λz=>J (by simp[z])) e) (λb o _ _ J e _=>⟨o.slots,k b o (λz=>J (by simp[z])) e⟩) (λ_ _ _ _ n=>n)
  (λb o J e=>⟨o,k b o (λz=>J (by simp[z])) e⟩) (λ_ _ e=>e) (λ_ _ _ e=>e) (λb ps e=>⟨#[],by rw[e];simp⟩) (λm hm=>?_) (λb u e=>?_) I.bare
 ·have e:b=j:=by simpa using Z
  subst e
  exact⟨h1,R,h2,Y⟩
 ·obtain⟨o,es,ep,ho,r⟩:=hm
  exact⟨o,es,ep,k _ o (aQ R) ho,r⟩
 ·refine(I.hok b u e).stay (λc v J q=>k c v ?_ q) (λ_ q=>q) λ_ _ q=>q
  rcases J with z|z
  ·rw[z];exact O b u e
  ·exact O c _ z
theorem Inv.tok(I:Inv X pins σ H s)(t:Nat):Inv X pins σ H {s with toks:=t}:=I.un (h':=s.heap) (t':=t) Un.refl I.hok
theorem Inv.kept(I:Inv X pins σ H s)(k:∀b u,s.heap.get? b=some u->h'.get? b=some u):Inv X pins σ H {s with heap:=h',toks:=t'}:=I.un (Un.kept k) (I.hok.kept k)
theorem Inv.laid{a:aA}{o:HO}{t':Nat}(I:Inv X pins σ H s)(k:∀b u,s.heap.get? b=some u->h'.get? b=some u)(j:s.heap.objs.size<=a)(new:yK X.prog X.w (upd H a o) h' a o):
 Inv X pins σ (upd H a o) {s with heap:=h',toks:=t'}:=I.un (Un.laid k j (I.hok.fresh j)) (I.hok.laid k j new)
theorem Inv.write{x e:aA}{o:HO}{t':Nat}(I:Inv X pins σ H s)(q:Mut (H x))(z:e=x\/H e=some (.own x))(k:∀b u,b≠e->s.heap.get? b=some u->h'.get? b=some u)(j:∃u,h'.get? e=some u) 
 (new:yK X.prog X.w (upd H x o) h' x o):Inv X pins σ (upd H x o) {s with heap:=h',toks:=t'}:=I.un (Un.write q z k j) (I.hok.write q z k j new)
theorem Inv.weak(I:Inv X pins σ H s)(z:q.length=σ.length)(w:∀(i:Nat) v,q[i]?=some (some v)->σ[i]?=some (some v)):Inv X pins q H s :=
 ⟨I.ok,I.os,I.bare,I.base,(by obtain⟨m,J,j⟩:=I.loc;exact⟨m,J,λi x v O R U=>j i x v O (w i v R) U⟩),I.cell,I.free,I.freeC,I.pin,I.hok,z.trans I.len⟩
theorem Inv.pins_of(I:Inv X pins σ H s)(h:∀p∈pins',s.heap.get? p.1=some p.2/\H p.1=none/\p.1≠X.env.locals/\p.1∉X.fs/\∀v,p.2.data≠.cell v):Inv X pins' σ H s :=
 ⟨I.ok,I.os,I.bare,I.base,I.loc,I.cell,I.free,I.freeC,λp j=>(bX.mp j).elim (λz=>I.pin p (eJ _ z)) (h p),I.hok,I.len⟩
theorem JA{N:List aC}(q:N.Nodup){i j:Nat}{x:aC}(a:N[i]?=some x)(b:N[j]?=some x):i=j:=by
 obtain⟨h1,z⟩:=bE.mp a
 obtain⟨h2,I⟩:=bE.mp b
 exact(gZ q).mp (z.trans I.symm)
theorem Qd{M:hV}{A:bG}{E:aB->aD->Prop}{i:Nat}{x:aC}{v:V}{u:aB}{Q:Unit->aD->Prop}(I:Inv X pins σ H s)(hN:X.N.Nodup)(hi:X.N[i]?=some x)(Y:Loc X.env.scope x)(r:zQ v u) 
  (h:∀s',Inv X pins (σ.set i (some v)) H s'->(∃a,jB a s.heap s'.heap/\(a=X.env.locals\/X.env.cells.lookup x=some a))->Q () s') (hf:X.fn x=true\/X.env.scope.names.lookup x=some .local:=by first|exact .inl rfl|exact .inr rfl|assumption):wpAny M A (lP X.env x u) Q E s:=by
 obtain⟨m,hn,hl⟩:=id I.loc
 have ab:(X.env.scope.kind== .class|| (X.env.scope.kind== .module && X.env.locals !=X.env.globals))=false:=by rw[I.ok.kind];rfl
 have ac:i<σ.length:=by rw[I.len];exact(bE.mp hi).1
 have cne:=I.cne
 have O:∀{a:aA} {h':aK},(∃o,s.heap.get? a=some o/\H a=none)->jB a s.heap h'->HOk X.prog X.w H h':=λ{a h'} ha J b ob e=>by
  obtain⟨_,_,Z⟩:=ha
  refine(I.hok b ob e).stay (λc w' U q=>(J.2 c ?_).trans q) (λ_ q=>q) λ_ _ q=>q
  rintro rfl
  rcases U with rfl|U
  ·rw[Z]at e;cases e
  ·rw[Z]at U;cases U
 rcases Y with hk|hk
 ·refine wpAny_storeName_local hk hn (λh' ah J=>?_) ab
  obtain⟨oL,_,_,ai,_⟩:=id hn
  refine h _ ⟨I.ok,I.os,I.bare,⟨λb o e n hb Y=>?_,λb o e n hb Y=>?_,I.base.free,λb o e Y=>?_,I.base.tups,I.base.frzs,I.base.tbls⟩,⟨_,ah,λj y v' R e2 e3=>?_⟩,λy c e=>?_,I.free,I.freeC,λp hp=>?_,O ⟨oL,ai,I.free⟩ J,by simpa using I.len⟩ ⟨_,J,.inl rfl⟩
  ·exact(J.2 b (bT (cI (bF e) I.ok.above))).trans (I.base.keep b o e n hb Y)
  ·obtain⟨sl,R⟩:=I.base.slot b o e n hb Y
   exact⟨sl,(J.2 b (bT (cI (bF e) I.ok.above))).trans R⟩
  ·obtain⟨o',R⟩:=I.base.there b o e Y
   exact⟨o',(J.2 b (bT (cI (bF e) I.ok.above))).trans R⟩
  ·by_cases hj:j=i
   ·subst hj
    rw[hi]at R;cases R
    rw[eQ ac]at e2
    cases e2
    exact⟨u,r,.inl ⟨hk,by simp⟩⟩
   ·rw[dX (aQ hj)]at e2
    obtain⟨u',r',q⟩:=hl j y v' R e2 e3
    refine⟨u',r',?_⟩
    rcases q with⟨k,e⟩|⟨k,c,e,z⟩
    ·refine .inl ⟨k,?_⟩
     have:y≠x:=λe=>hj (JA hN R (e▸hi))
     simp[this,e]
    ·exact .inr ⟨k,c,e,z.sameBut J (cne y c e)⟩
  ·obtain⟨w',z⟩:=I.cell y c e
   exact⟨w',z.sameBut J (cne y c e)⟩
  ·obtain⟨e,n,ne,nf,d⟩:=I.pin p hp
   exact⟨(J.2 p.1 ne).trans e,n,ne,nf,d⟩
 ·have aa:X.fn x=true:=by
   rcases hf with z|z
   ·exact z
   ·rw[z]at hk;cases hk
  obtain⟨c,U⟩:=I.ok.has x (.inl hk)
  obtain⟨w',z⟩:=I.cell x c U
  refine wpAny_storeName_cell I.ok.kind hk U z (λh' ad J=>?_)
  obtain⟨oc,ae,af⟩:=id z
  refine h {s with heap:=h'} ⟨I.ok,I.os,I.bare,⟨λb o e n hb Y=>?_,λb o e n hb Y=>?_,I.base.free,λb o e Y=>?_,I.base.tups,I.base.frzs,I.base.tbls⟩,⟨m,hn.sameBut J (aQ (cne x c U)),λj y v' R e2 e3=>?_⟩,λy c' e=>?_,I.free,I.freeC,λp hp=>?_,O ⟨oc,ae,I.freeC x c U⟩ J,by simpa using I.len⟩ ⟨c,J,.inr U⟩
  ·exact(J.2 b (bT (cI (bF e) (I.ok.cab x c aa U)))).trans (I.base.keep b o e n hb Y)
  ·obtain⟨sl,R⟩:=I.base.slot b o e n hb Y
   exact⟨sl,(J.2 b (bT (cI (bF e) (I.ok.cab x c aa U)))).trans R⟩
  ·obtain⟨o',R⟩:=I.base.there b o e Y
   exact⟨o',(J.2 b (bT (cI (bF e) (I.ok.cab x c aa U)))).trans R⟩
  ·by_cases hj:j=i
   ·subst hj
    rw[hi]at R;cases R
    rw[eQ ac]at e2
    cases e2
    exact⟨u,r,.inr ⟨.inl hk,c,U,ad⟩⟩
   ·rw[dX (aQ hj)]at e2
    obtain⟨u',r',q⟩:=hl j y v' R e2 e3
    refine⟨u',r',?_⟩
    rcases q with q|⟨k,c',e,z'⟩
    ·exact .inl q
    ·refine .inr ⟨k,c',e,z'.sameBut J ?_⟩
     rintro rfl
     exact hj (JA hN R (I.ok.inj _ _ _ e U▸hi))
  ·by_cases ag:c'=c
   ·subst ag;exact⟨_,ad⟩
   ·obtain⟨w2,z2⟩:=I.cell y c' e
    exact⟨w2,z2.sameBut J ag⟩
  ·obtain⟨e,n,ne,nf,d⟩:=I.pin p hp
   refine⟨(J.2 p.1 ?_).trans e,n,ne,nf,d⟩
   intro q
   rw[q,ae]at e
   have q':oc=p.2:=eP e
   exact d w' (by rw[<-q'];exact af)
theorem Wu{M:hV}{A:bG}{E:aB->aD->Prop}{i:Nat}{x:aC}{v:V}{u:aB}{Q:Unit->aD->Prop}(I:Inv X pins σ H s)(j:X.N.Nodup)(hi:X.N[i]?=some x)(q:Loc X.env.scope x)(r:zQ v u) 
  (h:∀s',Inv X pins (σ.set i (some v)) H s'->Q () s') (z:X.fn x=true\/X.env.scope.names.lookup x=some .local:=by first|exact .inl rfl|exact .inr rfl|assumption):wpAny M A (lP X.env x u) Q E s :=
 Qd I j hi q r (λs' J _=>h s' J) z
theorem Inv.call'(I:Inv X pins σ H s)(z:s'.os=s.os)(u:Un (frs X.stack) ch H H' s.heap s'.heap)(j:HOk X.prog X.w H' s'.heap)(J:fW s'.gens) 
  (q:∀b∈ch,(b∈X.ex\/X.s₀.heap.objs.size<=b)/\b≠X.env.locals/\(∀x c,X.env.cells.lookup x=some c->c≠b)/\∀p∈X.pn++pins,p.1≠b):Inv X pins σ H' s':=by
 obtain⟨h',g',d',t',o'⟩:=s'
 have e:o'=s.os:=z
 subst e
 exact I.call (g':=g') (t':=t') (d':=d') u j J q
end
abbrev XK:=aB->Option aA->Hp->Prop
abbrev St:=List (Option V)
abbrev VK:=V->Hp->Prop
abbrev TE:=St->Hp->VK->Prop
abbrev TT:=St->Hp->(Bool->Hp->Prop)->Prop
abbrev TA:=St->Hp->(List V->Hp->Prop)->Prop
structure Ends where
 nx:St->Hp->Prop
 rt:VK
 bk:St->Hp->Prop:=λ_ _=>False
 ct:St->Hp->Prop:=λ_ _=>False
abbrev TS:=Ends->St->Hp->Prop
def EP(X:Cx)(pins:List (aA×aL))(σ:St)(Q:VK)(u:aB)(s':aD):Prop:=∃v H',Inv X pins σ H' s'/\zQ v u/\Q v H'
def TP(X:Cx)(pins:List (aA×aL))(σ:St)(Q:Bool->Hp->Prop)(b:Bool)(s':aD):Prop:=∃H',Inv X pins σ H' s'/\Q b H'
def AP(X:Cx)(pins:List (aA×aL))(σ:St)(Q:List V->Hp->Prop)(us:List aB)(s':aD):Prop:=∃vs H',Inv X pins σ H' s'/\zO vs us/\Q vs H'
def SP(X:Cx)(pins:List (aA×aL))(D:Ends)(f:Flow)(s':aD):Prop :=
 match f with
 | .next=>∃j H',Inv X pins j H' s'/\D.nx j H'
 | .brk=>∃j H',Inv X pins j H' s'/\D.bk j H'
 | .cont=>∃j H',Inv X pins j H' s'/\D.ct j H'
 | .ret u=>∃v j H',Inv X pins j H' s'/\zQ v u/\D.rt v H'
def PE(X:Cx)(e:aG)(t:TE):Prop :=
 ∀(pins:List (aA×aL)) (s:aD) (σ:St) (H:Hp) (Q:VK),Inv X pins σ H s->t σ H Q->wpAny (aJ X.prog X.w) X.A (aW e X.env) (EP X pins σ Q) X.xe s
def PT(X:Cx)(e:aG)(t:TT):Prop :=
 ∀(pins:List (aA×aL)) (s:aD) (σ:St) (H:Hp) (Q:Bool->Hp->Prop),Inv X pins σ H s->t σ H Q->wpAny (aJ X.prog X.w) X.A (iI e X.env (aW e X.env)) (TP X pins σ Q) X.xe s
def PW(X:Cx)(e:aG)(t:TT):Prop :=
 ∀(j:cW aB) (pins:List (aA×aL)) (s:aD) (σ:St) (H:Hp) (Q:Bool->Hp->Prop),Inv X pins σ H s->t σ H Q->wpAny (aJ X.prog X.w) X.A (iI e X.env j) (TP X pins σ Q) X.xe s
theorem PW.pt(h:PW X e t):PT X e t:=h _
def PA(X:Cx)(es:List aG)(t:TA):Prop :=
 ∀(pos:aR) (pins:List (aA×aL)) (s:aD) (σ:St) (H:Hp) (Q:List V->Hp->Prop),Inv X pins σ H s->t σ H Q->wpAny (aJ X.prog X.w) X.A (spliced (cX pos (bD es X.env))) (AP X pins σ Q) X.xe s
def PS(X:Cx)(st:aM)(t:TS):Prop :=
 ∀(pins:List (aA×aL)) (s:aD) (σ:St) (H:Hp) (D:Ends),Inv X pins σ H s->t D σ H->wpAny (aJ X.prog X.w) X.A (exec st X.env) (SP X pins D) X.xe s
def PSs(X:Cx)(st:List aM)(t:TS):Prop :=
 ∀(pins:List (aA×aL)) (s:aD) (σ:St) (H:Hp) (D:Ends),Inv X pins σ H s->t D σ H->wpAny (aJ X.prog X.w) X.A (execs st X.env) (SP X pins D) X.xe s
theorem thn{α:Type}{t:cW α}{Q j:α->aD->Prop}{M:hV}{A:bG}{E:aB->aD->Prop}{s:aD}(h:wpAny M A t Q E s)(q:∀a s,Q a s->j a s):wpAny M A t j E s:=eB h q λ_ _ x=>x
end L2
namespace L2
open PySem PySem.Spec PyProof.Rows
section
variable {X:Cx}
def vN(i:Nat):TE:=λσ H Q=>∃v,σ[i]?=some (some v)/\Q v H
def tC(v:V):TE:=λ_ H Q=>Q v H
theorem zjh(R:X.N[i]?=some x)(U:Vis X.env.scope x)(z:(x==("__debug__":aC))=false:=by decide)(J:(x==("__classdict__":aC))=false:=by decide):PE X (.Name x pos) (vN i):=by
 intro pins s σ H Q I h
 obtain⟨v,e,h⟩:=h
 obtain⟨m,Y,Z⟩:=I.loc
 obtain⟨u,r,l⟩:=Z i x v R e U
 have fin:EP X pins σ Q u s:=⟨v,H,I,r,h⟩
 rcases l with⟨q,hm⟩|⟨q,c,O,j⟩
 ·exact lQ (ny I.ok.kind q Y hm fin) z
 ·rcases q with q|q
  ·exact lQ (nz I.ok.kind q O j fin) z
  ·exact lQ (wpAny_loadName_free I.ok.kind q O j fin J) z
theorem wk{i j pos}:PE X (.Constant (.int i) j pos) (tC (.int i)):=λ_ _ _ H _ I h=>wpAny_Constant_int ⟨.int i,H,I.tok _,⟨_,rfl⟩,h⟩
theorem uQ{b j pos}:PE X (.Constant (.bool b) j pos) (tC (.bl b)):=λ_ _ _ H _ I h=>Constant_bool ⟨.bl b,H,I,rfl,h⟩
theorem zji{x j pos}:PE X (.Constant (.str x) j pos) (tC (.str x)):=λ_ _ _ H _ I h=>Calls.Constant_str ⟨.str x,H,I.tok _,⟨_,rfl⟩,h⟩
def Gl(X:Cx)(x:aC):Prop:=X.env.kindOf x=some .globalImplicit
theorem Uh{E:aB->aD->Prop}{pins:List (aA×aL)}{s:aD}{σ:St}{H:Hp}{x:aC}{u:aB}{pos:aR}{Q:aB->aD->Prop}(I:Inv X pins σ H s)(j:Gl X x)(q:X.mg x=some u)(h:Q u s) 
  (z:(x==("__debug__":aC))=false:=by decide):wpAny (aJ X.prog X.w) X.A (aW (.Name x pos) X.env) Q E s :=
 nA I.ok.kind j (Calls.loadGlobal_global (by rw[I.ok.glob];exact I.mod.glob.keeps I.bk) q h) z
theorem Zb{E:aB->aD->Prop}{pins:List (aA×aL)}{s:aD}{σ:St}{H:Hp}{x:aC}{u:aB}{pos:aR}{Q:aB->aD->Prop}(I:Inv X pins σ H s)(j:Gl X x)(q:X.mg x=none)(z:fV x=some u)(h:Q u s) 
  (J:x≠"__name__":=by decide) (O:(x==("__debug__":aC))=false:=by decide):wpAny (aJ X.prog X.w) X.A (aW (.Name x pos) X.env) Q E s:=by
 obtain⟨R,h1,h2⟩:=I.mod.blt
 exact nA I.ok.kind j (Calls.loadGlobal_builtin (by rw[I.ok.glob];exact I.mod.glob.keeps I.bk) q (by rw[I.ok.blt];exact h1.keeps I.bk) ((h2 x J).trans z) h) O
theorem Ui(j:Gl X x)(q:X.mg x=some u)(r:zQ v u)(z:(x==("__debug__":aC))=false:=by decide):PE X (.Name x pos) (tC v) :=
 λ_ _ _ H _ I h=>Uh I j q ⟨v,H,I,r,h⟩ z
theorem zh8(j:Gl X x)(q:X.mg x=none)(z:fV x=some u)(r:zQ v u)(J:x≠"__name__":=by decide)(O:(x==("__debug__":aC))=false:=by decide):PE X (.Name x pos) (tC v) :=
 λ_ _ _ H _ I h=>Zb I j q z ⟨v,H,I,r,h⟩ J O
variable {a b:aG} {ta tb:TE} {pos:aR}
def PC(X:Cx)(op:iJ)(a b:aG)(t:TE):Prop :=
 ∀(pins:List (aA×aL)) (s:aD) (σ:St) (H:Hp) (Q:VK),Inv X pins σ H s->t σ H Q->
  wpAny (aJ X.prog X.w) X.A (aW a X.env) (λv j=>wpAny (aJ X.prog X.w) X.A (aW b X.env) (λu q=>wpAny (aJ X.prog X.w) X.A (cP op v u) (EP X pins σ Q) X.xe q) X.xe j) X.xe s
def tB(t:TE):TT:=λσ H Q=>t σ H λx H1=>∃c,x=.bl c/\Q c H1
theorem zen{op:iJ}{t:TE}(h:PC X op a b t)(h1:hX op b=false:=by first|exact j _ (by decide) (by decide)|rfl):PT X (.Compare a [op] [b] pos) (tB t):=by
 intro pins s σ H Q I z
 refine nB (thn (h pins s σ H _ I z) λv s1 h1=>thn h1 λu s2 h2=>thn h2 λc s3 ⟨x,H1,J,r1,O⟩=>?_) h1
 obtain⟨d,rfl,q⟩:=O
 cases r1
 exact iK ⟨H1,J,q⟩
theorem W3{e:aG}{t:TE}(h:PE X e t)(z:∀j,iI e X.env j=(do let v <-j;iL e.pos;eZ [v] (truthy v)):=by intro _;rfl):PT X e (tB t):=by
 intro pins s σ H Q I J
 refine isTrue_plain (thn (h pins s σ H _ I J) λv s1 ⟨x,H1,O,r1,R⟩=>?_) (z _)
 obtain⟨d,rfl,q⟩:=R
 cases r1
 exact iK ⟨H1,O,q⟩
variable {tA tB':TT} {rest:List aG}
def tOr(t u:TT):TT:=λσ H Q=>t σ H λc H1=>if c=true then Q true H1 else u σ H1 Q
def zmp(t:TT):TT:=λσ H Q=>t σ H λc H1=>Q (!c) H1
theorem zeo(j:PT X a tA):PW X (.BoolOp .Or [a] pos) tA:=by
 intro q pins s σ H Q I h
 refine isTrue_or (thn (j pins s σ H Q I h) λc s1 e=>?_)
 cases c with
 | false=>exact isTrue_or_nil e
 | true=>exact e
theorem zhI(z:PT X a tA)(J:PW X (.BoolOp .Or (b::rest) pos) tB'):PW X (.BoolOp .Or (a::b::rest) pos) (tOr tA tB'):=by
 intro O pins s σ H Q I h
 refine isTrue_or (thn (z pins s σ H _ I h) λc s1 ⟨H1,j,q⟩=>?_)
 cases c with
 | true=>exact⟨H1,j,q⟩
 | false=>exact J O pins s1 σ H1 Q j q
theorem zjj(j:PT X a tA):PT X (.UnaryOp .Not a pos) (zmp tA):=by
 intro pins s σ H Q I h
 exact isTrue_not (j pins s σ H (λc H1=>Q (!c) H1) I h)
def zkV(ta tb:TE):TE:=λσ H Q=>ta σ H λx H1=>∃c,x=.bl c/\if c=true then tb σ H1 Q else Q (.bl false) H1
theorem zjk{op}(h:PE X a t):PE X (.BoolOp op [a] pos) t:=λpins s σ H Q I j=>BoolOp_one (h pins s σ H Q I j)
theorem zjl(z:PE X a ta)(J:PE X (.BoolOp .And (b::rest) pos) tb):PE X (.BoolOp .And (a::b::rest) pos) (zkV ta tb):=by
 intro pins s σ H Q I h
 refine BoolOp_and (thn (z pins s σ H _ I h) λv s1 ⟨x,H1,q,r1,j⟩=>?_)
 obtain⟨c,rfl,j⟩:=j
 cases r1
 refine iK ?_
 cases c with
 | true=>exact J pins s1 σ H1 Q q j
 | false=>exact⟨.bl false,H1,q,rfl,j⟩
def tIf(t:TT)(ta tb:TE):TE:=λσ H Q=>t σ H λc H1=>if c=true then ta σ H1 Q else tb σ H1 Q
theorem JB{c:aG}(z:PT X c tA)(J:PE X a ta)(O:PE X b tb):PE X (.IfExp c a b pos) (tIf tA ta tb):=by
 intro pins s σ H Q I h
 refine wpAny_IfExp (thn (z pins s σ H _ I h) λd s1 ⟨H1,j,q⟩=>?_)
 cases d with
 | true=>exact J pins s1 σ H1 Q j q
 | false=>exact O pins s1 σ H1 Q j q
end
end L2
namespace L2
open PySem PySem.Spec PyProof.Rows
def SqL(K:aE)(H:Hp)(a:aA)(xs:List V):Prop :=
 Rd H a (.lst xs)\/
  ∃(o:aL) (its:Array aB) (n:Nat),K.lookup a=some o/\o.cls=.type "list"/\o.dict=none/\o.data=.seq its n/\its.size<=aH/\zO xs its.toList
def SqT(K:aE)(H:Hp)(a:aA)(xs:List V):Prop :=
 Rd H a (.tup xs)\/
  ∃(o:aL) (its:Array aB) (n:Nat),K.lookup a=some o/\o.cls=.type "tuple"/\o.data=.seq its n/\its.size<=aH/\zO xs its.toList
def zmq:aB->Option V
 | .none=>some .non
 | .bool b=>some (.bl b)
 | .int i _=>some (.int i)
 | .str x _=>some (.str x)
 | .bytes b _=>some (.byt b)
 | .float b _=>some (.flt b)
 | .ref a=>some (.ref a)
 | .type n=>some (.ty n)
 | _=>none
theorem zQ.abs(r:zQ x u):zmq u=some x:=by
 cases x with
 | non=>cases r;rfl
 | bl _=>cases r;rfl
 | int _=>obtain⟨t,rfl⟩:=r;rfl
 | str _=>obtain⟨t,rfl⟩:=r;rfl
 | byt _=>obtain⟨t,rfl⟩:=r;rfl
 | flt _=>obtain⟨t,rfl⟩:=r;rfl
 | ref _=>cases r;rfl
 | ty _=>cases r;rfl
theorem zQ.inj(r:zQ x u)(q:zQ y u):x=y:=eP (r.abs.symm.trans q.abs)
theorem zO.inj:∀{xs ys:List V} {us:List aB},zO xs us->zO ys us->xs=ys
 | _,_,_,.nil,.nil=>rfl
 | _,_,_,.cons r t,.cons j t'=>by rw[r.inj j,zO.inj t t']
section
variable {X:Cx} {pins:List (aA×aL)} {σ:St} {H:Hp} {s:aD} {a:aA} {xs ys:List V}
theorem SqL.of{K:aE}(h:H a=some (.lst xs)):SqL K H a xs:=.inl (.inl h)
theorem SqT.of{K:aE}(h:H a=some (.tup xs)):SqT K H a xs:=.inl (.inl h)
theorem Inv.list(I:Inv X pins σ H s)(h:SqL X.K H a xs):∃its:List aB,zO xs its/\PlainL s.heap a its.toArray/\xs.length<=aH:=by
 rcases h with h|⟨o,its,n,j,q,J,O,R,r⟩
 ·obtain⟨z,its,n,r,e⟩:=h.ok I.hok
  exact⟨its,r,⟨_,n,e,rfl,rfl,rfl⟩,z⟩
 ·refine⟨its.toList,r,⟨o,n,I.kIn a o j,q,J,by simpa using O⟩,?_⟩
  have e:=r.length
  simp only[lR]at e
  omega
theorem Inv.tuple(I:Inv X pins σ H s)(h:SqT X.K H a xs):∃its:List aB,zO xs its/\fH s.heap a its.toArray/\xs.length<=aH:=by
 rcases h with h|⟨o,its,n,j,q,J,O,r⟩
 ·obtain⟨z,its,r,p⟩:=h.ok I.hok
  exact⟨its,r,p,z⟩
 ·refine⟨its.toList,r,⟨o,I.kIn a o j,q,n,by simpa using J⟩,?_⟩
  have e:=r.length
  simp only[lR]at e
  omega
theorem Inv.list_inj(I:Inv X pins σ H s)(h:SqL X.K H a xs)(h':SqL X.K H a ys):xs=ys:=by
 obtain⟨its,r,⟨o,n,e,_,_,d⟩,_⟩:=I.list h
 obtain⟨its',q,⟨o',J,j,_,_,d'⟩,_⟩:=I.list h'
 rw[e]at j;cases j
 rw[d]at d'
 injection d' with z _
 have:its=its':=by simpa using congrArg nC z
 subst this
 exact r.inj q
theorem Inv.tuple_inj(I:Inv X pins σ H s)(h:SqT X.K H a xs)(h':SqT X.K H a ys):xs=ys:=by
 obtain⟨its,r,⟨o,e,_,n,d⟩,_⟩:=I.tuple h
 obtain⟨its',q,⟨o',j,_,J,d'⟩,_⟩:=I.tuple h'
 rw[e]at j;cases j
 rw[d]at d'
 injection d' with z _
 have:its=its':=by simpa using congrArg nC z
 subst this
 exact r.inj q
end
abbrev Cx.wish(X:Cx)(E:aB->aD->Prop):Cx:={X with xe:=E}
abbrev Cx.nox(X:Cx):Cx:=X.wish λ_ _=>False
theorem Cx.Ok.wish{X:Cx}(ok:X.Ok)(E:aB->aD->Prop):(X.wish E).Ok :=
 ⟨ok.mod,ok.kind,ok.glob,ok.blt,ok.above,ok.inj,ok.has,ok.cab,ok.hd,ok.frames,ok.stk,ok.exf,ok.bs,ok.bsz,ok.noex,ok.exfs,ok.funs,ok.frf⟩
theorem Cx.Ok.unwish{X:Cx}{E:aB->aD->Prop}(ok:(X.wish E).Ok):X.Ok :=
 ⟨ok.mod,ok.kind,ok.glob,ok.blt,ok.above,ok.inj,ok.has,ok.cab,ok.hd,ok.frames,ok.stk,ok.exf,ok.bs,ok.bsz,ok.noex,ok.exfs,ok.funs,ok.frf⟩
section
variable {X:Cx} {pins:List (aA×aL)} {σ:St} {H:Hp} {s:aD} {E:aB->aD->Prop}
theorem Inv.wish(I:Inv X pins σ H s)(E:aB->aD->Prop):Inv (X.wish E) pins σ H s:=⟨I.ok.wish E,I.os,I.bare,I.base,I.loc,I.cell,I.free,I.freeC,I.pin,I.hok,I.len⟩
theorem Inv.unwish(I:Inv (X.wish E) pins σ H s):Inv X pins σ H s:=⟨I.ok.unwish,I.os,I.bare,I.base,I.loc,I.cell,I.free,I.freeC,I.pin,I.hok,I.len⟩
theorem SP.unwish(h:SP (X.wish E) pins D f s'):SP X pins D f s':=by
 cases f with
 | next=>obtain⟨j,H',I,q⟩:=h;exact⟨j,H',I.unwish,q⟩
 | brk=>obtain⟨j,H',I,q⟩:=h;exact⟨j,H',I.unwish,q⟩
 | cont=>obtain⟨j,H',I,q⟩:=h;exact⟨j,H',I.unwish,q⟩
 | ret u=>obtain⟨v,j,H',I,r,q⟩:=h;exact⟨v,j,H',I.unwish,r,q⟩
theorem PSs.nox{st:List aM}{t:TS}(h:PSs X.nox st t):PSs X st t:=λpins s σ H D I j=>
 eB (h pins s σ H D (I.wish _) j) (λ_ _ q=>q.unwish) λ_ _ z=>eK z
end
section
variable {X:Cx} {st:aM} {rest:List aM} {t u:TS} {e:aG} {te:TE} {pos:aR}
def zkW:TS:=λD σ H=>D.nx σ H
def zmr(t u:TS):TS:=λD σ H=>t {D with nx:=u D} σ H
theorem ZW:PSs X [] zkW:=λ_ _ σ H _ I h=>kC ⟨σ,H,I,h⟩
theorem zA(h1:PS X st t)(h2:PSs X rest u):PSs X (st::rest) (zmr t u):=by
 intro pins s σ H D I h
 refine nD (thn (h1 pins s σ H {D with nx:=u D} I h) λf s1 q=>?_)
 cases f with
 | next=>
  obtain⟨j,H',z,q⟩:=q
  exact h2 pins s1 j H' D z q
 | ret v=>exact q
 | brk=>exact q
 | cont=>exact q
theorem yo(h1:PS X st t):PSs X [st] t:=by
 intro pins s σ H D I h
 refine nD (thn (h1 pins s σ H D I h) λf s1 q=>?_)
 cases f with
 | next=>exact kC q
 | ret v=>exact q
 | brk=>exact q
 | cont=>exact q
theorem Inv.quiet(I:Inv X pins σ H s):interactive X.env=false:=by simp[interactive,I.ok.kind]
def zkX(te:TE):TS:=λD σ H=>te σ H λ_ H1=>D.nx σ H1
theorem y0(he:PE X e te)(hs:dD e none pos.line X.env=pure false:=by rfl):PS X (.Expr e pos) (zkX te):=by
 intro pins s σ H D I h
 exact wpAny_Expr_any (thn (he pins s σ H _ I h) λv s1 hh3'=>(by obtain⟨x,H1,I1,r1,q1⟩:=hh3';exact⟨σ,H1,I1,q1⟩)) I.quiet hs
def zms(te:TE):TS:=λD σ H=>te σ H D.rt
theorem vA(q:PE X e te):PS X (.Return (some e) pos) (zms te):=by
 intro pins s σ H D I h
 exact wpAny_Return_some (thn (q pins s σ H _ I h) λv s1 j=>(by obtain⟨x,H1,z,r1,J⟩:=j;exact⟨x,σ,H1,z,r1,J⟩))
def zkY:TS:=λD _ H=>D.rt .non H
theorem zh9:PS X (.Return none pos) zkY:=λ_ _ σ H _ I h=>wpAny_Return_none ⟨.non,σ,H,I,rfl,h⟩
def zmt(c:TT)(t u:TS):TS:=λD σ H=>c σ H λb H1=>if b=true then t D σ H1 else u D σ H1
theorem XH{c:aG}{a b:List aM}{tc:TT}(z:PT X c tc)(J:PSs X a t)(O:PSs X b u):PS X (.If c a b pos) (zmt tc t u):=by
 intro pins s σ H D I h
 refine wpAny_If (thn (z pins s σ H _ I h) λd s1 ⟨H1,j,q⟩=>?_)
 cases d with
 | true=>exact J pins s1 σ H1 D j q
 | false=>exact O pins s1 σ H1 D j q
def zjm:TS:=λ_ _ _=>False
theorem zfI:PS X st zjm:=λ_ _ _ _ _ _ h=>h.elim
end
abbrev TG:=V->St->Hp->(St->Hp->Prop)->Prop
abbrev TGs:=List V->St->Hp->(St->Hp->Prop)->Prop
def PG(X:Cx)(j:aG)(t:TG):Prop :=
 ∀(pins:List (aA×aL)) (s:aD) (σ:St) (H:Hp) (v:V) (u:aB) (Q:St->Hp->Prop),Inv X pins σ H s->zQ v u->t v σ H Q->
  wpAny (aJ X.prog X.w) X.A (eS j X.env u) (λ_ s'=>∃q H',Inv X pins q H' s'/\Q q H') X.xe s
def PGs(X:Cx)(ts:List aG)(t:TGs):Prop :=
 ∀(pins:List (aA×aL)) (s:aD) (σ:St) (H:Hp) (vs:List V) (us:List aB) (Q:St->Hp->Prop),Inv X pins σ H s->zO vs us->t vs σ H Q->
  wpAny (aJ X.prog X.w) X.A (assignInOrder ((eT ts X.env).map (·.2)) us) (λ_ s'=>∃j H',Inv X pins j H' s'/\Q j H') X.xe s
abbrev zfJ:=V->V->V->Hp->(Hp->Prop)->Prop
def zjn(X:Cx)(t:zfJ):Prop :=
 ∀(pins:List (aA×aL)) (s:aD) (σ:St) (H:Hp) (o i v:V) (j q u:aB) (Q:Hp->Prop),Inv X pins σ H s->zQ o j->zQ i q->zQ v u->t o i v H Q->
  wpAny (aJ X.prog X.w) X.A (kD j q u) (λ_ s'=>∃H',Inv X pins σ H' s'/\Q H') X.xe s
abbrev TIp:=V->V->Hp->VK->Prop
def PIp(X:Cx)(op:Operator)(t:TIp):Prop :=
 ∀(pins:List (aA×aL)) (s:aD) (σ:St) (H:Hp) (x y:V) (v u:aB) (Q:VK),Inv X pins σ H s->zQ x v->zQ y u->t x y H Q->
  wpAny (aJ X.prog X.w) X.A (inplaceOp op v u) (EP X pins σ Q) X.xe s
section
variable {X:Cx} {pos:aR}
def vm(i:Nat):TG:=λv σ H Q=>Q (σ.set i (some v)) H
theorem xR(j:X.N.Nodup)(hi:X.N[i]?=some x)(q:Loc X.env.scope x)(z:X.fn x=true\/X.env.scope.names.lookup x=some .local:=by first|exact .inl rfl|exact .inr rfl|assumption):PG X (.Name x pos) (vm i):=by
 intro pins s σ H v u Q I r h
 exact nE (Wu I j hi q r (λs' J=>⟨_,H,J,h⟩) z)
def zfK:TGs:=λvs σ H Q=>vs=[]/\Q σ H
def W4(t:TG)(u:TGs):TGs:=λvs σ H Q=>∃v r,vs=v::r/\t v σ H λj H'=>u r j H' Q
theorem ZX:PGs X [] zfK:=by
 intro pins s σ H vs us Q I r h
 obtain⟨e,h⟩:=h
 subst e
 cases r
 exact assignInOrder_nil ⟨σ,H,I,h⟩
theorem wU{e:aG}{es:List aG}{t:TG}{u:TGs}(h1:PG X e t)(h2:PGs X es u) 
  (j:(eT (e::es) X.env).map (·.2)=eS e X.env::(eT es X.env).map (·.2):=by rfl):PGs X (e::es) (W4 t u):=by
 intro pins s σ H vs us Q I r h
 obtain⟨v,U,q,h⟩:=h
 subst q
 cases r with
 | cons r z=>
  rw[j]
  refine assignInOrder_cons (thn (h1 pins s σ H _ _ _ I r h) λ_ s1 ⟨J,H1,O,R⟩=>?_)
  exact h2 pins s1 J H1 _ _ Q O z R
def zfL(K:aE)(n:Nat)(t:TGs):TG:=λv σ H Q=>∃a xs,v=.ref a/\SqT K H a xs/\xs.length=n/\t xs σ H Q
theorem Y2{es:List aG}{k:Nat}{t:TGs}{n:Nat}(J:X.calm=true)(h:PGs X es t) 
  (O:(eT es X.env).length=n:=by rfl) (j:(eT es X.env).findIdx? (·.1)=none:=by rfl):PG X (.Tuple es k pos) (zfL X.K n t):=by
 intro pins s σ H v u Q I r q
 obtain⟨a,xs,R,U,Y,q⟩:=q
 subst R
 cases r
 obtain⟨its,z,Z,hz⟩:=I.tuple U
 refine assign_Tuple_tuple (I.ok.hd J) Z (by simp[O,<-Y,z.length]) j λh' hx=>?_
 have I1:Inv X pins σ H {s with heap:=h'}:=I.kept (t':=s.toks) λb o e=>hx b o (bT (bF e)) e
 exact h pins _ σ H xs _ Q I1 (by simpa using z) q
def zmu(to j:TE)(t:zfJ):TG:=λv σ H Q=>to σ H λo H1=>j σ H1 λi H2=>t o i v H2 λq=>Q σ q
theorem W5{o i:aG}{to z:TE}{t:zfJ}(J:PE X o to)(hi:PE X i z)(O:zjn X t) 
  (R:∀v,eS (.Subscript o i pos) X.env v=(do
   let j <-eZ [v] (aW o X.env)
   let q <-eZ [v,j] (aW i X.env)
   iL pos
   eZ [v,j,q] (kD j q v)
   release [v,j,q] []):=by intro _;rfl):PG X (.Subscript o i pos) (zmu to z t):=by
 intro pins s σ H v u Q I r h
 rw[R]
 refine aI (jC (thn (J pins s σ H _ I h) λj s1 ⟨x,H1,U,r1,Y⟩=>?_))
 refine aI (jC (thn (hi pins s1 σ H1 _ U Y) λq s2 ⟨y,H2,Z,r2,q2⟩=>?_))
 refine aI (lS (aI (jC (thn (O pins s2 σ H2 x y v j q u _ Z r1 r2 r q2) λ_ s3 ⟨H3,I3,q3⟩=>?_))))
 exact wpAny_release ⟨σ,H3,I3,q3⟩
def Uj(te:TE)(g:TG):TS:=λD σ H=>te σ H λx H1=>g x σ H1 D.nx
theorem Y3{tg e:aG}{te:TE}{g:TG}(he:PE X e te)(hg:PG X tg g)(hs:lT [tg] e pos.line X.env=pure false:=by rfl)(hw:lU [tg] e X.env=pure none:=by rfl) 
  (h1:(eT [tg] X.env).map (·.2)=[eS tg X.env]:=by rfl):PS X (.Assign [tg] e pos) (Uj te g):=by
 intro pins s σ H D I h
 refine wpAny_Assign_stores (thn (he pins s σ H _ I h) λv s1 ⟨x,H1,I1,r1,q1⟩=>?_) hs hw
 rw[h1]
 exact thn (hg pins s1 σ H1 x v _ I1 r1 q1) λ_ s2 q=>q
theorem xp{i:Nat}{x:aC}{e:aG}{te:TE}{pos':aR}(hN:X.N.Nodup)(hi:X.N[i]?=some x)(hx:Loc X.env.scope x)(he:PE X e te)(hs:dD e (some (.Name x pos')) pos.line X.env=pure false:=by rfl)(hf:X.fn x=true\/X.env.scope.names.lookup x=some .local:=by first|exact .inl rfl|exact .inr rfl|assumption):
  PS X (.Assign [.Name x pos'] e pos) (Uj te (vm i)):=by
 intro pins s σ H D I h
 refine wpAny_Assign_Name (thn (he pins s σ H _ I h) λv s1 ⟨y,H1,I1,r1,q1⟩=>?_) hs
 exact Wu I1 hN hi hx r1 (λs2 I2=>⟨_,H1,I2,q1⟩) hf
def zmv(i:Nat)(te:TE)(j:TIp):TS:=λD σ H=>∃x,σ[i]?=some (some x)/\te σ H λy H1=>j x y H1 λz H2=>D.nx (σ.set i (some z)) H2
theorem zjo{i:Nat}{x:aC}{e:aG}{te:TE}{op:Operator}{R:TIp}{pos':aR}(U:X.N.Nodup)(hi:X.N[i]?=some x)(J:Loc X.env.scope x)(Y:PE X e te)(Z:PIp X op R)(hf:X.fn x=true\/X.env.scope.names.lookup x=some .local:=by first|exact .inl rfl|exact .inr rfl|assumption):
  PS X (.AugAssign (.Name x pos') op e pos) (zmv i te R):=by
 intro pins s σ H D I h
 obtain⟨v,e1,h⟩:=h
 obtain⟨m,hn,hl⟩:=I.loc
 have O:Vis X.env.scope x:=by rcases J with k|k;exact .inl k;exact .inr (.inl k)
 obtain⟨u,r,l⟩:=hl i x v hi e1 O
 refine wpAny_AugAssign_Name ?_
 have go:wpAny (aJ X.prog X.w) X.A (aW e X.env) (λw s₂=>wpAny (aJ X.prog X.w) X.A (inplaceOp op u w) (λr s₃=>wpAny (aJ X.prog X.w) X.A (lP X.env x r) (λ_=>SP X pins D .next) X.xe s₃) X.xe s₂) X.xe s:=by
  refine thn (Y pins s σ H _ I h) λw s1 ⟨y,H1,I1,r1,q1⟩=>?_
  refine thn (Z pins s1 σ H1 v y u w _ I1 r r1 q1) λz s2 ⟨zv,H2,I2,r2,q2⟩=>?_
  exact Wu I2 U hi J r2 (λs3 I3=>⟨_,H2,I3,q2⟩) hf
 rcases l with⟨j,hm⟩|⟨j,c,hc,q⟩
 ·exact ny I.ok.kind j hn hm go
 ·rcases j with j|j
  ·exact nz I.ok.kind j hc q go
  ·rcases J with k|k
   ·have:X.env.scope.names.lookup x=some .free:=j
    rw[k]at this;cases this
   ·have:X.env.scope.names.lookup x=some .free:=j
    rw[k]at this;cases this
def ipI(f:Int->Int->Int):TIp:=λx y H Q=>∃i j,x=.int i/\y=.int j/\Q (.int (f i j)) H
theorem zjp:PIp X .Add (ipI λi j=>i+j):=by
 intro pins s σ H x y v u Q I r1 r2 h
 obtain⟨i,j,z,J,q⟩:=h
 subst z;subst J
 obtain⟨t,rfl⟩:=r1
 obtain⟨t',rfl⟩:=r2
 exact iadd_int ⟨.int _,H,I.tok _,⟨_,rfl⟩,q⟩
end
section
variable {X:Cx} {pos:aR}
def zjq(c:TT)(tb:TS):TS:=λD σ H=>∃W:Nat->St->Hp->Prop,(∃m,W m σ H)/\∀m σ H,W m σ H->
 c σ H λb H1=>if b=true then ∃N:St->Hp->Prop,(∀j H',N j H'->∃q,q<m/\W q j H')/\tb {D with nx:=N,ct:=N,bk:=D.nx} σ H1 else D.nx σ H1
theorem Wv{c:aG}{j:List aM}{tc:TT}{tb:TS}(hp:kE (aJ X.prog X.w) X.A X.env X.xe)(hc:PT X c tc)(hb:PSs X j tb):PS X (.While c j [] pos) (zjq tc tb):=by
 intro pins s σ H D I h
 obtain⟨W,⟨m0,w0⟩,turn⟩:=h
 refine wpAny_While (codeAny_whileLoop (λn s'=>∃σ' H',Inv X pins σ' H' s'/\W n σ' H') ?_ m0 ⟨σ,H,I,w0⟩)
 rintro n s1 ⟨J,H1,I1,w1⟩
 refine hZ hp (thn (hc pins s1 J H1 _ I1 (turn n J H1 w1)) λb s2 ⟨H2,I2,O⟩=>?_)
 cases b with
 | true=>
  obtain⟨N,hN,O⟩:=O
  rw[if_pos rfl]
  refine hZ hp (thn (hb pins s2 J H2 _ I2 O) λf s3 R=>?_)
  cases f with
  | next=>
   obtain⟨q,z,U,Y⟩:=R
   obtain⟨Z,hm,w3⟩:=hN q z Y
   exact⟨Z,hm,q,z,U,w3⟩
  | cont=>
   obtain⟨q,z,U,Y⟩:=R
   obtain⟨Z,hm,w3⟩:=hN q z Y
   exact⟨Z,hm,q,z,U,w3⟩
  | brk=>exact R
  | ret v=>exact R
 | false=>
  rw[if_neg cJ]
  exact kC ⟨J,H2,I2,O⟩
end
structure It where
 go:Nat->Hp->Prop
 yld:Nat->Hp->V->Hp->Prop
 stop:Nat->Hp->Prop
def wH(X:Cx)(pins:List (aA×aL))(H:Hp)(b:aA):Prop :=
 H b=none/\b≠X.env.locals/\b∉X.fs/\(b∈X.ex\/X.s₀.heap.objs.size<=b)/\(∀x c,X.env.cells.lookup x=some c->c≠b)/\∀p∈X.pn++pins,p.1≠b
theorem Inv.fpOk(I:Inv X pins σ H s)(j:s.heap.objs.size<=b)(J:H' b=none):wH X pins H' b:=by
 refine⟨J,jD (cI I.lt j),I.nofs j,.inr (bS I.sz j),λx c e z=>?_,λp O z=>?_⟩
 ·obtain⟨v,q⟩:=I.cell x c e
  exact absurd (cI q.lt (by rw[z];exact j)) (cV _)
 ·exact absurd (cI (bF (I.pin p O).1) (by rw[z];exact j)) (cV _)
structure Turn (P:aS) (w:aO) (K:aE) (tg:aG) (J:It) (fp:List aA) (it:aA) (tn:Nat->aK->Prop):Prop where
 mem:it∈fp
 obj:∀i h,tn i h->∀b∈fp,∃o,h.get? b=some o/\∀v,o.data≠.cell v
 keep:∀i h h',tn i h->(∀b∈fp,∀o,h.get? b=some o->h'.get? b=some o)->tn i h'
 item:∀(X:Cx),X.prog=P->X.w=w->X.K=K->X.calm=true->∀(i:Nat) (pins:List (aA×aL)) (s:aD) (σ:St) (H:Hp) (E:aB->aD->Prop),Inv X pins σ H s->(∀b∈fp,wH X pins H b)->tn i s.heap->J.go i H->
  wpAny (aJ P w) X.A (fA (.ref it)) (λr s1=>∃u,r=some u/\
   wpAny (aJ P w) X.A (kF tg (.ref it) u) (λ_ s2=>∃x H',Inv X pins σ H' s2/\zQ x u/\J.yld i H x H'/\tn (i+1) s2.heap/\∀b∈fp,H' b=none) E s1) E s
 done:∀(X:Cx),X.prog=P->X.w=w->X.K=K->X.calm=true->∀(i:Nat) (pins:List (aA×aL)) (s:aD) (σ:St) (H:Hp) (E:aB->aD->Prop),Inv X pins σ H s->(∀b∈fp,wH X pins H b)->tn i s.heap->J.stop i H->
  wpAny (aJ P w) X.A (fA (.ref it)) (λr s1=>r=none/\Inv X pins σ H s1) E s
 self:∀(A:bG) (i:Nat) (s:aD) (Q:aB->aD->Prop) (E:aB->aD->Prop),tn i s.heap->Q (.ref it) s->wpAny (aJ P w) A (pyIter (.ref it)) Q E s
abbrev TI:=St->Hp->(It->Hp->Prop)->Prop
def PIE(X:Cx)(pins:List (aA×aL))(σ:St)(tg:aG)(R:It->Hp->Prop)(j:aB)(s2:aD):Prop :=
 ∃(q:aA) (fp:List aA) (z:Nat->aK->Prop) (J:It) (H':Hp),j=.ref q/\Inv X pins σ H' s2/\Turn X.prog X.w X.K tg J fp q z/\z 0 s2.heap/\(∀b∈fp,wH X pins H' b)/\R J H'
def PI(X:Cx)(tg iter:aG)(j:TI):Prop :=
 ∀(pins:List (aA×aL)) (s:aD) (σ:St) (H:Hp) (R:It->Hp->Prop),Inv X pins σ H s->j σ H R->
  wpAny (aJ X.prog X.w) X.A (aW iter X.env) (λv s1=>wpAny (aJ X.prog X.w) X.A (pyIter v) (PIE X pins σ tg R) X.xe s1) X.xe s
theorem zcG{M: hV}{A: bG}{E: aB->aD->Prop}{s: aD}{tg: aG}{q: aA}{u: aB}{o: aL}{n: String}{vs: Array aB}{Q: Unit->aD->Prop}(z: s.heap.get? q=some o)(I: o.cls= .type n)(J: o.data= .fields vs) 
    (O: ["enumerate", "zip", "dict_itemiterator", "dict_reverseitemiterator", "odict_iterator", "itertools.zip_longest", "itertools.pairwise"].contains n=false) (j: Q () s) : wpAny M A (kF tg (.ref q) u) Q E s :=by
  unfold kF
  cases tg <;>first
    | exact bJ j
    | (cases u <;>first
        | exact bJ j
        | (refine aI (wpAny_load z ?_)
           rw[I, J]
           show wpAny M A (if(["enumerate", "zip", "dict_itemiterator", "dict_reverseitemiterator", "odict_iterator", "itertools.zip_longest", "itertools.pairwise"].contains n && vs[0]? ==some (fX _))=true then _ else _) Q E s
           rw[if_neg (by intro h; rw[O, Bool.false_and]at h; cases h)]
           exact bJ j))
def Itl(K:aE)(a:aA):It :=
 ⟨λi H=>∃xs x,SqL K H a xs/\xs[i]?=some x,λi H x H'=>H'=H/\∀xs,SqL K H a xs->xs[i]?=some x,λi H=>∃xs,SqL K H a xs/\xs.length<=i⟩
def Itt(K:aE)(a:aA):It :=
 ⟨λi H=>∃xs x,SqT K H a xs/\xs[i]?=some x,λi H x H'=>H'=H/\∀xs,SqT K H a xs->xs[i]?=some x,λi H=>∃xs,SqT K H a xs/\xs.length<=i⟩
def Itr(lo:Int)(n:Nat):It:=⟨λi _=>i<n,λi H x H'=>H'=H/\x=.int (lo+i),λi _=>n<=i⟩
theorem Qe{P:aS}{w:aO}{K:aE}{tg:aG}(a it:aA):Turn P w K tg (Itl K a) [it] it (λi h=>h.IsListIter it a i) where
 mem:=by simp
 obj:=λi h st b hb=>by
  have e:b=it:=by simpa using hb
  subst e
  obtain⟨o,e,c,d⟩:=st
  exact⟨o,e,λv z=>by rw[d]at z;cases z⟩
 keep:=λi h h' st k=>st.at λo e=>k it (by simp) o e
 item:=by
  intro X hP hw hK hc i pins s σ H E I hf st hg
  subst hP hw hK
  obtain⟨xs,x,hq,hx⟩:=hg
  obtain⟨its,rv,p,hz⟩:=I.list hq
  obtain⟨u,hu,ru⟩:=rv.get hx
  obtain⟨f0,f1,f2,f3,f4,f5⟩:=hf it (by simp)
  refine nF st p.isList (x:=u) (by simpa using hu) λh' st' sb=>?_
  have I1:Inv X pins σ H {s with heap:=h'}:=I.turned (t':=s.toks) (λb o hb e=>(sb.2 b hb).trans e) f0 f1 f3 f4 f5
  obtain⟨o,e,c,d⟩:=id st'
  exact⟨u,rfl,zcG (s:={s with heap:=h'}) e c d (by decide) ⟨x,H,I1,ru,⟨rfl,λys hy=>by rw[I.list_inj hy hq];exact hx⟩,st',λb hb=>(hf b hb).1⟩⟩
 done:=by
  intro X hP hw hK hc i pins s σ H E I hf st hg
  subst hP hw hK
  obtain⟨xs,hq,hx⟩:=hg
  obtain⟨its,rv,p,hz⟩:=I.list hq
  obtain⟨f0,f1,f2,f3,f4,f5⟩:=hf it (by simp)
  have hl:=rv.length
  exact nG (I.ok.hd hc) st p.isList (by simp;omega) λh' eb=>⟨rfl,I.turned (t':=s.toks) (λb o hb e=>eb b o hb e) f0 f1 f3 f4 f5⟩
 self:=λ_ _ _ _ _ st h=>wpAny_pyIter_listiter st h
theorem W6{P:aS}{w:aO}{K:aE}{tg:aG}(a it:aA):Turn P w K tg (Itt K a) [it] it (λi h=>h.IsTupleIter it a i) where
 mem:=by simp
 obj:=λi h st b hb=>by
  have e:b=it:=by simpa using hb
  subst e
  obtain⟨o,e,c,d⟩:=st
  exact⟨o,e,λv z=>by rw[d]at z;cases z⟩
 keep:=λi h h' st k=>st.at λo e=>k it (by simp) o e
 item:=by
  intro X hP hw hK hc i pins s σ H E I hf st hg
  subst hP hw hK
  obtain⟨xs,x,hq,hx⟩:=hg
  obtain⟨its,rv,p,hz⟩:=I.tuple hq
  obtain⟨u,hu,ru⟩:=rv.get hx
  obtain⟨f0,f1,f2,f3,f4,f5⟩:=hf it (by simp)
  refine wpAny_pyNext_tuple_item st (show s.heap.IsTuple a its.toArray from p) (x:=u) (by simpa using hu) λh' st' sb=>?_
  have I1:Inv X pins σ H {s with heap:=h'}:=I.turned (t':=s.toks) (λb o hb e=>(sb.2 b hb).trans e) f0 f1 f3 f4 f5
  obtain⟨o,e,c,d⟩:=id st'
  exact⟨u,rfl,zcG (s:={s with heap:=h'}) e c d (by decide) ⟨x,H,I1,ru,⟨rfl,λys hy=>by rw[I.tuple_inj hy hq];exact hx⟩,st',λb hb=>(hf b hb).1⟩⟩
 done:=by
  intro X hP hw hK hc i pins s σ H E I hf st hg
  subst hP hw hK
  obtain⟨xs,hq,hx⟩:=hg
  obtain⟨its,rv,p,hz⟩:=I.tuple hq
  obtain⟨f0,f1,f2,f3,f4,f5⟩:=hf it (by simp)
  have hl:=rv.length
  exact wpAny_pyNext_tuple_end (I.ok.hd hc) st (show s.heap.IsTuple a its.toArray from p) (by simp;omega) λh' eb=>⟨rfl,I.turned (t':=s.toks) (λb o hb e=>eb b o hb e) f0 f1 f3 f4 f5⟩
 self:=λ_ _ _ _ _ st h=>wpAny_pyIter_tupleiter st h
theorem zcH{P:aS}{w:aO}{K:aE}{tg:aG}(it:aA)(lo:Int)(n:Nat):Turn P w K tg (Itr lo n) [it] it (λi h=>IsRangeIter h it (lo+(i:Nat)*1) ((n:Int)-(i:Nat)) 1) where
 mem:=by simp
 obj:=λi h st b hb=>by
  have e:b=it:=by simpa using hb
  subst e
  exact⟨_,st,λv z=>by
   have z':Data.fields _=Data.cell v:=z
   cases z'⟩
 keep:=λi h h' st k=>k it (by simp) _ st
 item:=by
  intro X hP hw hK hc i pins s σ H E I hf st hg
  subst hP hw hK
  obtain⟨f0,f1,f2,f3,f4,f5⟩:=hf it (by simp)
  have W:=Walks.range (prog:=X.prog) (w:=X.w) (I.ok.hd hc) it lo 1 n
  refine W.item i s _ _ hg st λv h' tk hv st' kk=>?_
  obtain⟨t,rfl⟩:=hv
  have I1:Inv X pins σ H {s with heap:=h',toks:=tk}:=I.turned (λb o hb e=>kk b o (by simpa using hb) e) f0 f1 f3 f4 f5
  refine⟨_,rfl,zcG (s:={s with heap:=h',toks:=tk}) (n:="range_iterator") st' rfl rfl (by decide) ⟨.int (lo+i),H,I1,⟨t,?_⟩,⟨rfl,rfl⟩,st',λb hb=>(hf b hb).1⟩⟩
  rw[Int.mul_one]
 done:=by
  intro X hP hw hK hc i pins s σ H E I hf st hg
  subst hP hw hK
  obtain⟨f0,f1,f2,f3,f4,f5⟩:=hf it (by simp)
  exact wpAny_pyNext_range_end (I.ok.hd hc) st (by have:n<=i:=hg;omega) λh' eb=>⟨rfl,I.turned (t':=s.toks) (λb o hb e=>eb b o hb e) f0 f1 f3 f4 f5⟩
 self:=λ_ _ _ _ _ st h=>wpAny_pyIter_rangeiter st h
end L2
namespace L2
open PySem PySem.Spec PyProof.Rows
section
variable {X:Cx} {tg:aG}
def zkZ(K:aE)(tl:TE):TI:=λσ H R=>tl σ H λx H1=>∃a,x=.ref a/\(∃xs,SqL K H1 a xs)/\R (Itl K a) H1
def zmw(K:aE)(tl:TE):TI:=λσ H R=>tl σ H λx H1=>∃a,x=.ref a/\(∃xs,SqT K H1 a xs)/\R (Itt K a) H1
theorem XI(z:PE X l tl):PI X tg l (zkZ X.K tl):=by
 intro pins s σ H R I h
 refine thn (z pins s σ H _ I h) λv s1 ⟨x,H1,j,r1,J⟩=>?_
 obtain⟨a,e,⟨xs,O⟩,q⟩:=J
 subst e
 cases r1
 obtain⟨its,Y,p,Z⟩:=j.list O
 refine kG p.isList ?_
 refine⟨s1.heap.objs.size,[s1.heap.objs.size],_,_,H1,rfl,j.kept (t':=s1.toks) λb o e=>bB _ e,Qe a _,⟨_,cK _ rfl,rfl,rfl⟩,λb U=>?_,q⟩
 have e:b=s1.heap.objs.size:=by simpa using U
 subst e
 exact j.fpOk (aP _) (j.hok.fresh (aP _))
theorem zjr(z:PE X l tl):PI X tg l (zmw X.K tl):=by
 intro pins s σ H R I h
 refine thn (z pins s σ H _ I h) λv s1 ⟨x,H1,j,r1,J⟩=>?_
 obtain⟨a,e,⟨xs,O⟩,q⟩:=J
 subst e
 cases r1
 obtain⟨its,Y,p,Z⟩:=j.tuple O
 refine iA (show s1.heap.IsTuple a its.toArray from p) ?_
 refine⟨s1.heap.objs.size,[s1.heap.objs.size],_,_,H1,rfl,j.kept (t':=s1.toks) λb o e=>bB _ e,W6 a _,⟨_,cK _ rfl,rfl,rfl⟩,λb U=>?_,q⟩
 have e:b=s1.heap.objs.size:=by simpa using U
 subst e
 exact j.fpOk (aP _) (j.hok.fresh (aP _))
theorem zfM{pins:List (aA×aL)}{σ:St}{H:Hp}{s:aD}{R:It->Hp->Prop}{E:aB->aD->Prop}{lo hi:Int}{t u v:cU}{tk:Nat}(I:Inv X pins σ H s)(h1:-(2^62)<=lo)(h2:lo<2^62)(z:-(2^62)<=hi)(J:hi<2^62) 
  (q:R (Itr lo (hi-lo).toNat) H):wpAny (aJ X.prog X.w) X.A (pyIter (.ref s.heap.objs.size)) (PIE X pins σ tg R) E {s with heap:=s.heap.push {cls:=.type "range",data:=.fields #[.int lo t,.int hi u,.int 1 v]},toks:=tk}:=by
 refine wpAny_pyIter_range (IsRange.new ..) (small_one h1 h2 z J) ?_
 have j:Inv X pins σ H {s with heap:=s.heap.push {cls:=.type "range",data:=.fields #[.int lo t,.int hi u,.int 1 v]},toks:=tk}:=I.kept λb o e=>bB _ e
 refine⟨(s.heap.push {cls:=.type "range",data:=.fields #[.int lo t,.int hi u,.int 1 v]}).objs.size,[(s.heap.push {cls:=.type "range",data:=.fields #[.int lo t,.int hi u,.int 1 v]}).objs.size],_,_,H,rfl,
  j.kept (t':=tk) λb o e=>bB _ e,zcH _ lo (hi-lo).toNat,?_,λb O=>?_,q⟩
 ·have U:lo+((0:Nat):Int)*1=lo:=by simp
  have Y:(((hi-lo).toNat:Nat):Int)-((0:Nat):Int)=qy lo hi 1:=by rw[rangeSize_one];split <;>omega
  show IsRangeIter _ _ (lo+((0:Nat):Int)*1) ((((hi-lo).toNat:Nat):Int)-((0:Nat):Int)) 1
  rw[U,Y]
  exact cK _ rfl
 ·have e:b=(s.heap.push {cls:=.type "range",data:=.fields #[.int lo t,.int hi u,.int 1 v]}).objs.size:=by simpa using O
  subst e
  exact j.fpOk (aP _) (j.hok.fresh (aP _))
def zk0(ta:TA):TI:=λσ H R=>ta σ H λvs H1=>∃j:Int,vs=[.int j]/\-(2^62)<=j/\j<2^62/\R (Itr 0 j.toNat) H1
theorem Qf(J:Gl X "range")(O:X.mg "range"=none)(U:PA X [a] ta)(Y:bD [a] X.env=[(false,aW a X.env)]:=by rfl):PI X tg (.Call (.Name "range" p) [a] [] pos) (zk0 ta):=by
 intro pins s σ H R I h
 refine Call_ (Zb I J O boot_range (jE (thn (U pos pins s σ H _ I h) λus s1 ⟨vs,H1,Z,r1,z⟩=>?_) Y rfl))
 obtain⟨j,e,z,q2,q⟩:=z
 subst e
 cases r1 with
 | cons r rr=>
  cases rr
  obtain⟨t,rfl⟩:=r
  exact call_range_1 (zfM Z (by omega) (by omega) z q2 (by simpa using q))
def zmx(z:TI)(g:TG)(tb:TS):TS:=λD σ H=>z σ H λJ H1=>∃W:Nat->Nat->St->Hp->Prop,(∃m,W 0 m σ H1)/\∀i m σ H,W i m σ H->
 (J.stop i H/\D.nx σ H)\/(J.go i H/\∃N:St->Hp->Prop,(∀j H',N j H'->∃q,q<m/\W (i+1) q j H')/\∀x H',J.yld i H x H'->g x σ H' λI H2=>tb {D with nx:=N,ct:=N,bk:=D.nx} I H2)
def Y4(fp:List aA)(h:aK):List (aA×aL):=fp.filterMap λb=>(h.get? b).map λo=>(b,o)
theorem Ys(j:b∈fp)(e:h.get? b=some o):(b,o)∈Y4 fp h:=nH.mpr ⟨b,j,by rw[e];rfl⟩
theorem zep(j:p∈Y4 fp h):p.1∈fp/\h.get? p.1=some p.2:=by
 obtain⟨b,z,e⟩:=nH.mp j
 cases q:h.get? b with
 | none=>rw[q]at e;cases e
 | some o=>
  rw[q]at e
  have I:(b,o)=p:=eP e
  subst I
  exact⟨z,q⟩
theorem Inv.pinned(I:Inv X pins σ H s)(J:∀b∈fp,wH X pins H b)(O:∀b∈fp,∃o,s.heap.get? b=some o/\∀v,o.data≠.cell v):Inv X (pins++Y4 fp s.heap) σ H s :=
 I.pins_of λp R=>(bX.mp R).elim (λz=>I.pin p (dH _ z)) λz=>by
  obtain⟨j,e⟩:=zep z
  obtain⟨U,Y,Z,_⟩:=J p.1 j
  obtain⟨o,q,d⟩:=O p.1 j
  rw[e]at q;cases q
  exact⟨e,U,Y,Z,d⟩
theorem Inv.unpinned(I:Inv X (pins++pl) σ H s):Inv X pins σ H s:=I.pins_of λp j=>I.pin p (dH _ (eJ _ j))
theorem uC{iter:aG}{body:List aM}{wi:TI}{g:TG}{tb:TS}{pos:aR}(hp:kE (aJ X.prog X.w) X.A X.env X.xe)(hc:X.calm=true)(hi:PI X tg iter wi)(hg:PG X tg g)(hb:PSs X body tb) 
  (hs:∀x,gM iter X.env x=pure x:=by intro _;rfl):PS X (.For tg iter body [] pos) (zmx wi g tb):=by
 intro pins s σ H D I h
 refine wpAny_For (thn (hi pins s σ H _ I h) λv s1 h1=>thn h1 λitv s2 h2=>?_) hs
 obtain⟨it,fp,tn,J,H2,e,I2,T,st2,f2,W,⟨m0,w0⟩,turn⟩:=h2
 subst e
 have stat:∀{H':Hp},(∀b∈fp,H' b=none)->∀b∈fp,wH X pins H' b:=λhn b hb=>⟨hn b hb,(f2 b hb).2⟩
 refine codeAny_forLoop_any (λn s'=>∃i σ' H',Inv X pins σ' H' s'/\tn i s'.heap/\(∀b∈fp,H' b=none)/\W i n σ' H') ?_ m0 ⟨0,σ,H2,I2,st2,λb hb=>(f2 b hb).1,w0⟩
 rintro n s3 ⟨i,σ3,H3,I3,st3,fr3,w3⟩
 rcases turn i n σ3 H3 w3 with⟨stop,qn⟩|⟨go,N,hN,step⟩
 ·refine hZ hp (thn (T.done X rfl rfl rfl hc i pins s3 σ3 H3 X.xe I3 (stat fr3) st3 stop) λr s4 ⟨hr,I4⟩=>?_)
  subst hr
  exact kC ⟨σ3,H3,I4,qn⟩
 ·refine hZ hp (thn (T.item X rfl rfl rfl hc i pins s3 σ3 H3 X.xe I3 (stat fr3) st3 go) λr s4 ⟨u,hr,h4⟩=>?_)
  subst hr
  refine hZ hp (thn h4 λ_ s5 ⟨x,H5,I5,r5,y5,st5,fr5⟩=>?_)
  have I5':=I5.pinned (stat fr5) (T.obj _ _ st5)
  refine hZ hp (thn (hg _ s5 σ3 H5 x u _ I5' r5 (step x H5 y5)) λ_ s6 ⟨σ6,H6,I6,q6⟩=>?_)
  refine hZ hp (thn (hb _ s6 σ6 H6 _ I6 q6) λf s7 q7=>?_)
  have again:∀{σ7:St} {H7:Hp},Inv X (pins++Y4 fp s5.heap) σ7 H7 s7->N σ7 H7->∃m,m<n/\∃i σ' H',Inv X pins σ' H' s7/\tn i s7.heap/\(∀b∈fp,H' b=none)/\W i m σ' H':=λ{σ7 H7} I7 n7=>by
   obtain⟨m',hm,w7⟩:=hN σ7 H7 n7
   refine⟨m',hm,i+1,σ7,H7,I7.unpinned,T.keep _ _ _ st5 λb hb o e=>(I7.pin (b,o) (dH _ (dH _ (Ys hb e)))).1,λb hb=>?_,w7⟩
   obtain⟨o,e,d⟩:=T.obj _ _ st5 b hb
   exact(I7.pin (b,o) (dH _ (dH _ (Ys hb e)))).2.1
  cases f with
  | next=>obtain⟨σ7,H7,I7,n7⟩:=q7;exact again I7 n7
  | cont=>obtain⟨σ7,H7,I7,n7⟩:=q7;exact again I7 n7
  | brk=>obtain⟨σ7,H7,I7,q7⟩:=q7;exact⟨σ7,H7,I7.unpinned,q7⟩
  | ret v=>obtain⟨x7,σ7,H7,I7,r7,q7⟩:=q7;exact⟨x7,σ7,H7,I7.unpinned,r7,q7⟩
end
theorem Yt{K:aE}{a:aA}{xs:List V}{g:TG}{tb:TS}{D:Ends}{σ:St}{H:Hp}(j:Nat->St->Hp->Prop)(R:j 0 σ H)(U:∀i σ H,i<=xs.length->j i σ H->SqL K H a xs) 
  (Y:∀i x σ H,xs[i]?=some x->j i σ H->g x σ H λI H2=>tb {D with nx:=j (i+1),ct:=j (i+1),bk:=D.nx} I H2) (Z:∀σ H,j xs.length σ H->D.nx σ H) :
  ∃W:Nat->Nat->St->Hp->Prop,(∃m,W 0 m σ H)/\∀i m σ H,W i m σ H->
   ((Itl K a).stop i H/\D.nx σ H)\/((Itl K a).go i H/\∃N:St->Hp->Prop,(∀J H',N J H'->∃O,O<m/\W (i+1) O J H')/\∀x H',(Itl K a).yld i H x H'->g x σ H' λI H2=>tb {D with nx:=N,ct:=N,bk:=D.nx} I H2):=by
 refine⟨λi m σ H=>m=xs.length-i/\i<=xs.length/\j i σ H,⟨xs.length,by simp,dJ _,R⟩,?_⟩
 rintro i m σ H ⟨rfl,hi,p⟩
 have q:=U i σ H hi p
 by_cases z:i<xs.length
 ·refine .inr ⟨⟨xs,xs[i],q,by simp[z]⟩,j (i+1),λJ H' p'=>⟨xs.length-(i+1),by omega,rfl,z,p'⟩,λx H' y=>?_⟩
  obtain⟨e,y⟩:=y
  subst e
  exact Y i x σ _ (y xs q) p
 ·have e:i=xs.length:=by omega
  subst e
  exact .inl ⟨⟨xs,q,aP _⟩,Z σ H p⟩
end L2
namespace L2
open PySem PySem.Spec PyProof.Rows
abbrev R2:=V->V->Hp->VK->Prop
def OpR(X:Cx)(f:aB->aB->cW aB)(r:R2):Prop :=
 ∀(pins:List (aA×aL)) (s:aD) (σ:St) (H:Hp) (x y:V) (v u:aB) (Q:VK),Inv X pins σ H s->zQ x v->zQ y u->r x y H Q->
  wpAny (aJ X.prog X.w) X.A (f v u) (EP X pins σ Q) X.xe s
def UnR(X:Cx)(f:aB->cW aB)(r:V->Hp->VK->Prop):Prop :=
 ∀(pins:List (aA×aL)) (s:aD) (σ:St) (H:Hp) (x:V) (v:aB) (Q:VK),Inv X pins σ H s->zQ x v->r x H Q->
  wpAny (aJ X.prog X.w) X.A (f v) (EP X pins σ Q) X.xe s
def wo(X:Cx)(f:aB)(r:List V->Hp->VK->Prop):Prop :=
 ∀(pins:List (aA×aL)) (s:aD) (σ:St) (H:Hp) (xs:List V) (us:List aB) (Q:VK),Inv X pins σ H s->zO xs us->r xs H Q->
  wpAny (aJ X.prog X.w) X.A (call f us) (EP X pins σ Q) X.xe s
def tOp(r:R2)(ta tb:TE):TE:=λσ H Q=>ta σ H λx H1=>tb σ H1 λy H2=>r x y H2 Q
def tUn(r:V->Hp->VK->Prop)(ta:TE):TE:=λσ H Q=>ta σ H λx H1=>r x H1 Q
def rI(C:Int->Int->Prop)(g:Int->Int->V):R2:=λx y H Q=>∃i j,x=.int i/\y=.int j/\C i j/\Q (g i j) H
def rI0(g:Int->Int->V):R2:=λx y H Q=>∃i j,x=.int i/\y=.int j/\Q (g i j) H
def rU(g:Int->V):V->Hp->VK->Prop:=λx H Q=>∃i,x=.int i/\Q (g i) H
section
variable {X:Cx} {a b c:aG} {ta tb tc:TE} {pos:aR}
theorem zfN(j:PE X a ta)(q:PE X b tb){pins:List (aA×aL)}{s:aD}{σ:St}{H:Hp}{R:V->V->Hp->Prop}(I:Inv X pins σ H s) 
  (h:ta σ H λx H1=>tb σ H1 λy H2=>R x y H2) {Q:aB->aD->Prop} {f:aB->aB->cW aB}
  (z:∀v u s2 x y H2,Inv X pins σ H2 s2->zQ x v->zQ y u->R x y H2->wpAny (aJ X.prog X.w) X.A (f v u) Q X.xe s2) :
  wpAny (aJ X.prog X.w) X.A (aW a X.env) (λv J=>wpAny (aJ X.prog X.w) X.A (aW b X.env) (λu O=>wpAny (aJ X.prog X.w) X.A (f v u) Q X.xe O) X.xe J) X.xe s:=by
 refine thn (j pins s σ H _ I h) λv s1 ⟨x,H1,U,r1,Y⟩=>?_
 refine thn (q pins s1 σ H1 _ U Y) λu s2 ⟨y,H2,Z,r2,q2⟩=>?_
 exact z v u s2 x y H2 Z r1 r2 q2
theorem zcI(j:OpR X (dM op) r)(z:PE X a ta)(J:PE X b tb):PE X (.BinOp a op b pos) (tOp r ta tb):=by
 intro pins s σ H Q I h
 exact wpAny_BinOp (zfN z J I h λv u s2 x y H2 O R U q=>j pins s2 σ H2 x y v u Q O R U q)
theorem zk1{r:V->Hp->VK->Prop}(q:UnR X (unaryOp op) r)(z:PE X a ta):PE X (.UnaryOp op a pos) (tUn r ta):=by
 intro pins s σ H Q I h
 exact UnaryOp_ (thn (z pins s σ H _ I h) λv s1 j=>(by obtain⟨x,H1,J,r1,O⟩:=j;exact q pins s1 σ H1 x v Q J r1 O))
theorem opI{f:aB->aB->cW aB}{C:Int->Int->Prop}{g:Int->Int->Int} 
  (gN:∀(i j:Int) (t u:cU) (s:aD) (Q:aB->aD->Prop) (E:aB->aD->Prop),C i j->Q (.int (g i j) s.toks) {s with toks:=s.toks+1}->wpAny (aJ X.prog X.w) X.A (f (.int i t) (.int j u)) Q E s) :
  OpR X f (rI C λi j=>.int (g i j)):=by
 intro pins s σ H x y v u Q I z J h
 obtain⟨i,j,rfl,rfl,O,q⟩:=h
 obtain⟨t,rfl⟩:=z
 obtain⟨t',rfl⟩:=J
 exact gN i j t t' s _ _ O ⟨.int (g i j),H,I.tok _,⟨_,rfl⟩,q⟩
theorem zjs{f:aB->aB->cW aB}{g:Int->Int->Int} 
  (gN:∀(i j:Int) (t u:cU) (s:aD) (Q:aB->aD->Prop) (E:aB->aD->Prop),Q (.int (g i j) s.toks) {s with toks:=s.toks+1}->wpAny (aJ X.prog X.w) X.A (f (.int i t) (.int j u)) Q E s) :
  OpR X f (rI0 λi j=>.int (g i j)):=by
 intro pins s σ H x y v u Q I z J h
 obtain⟨i,j,rfl,rfl,q⟩:=h
 obtain⟨t,rfl⟩:=z
 obtain⟨t',rfl⟩:=J
 exact gN i j t t' s _ _ ⟨.int (g i j),H,I.tok _,⟨_,rfl⟩,q⟩
theorem zfO{f:aB->aB->cW aB}{g:Int->Int->Bool} 
  (gN:∀(i j:Int) (t u:cU) (s:aD) (Q:aB->aD->Prop) (E:aB->aD->Prop),Q (.bool (g i j)) s->wpAny (aJ X.prog X.w) X.A (f (.int i t) (.int j u)) Q E s) :
  OpR X f (rI0 λi j=>.bl (g i j)):=by
 intro pins s σ H x y v u Q I z J h
 obtain⟨i,j,rfl,rfl,q⟩:=h
 obtain⟨t,rfl⟩:=z
 obtain⟨t',rfl⟩:=J
 exact gN i j t t' s _ _ ⟨.bl (g i j),H,I,rfl,q⟩
def zfP(i j:Int):Prop:=0<j/\j<1073741824
def JC(i j:Int):Prop:=(-(2^64)<i/\i<2^64)\/(-(2^64)<j/\j<2^64)
theorem JC.ok{i j:Int}(h:JC i j):IntMulOk i j:=by
 rcases h with⟨h1,h2⟩|⟨h1,h2⟩
 ·exact .of_left (nI h1 h2)
 ·exact .of_right (nI h1 h2)
theorem zeq:OpR X (dM .Add) (rI0 λi j=>.int (i+j)):=zjs λ_ _ _ _ _ _ _ q=>add_int q
theorem Y5:OpR X (dM .Sub) (rI0 λi j=>.int (i-j)):=zjs λ_ _ _ _ _ _ _ q=>sub_int q
theorem uD:OpR X (dM .Mult) (rI JC λi j=>.int (i*j)):=opI λ_ _ _ _ _ _ _ z q=>mul_int q z.ok
theorem zbF:OpR X (dM .FloorDiv) (rI zfP λi j=>.int (i/j)):=opI λi j _ _ _ _ _ hc q=>by
 have h1:(0:Int)<j:=hc.1
 have h2:j<1073741824:=hc.2
 exact floordiv_int (by omega) (by rw[nJ i (by omega)];exact q) (.inl (nK (by omega)))
theorem Zc:OpR X (dM .Mod) (rI (λ_ j=>0<j) λi j=>.int (i%j)):=opI λi j _ _ _ _ _ z q=>by
 have h1:(0:Int)<j:=z
 exact mod_int' (by omega) (by rw[nL i (by omega)];exact q)
theorem unI{f:aB->cW aB}{g:Int->Int} 
  (gN:∀(i:Int) (t:cU) (s:aD) (Q:aB->aD->Prop) (E:aB->aD->Prop),Q (.int (g i) s.toks) {s with toks:=s.toks+1}->wpAny (aJ X.prog X.w) X.A (f (.int i t)) Q E s) :
  UnR X f (rU λi=>.int (g i)):=by
 intro pins s σ H x v Q I j h
 obtain⟨i,rfl,q⟩:=h
 obtain⟨t,rfl⟩:=j
 exact gN i t s _ _ ⟨.int (g i),H,I.tok _,⟨_,rfl⟩,q⟩
theorem zjt:UnR X (unaryOp .USub) (rU λi=>.int (-i)):=unI λ_ _ _ _ _ q=>neg_int q
end
def zju:V->V->Bool
 | .non,.non=>true|.non,.int _=>true|.int _,.non=>true|.non,.bl _=>true|.bl _,.non=>true|.non,.str _=>true|.str _,.non=>true
 | .int _,.int _=>true|.bl _,.bl _=>true|.str _,.str _=>true|.byt _,.byt _=>true
 | .int _,.str _=>true|.str _,.int _=>true|.bl _,.str _=>true|.str _,.bl _=>true
 | _,_=>false
def rEq:R2:=λx y H Q=>zju x y=true/\Q (.bl (decide (x=y))) H
def rNe:R2:=λx y H Q=>zju x y=true/\Q (.bl (!decide (x=y))) H
theorem zbG{i j:Int}:decide (V.int i=V.int j)=(i==j):=by
 rw[gO]
 simp
theorem zer:decide (V.bl i=V.bl j)=(i==j):=by
 rw[gO]
 simp
theorem zbH:decide (V.str i=V.str j)=(i==j):=by
 rw[gO]
 simp
theorem zbI:decide (V.byt i=V.byt j)=(i.toList==j.toList):=by
 rw[gO]
 cases i
 cases j
 simp
section
variable {X:Cx} {a b c:aG} {ta tb tc:TE} {pos:aR}
theorem yA(I:Inv X pins σ H s)(q:Q (.bl k) H)(e:k=j):EP X pins σ Q (.bool j) s:=by
 subst e
 exact⟨.bl k,H,I,rfl,q⟩
theorem zk2:OpR X (cP .Eq) rEq:=by
 intro pins s σ H x y v u Q I O z h
 obtain⟨J,q⟩:=h
 cases x with
 | non=>
  cases O
  cases y with
  | non=>cases z;exact qz (yA I q (by simp))
  | bl j=>cases z;exact qA (yA I q (by simp))
  | int j=>obtain⟨t',rfl⟩:=z;exact qB (yA I q (by simp))
  | str j=>obtain⟨t',rfl⟩:=z;exact qC (yA I q (by simp))
  | _=>exact absurd (show false=true from J) cJ
 | bl i=>
  cases O
  cases y with
  | non=>cases z;exact qD (yA I q (by simp))
  | bl j=>cases z;exact eq_bool (yA I q zer)
  | str j=>obtain⟨t',rfl⟩:=z;exact qE (yA I q (by simp))
  | _=>exact absurd (show false=true from J) cJ
 | int i=>
  obtain⟨t,rfl⟩:=O
  cases y with
  | non=>cases z;exact qF (yA I q (by simp))
  | int j=>obtain⟨t',rfl⟩:=z;exact eq_int (yA I q zbG)
  | str j=>obtain⟨t',rfl⟩:=z;exact qG (yA I q (by simp))
  | _=>exact absurd (show false=true from J) cJ
 | str i=>
  obtain⟨t,rfl⟩:=O
  cases y with
  | non=>cases z;exact qH (yA I q (by simp))
  | bl j=>cases z;exact qI (yA I q (by simp))
  | int j=>obtain⟨t',rfl⟩:=z;exact qJ (yA I q (by simp))
  | str j=>obtain⟨t',rfl⟩:=z;exact eq_str (yA I q zbH)
  | _=>exact absurd (show false=true from J) cJ
 | byt i=>
  obtain⟨t,rfl⟩:=O
  cases y with
  | byt j=>obtain⟨t',rfl⟩:=z;exact PySem.W.eq_bytes (yA I q zbI)
  | _=>exact absurd (show false=true from J) cJ
 | _=>cases y <;>exact absurd (show false=true from J) cJ
theorem zk3:OpR X (cP .NotEq) rNe:=by
 intro pins s σ H x y v u Q I O z h
 obtain⟨J,q⟩:=h
 cases x with
 | non=>
  cases O
  cases y with
  | non=>cases z;exact qK (yA I q (by simp))
  | bl j=>cases z;exact qL (yA I q (by simp))
  | int j=>obtain⟨t',rfl⟩:=z;exact qM (yA I q (by simp))
  | str j=>obtain⟨t',rfl⟩:=z;exact qN (yA I q (by simp))
  | _=>exact absurd (show false=true from J) cJ
 | bl i=>
  cases O
  cases y with
  | non=>cases z;exact qO (yA I q (by simp))
  | bl j=>cases z;exact ne_bool (yA I q (congrArg not zer))
  | str j=>obtain⟨t',rfl⟩:=z;exact qP (yA I q (by simp))
  | _=>exact absurd (show false=true from J) cJ
 | int i=>
  obtain⟨t,rfl⟩:=O
  cases y with
  | non=>cases z;exact qQ (yA I q (by simp))
  | int j=>obtain⟨t',rfl⟩:=z;exact ne_int (yA I q (congrArg not zbG))
  | str j=>obtain⟨t',rfl⟩:=z;exact qR (yA I q (by simp))
  | _=>exact absurd (show false=true from J) cJ
 | str i=>
  obtain⟨t,rfl⟩:=O
  cases y with
  | non=>cases z;exact qS (yA I q (by simp))
  | bl j=>cases z;exact qT (yA I q (by simp))
  | int j=>obtain⟨t',rfl⟩:=z;exact qU (yA I q (by simp))
  | str j=>obtain⟨t',rfl⟩:=z;exact ne_str (yA I q (congrArg not zbH))
  | _=>exact absurd (show false=true from J) cJ
 | byt i=>
  obtain⟨t,rfl⟩:=O
  cases y with
  | byt j=>obtain⟨t',rfl⟩:=z;exact PySem.W.ne_bytes (yA I q (congrArg not zbI))
  | _=>exact absurd (show false=true from J) cJ
 | _=>cases y <;>exact absurd (show false=true from J) cJ
theorem XJ:OpR X (cP .Lt) (rI0 λi j=>.bl (decide (i<j))):=zfO λ_ _ _ _ _ _ _ q=>lt_int q
theorem W7:OpR X (cP .LtE) (rI0 λi j=>.bl (decide (i<=j))):=zfO λ_ _ _ _ _ _ _ q=>le_int q
theorem zcJ:OpR X (cP .Gt) (rI0 λi j=>.bl (decide (j<i))):=zfO λ_ _ _ _ _ _ _ q=>gt_int q
theorem OpR.or(h:OpR X f r)(h':OpR X f J):OpR X f (λx y H Q=>r x y H Q\/J x y H Q):=by
 intro pins s σ H x y v u Q I j z q
 rcases q with q|q
 ·exact h pins s σ H x y v u Q I j z q
 ·exact h' pins s σ H x y v u Q I j z q
theorem yF(b:aG)(h:op≠.In:=by decide)(h2:op≠.NotIn:=by decide):hX op b=false:=by
 have j:(op==CmpOp.In)=false:=by cases op <;>first|rfl|exact absurd rfl h
 have q:(op==CmpOp.NotIn)=false:=by cases op <;>first|rfl|exact absurd rfl h2
 cases b <;>simp[hX,j,q]
theorem Uk(j:OpR X (cP op) r)(z:PE X a ta)(J:PE X b tb)(O:hX op b=false):PE X (.Compare a [op] [b] pos) (tOp r ta tb):=by
 intro pins s σ H Q I h
 exact wpAny_Compare1 (zfN z J I h λv u s2 x y H2 R U Y q=>j pins s2 σ H2 x y v u Q R U Y q) O
def zk4(t:TE):TT:=λσ H Q=>t σ H λx H'=>∃k,x=.bl k/\Q k H'
theorem ZY(j:OpR X (cP op) r)(q:PE X a ta)(J:PE X b tb)(O:hX op b=false):PT X (.Compare a [op] [b] pos) (zk4 (tOp r ta tb)):=by
 intro pins s σ H Q I h
 refine nB (thn (q pins s σ H _ I h) λv s1 ⟨x,H1,R,r1,U⟩=>thn (J pins s1 σ H1 _ R U) λu s2 ⟨y,H2,Y,r2,Z⟩=>
  thn (j pins s2 σ H2 x y v u _ Y r1 r2 Z) λc s3 ⟨z,H3,I3,r3,k,e,q3⟩=>?_) O
 subst e
 cases r3
 exact iK ⟨H3,I3,q3⟩
def zes(r q:R2)(ta tb tc:TE):TE:=λσ H Q=>ta σ H λx H1=>tb σ H1 λy H2=>r x y H2 λz j=>∃k,z=.bl k/\
 (if k=true then tc σ j λI J=>q y I J Q else Q (.bl false) j)
theorem zfQ{op op':iJ}{r r':R2}(ho:OpR X (cP op) r)(ho':OpR X (cP op') r')(ha:PE X a ta)(hb:PE X b tb)(hc:PE X c tc) 
  (hm:lastMarks [op,op'] [b,c]=false:=by with_unfolding_all rfl):PE X (.Compare a [op,op'] [b,c] pos) (zes r r' ta tb tc):=by
 intro pins s σ H Q I h
 refine Compare_chain (thn (ha pins s σ H _ I h) λv s1 ⟨x,H1,I1,r1,q1⟩=>chain_link (thn (hb pins s1 σ H1 _ I1 q1) λu s2 ⟨y,H2,I2,r2,q2⟩=>
  thn (ho pins s2 σ H2 x y v u _ I2 r1 r2 q2) λd s3 ⟨z,H3,I3,r3,k,e,q3⟩=>?_)) hm
 subst e
 cases r3
 refine iK ?_
 cases k with
 | false=>exact ite_ff ⟨.bl false,H3,I3,rfl,q3⟩
 | true=>exact ite_tt (chain_last (thn (hc pins s3 σ H3 _ I3 q3) λw' s4 hh6'=>(by obtain⟨z',H4,I4,r4,q4⟩:=hh6';exact ho' pins s4 σ H4 y z' u w' Q I4 r2 r4 q4)))
theorem W8:(aH:Nat)<2^63:=by rw[fB];decide
theorem uR(r:zO [x] us):∃u,us=[u]/\zQ x u:=by
 cases r with
 | cons r1 r2=>cases r2;exact⟨_,rfl,r1⟩
theorem zk5(r:zO [x,y] us):∃u j,us=[u,j]/\zQ x u/\zQ y j:=by
 cases r with
 | cons r1 r2=>
  cases r2 with
  | cons q z=>cases z;exact⟨_,_,rfl,r1,q⟩
theorem zet:wo X (.type "int") (λxs H Q=>(∃i,xs=[.int i]/\Q (.int i) H)\/∃k,xs=[.bl k]/\Q (.int (if k then 1 else 0)) H):=by
 intro pins s σ H xs us Q I r h
 rcases h with⟨i,rfl,q⟩|⟨k,rfl,q⟩
 ·obtain⟨u,rfl,t,rfl⟩:=uR r
  exact call_int_int ⟨.int i,H,I,⟨_,rfl⟩,q⟩
 ·obtain⟨u,rfl,r1⟩:=uR r
  cases r1
  exact call_int_bool ⟨.int (if k then 1 else 0),H,I.tok _,⟨_,rfl⟩,q⟩
theorem zbt:wo X (.builtin "divmod") (λxs H Q=>∃i j,xs=[.int i,.int j]/\zfP i j/\∀p,H p=none->Q (.ref p) (upd H p (.tup [.int (i/j),.int (i%j)]))):=by
 intro pins s σ H xs us Q I r h
 obtain⟨i,j,rfl,⟨h1,h2⟩,q⟩:=h
 obtain⟨u,w',rfl,⟨t,rfl⟩,⟨t',rfl⟩⟩:=zk5 r
 refine divmod_int (by omega) ?_ (.inl (nK (by omega)))
 rw[nJ i (by omega),nL i (by omega)]
 have hn:H s.heap.objs.size=none:=I.hok.fresh (aP _)
 refine⟨.ref s.heap.objs.size,_,?_,rfl,q _ hn⟩
 refine I.laid (λb o e=>bB _ e) (aP _) ⟨by simp only[cD,jF];rw[fB];decide,[.int (i/j) s.toks,.int (i%j) (s.toks+1)],.cons ⟨_,rfl⟩ (.cons ⟨_,rfl⟩ .nil),?_⟩
 exact⟨_,cK s.heap rfl,rfl,0,rfl⟩
end
end L2
namespace L2
open PySem PySem.Spec PyProof.Rows
structure ObjM (h:aK) (x dx C:aA) (mA:aC->Option aB):Prop where
 obj:h.get? x=some (gL C dx)
 ns:h.Ns1 dx mA
 ne:dx≠x
theorem zeu{h:aK}{dx:aA}{mA:aC->Option aB}(n:h.Ns1 dx mA):∃I,h.get? dx=some I/\∀name,kH name I=some (mA name):=by
 obtain⟨o,es,ep,J,O,R,_,U⟩:=n
 refine⟨o,J,λname=>?_⟩
 have e:=U name
 unfold nsFind findBy at e
 rw[<-Array.find?_toList]at e
 unfold kH
 rw[O]
 dsimp only
 split
 ·rename_i y q
  rw[q]at e
  exact congrArg some e
 ·rename_i q
  rw[q]at e
  have a:es.toList.any (·.refKey)=false:=by
   rw[List.any_eq_false]
   intro y Y
   obtain⟨z,t,j⟩:=R y (Array.mem_toList_iff.mp Y)
   simp[DictEntry.refKey,j]
  have Z:¬es.toList.any (·.refKey)=true:=by rw[a];exact cJ
  rw[if_neg Z]
  exact congrArg some e
theorem ObjM.look(I:ObjM h x dx C mA):∃j,PySem.W.InstAt h x (gL C dx) C (some j)/\∀name,kH name j=some (mA name) :=
 let ⟨j,q,z⟩:=zeu I.ns
 ⟨j,⟨I.obj,rfl,rfl,q⟩,z⟩
section
variable {prog:aS} {w:aO} {A:bG} {E:aB->aD->Prop} {s:aD} {K:aE} {x dx C f:aA} {mA:aC->Option aB} {name:aC} {v:aB}
theorem zia{j:Bool}{Q:aB->aD->Prop}(X:K.In s.heap)(I:ObjM s.heap x dx C mA)(z:iM K C name=true)(O:jG K C=true) 
  (R:bU K (.ref C) name=some none) (U:mA name=some v) (q:nM v=true) (h:Q v {s with toks:=s.toks+1}) :
  wpAny (aJ prog w) A (getAttr (.ref x) name j) Q E s:=by
 obtain⟨Z,J,Y⟩:=I.look
 exact PySem.W.get_value X J (lV z).1 (PySem.W.findObj_own O R rfl (by rw[Y,U])) q h
theorem zfR{pl:cW Bool}{Q:aB×List aB->aD->Prop}(X:K.In s.heap)(I:ObjM s.heap x dx C mA)(j:iM K C name=true) 
  (q:bU K (.ref C) name=some (some (.ref f))) (z:fC K (.ref f)=true) (O:mA name=none) (h:Q (.ref f,[.ref x]) s) :
  wpAny (aJ prog w) A (kI (.ref x) name pl) Q E s:=by
 obtain⟨R,J,U⟩:=I.look
 exact PySem.W.method_fn X J (lV j).1 (lV j).2 q (beq_iff_eq.mp z) (by show(kH name R).map (·.isSome)=some false;rw[U,O];rfl) h
theorem zib{ns:List aC}{Q:Unit->aD->Prop}(X:K.In s.heap)(I:ObjM s.heap x dx C mA) 
  (Y:bU K (.ref C) "__setattr__"=some (some (.builtin "object.__setattr__"))) (Z:kJ K C=true) (ht:lW K C name=some none) (hh:jG K C=true)
  (hw:lK mA ns) (hsz:ns.length<=aH)
  (h:∀h',ObjM h' x dx C (λy=>if y=name then some v else mA y)->jB dx s.heap h'->Q () {s with heap:=h',toks:=s.toks+2}) :
  wpAny (aJ prog w) A (setAttr (.ref x) name v) Q E s:=by
 obtain⟨od,J,hl⟩:=I.look
 refine PySem.W.set_plain X J Y (PySem.W.osa_open (s:={s with toks:=s.toks+1}) (r:=none) X J Z ht λb=>?_)
 obtain⟨cd,hc,z⟩:=PySem.W.any_some hh
 have hx:s.heap.get? x=some ⟨.ref C,some dx,.plain,#[]⟩:=I.obj
 refine aI (bJ (aI (aI (wpAny_loadPart hx (aI (qV (s:={s with toks:=s.toks+1}) (PySem.W.looks_clsIn X hc) ?_))))))
 rw[z]
 refine bJ (a:=some dx) (aI (bJ (aI ?_)))
 refine wpAny_nsSet1 (s:={s with toks:=s.toks+1}) I.ns λh' j q=>?_
 obtain⟨oD,aa,ab,O,R,U⟩:=j.count (qW name v hw)
 refine aI (wpAny_lookBehind O (by rw[R];exact pastItsLine_dict (bS U (by rw[cD];omega))) ?_)
 exact bJ (h _ ⟨(q.2 _ (aQ I.ne)).trans I.obj,j,I.ne⟩ q)
theorem zfS{R:kK->aD->Prop}{vs:List aB}{q:List (aC×aB)}(X:K.In s.heap)(z:kL K C=true) 
  (hi:bU K (.ref C) "__init__"=some (some (.ref f))) (I:PySem.W.typeIn K (.ref f)=some (.type "function"))
  (h:codeAny (aJ prog w) (A.under (.builtin "type.__call__" ⟨.ref C::vs,q⟩)) (.call (.ref f) ⟨.ref (s.heap.objs.size+1)::vs,q⟩) (PySem.W.InitBack (s.heap.objs.size+1) R)
   {s with heap:=(s.heap.push fY).push (gL C s.heap.objs.size)}) :
  codeAny (aJ prog w) A (.call (.ref C) ⟨vs,q⟩) R s:=by
 obtain⟨J,g,d,t,os⟩:=s
 exact PySem.W.make_core (PySem.W.makes_of X z) (PySem.W.looks_findIn X hi) (λj=>PySem.W.bind_fn X j I) (.inl rfl) h
end
def yL(f:aC)(v:V):List (aC×V)->List (aC×V)
 | []=>[(f,v)]
 | (g,x)::r=>if g=f then(g,v)::r else(g,x)::yL f v r
theorem Wq(f g:aC)(v:V):∀fs:List (aC×V),(yL f v fs).lookup g=if g=f then some v else fs.lookup g
 | []=>by
  show fZ g [(f,v)]=_
  by_cases h:g=f
  ·have j:(g==f)=true:=beq_iff_eq.mpr h
   simp only[fZ,j,if_pos h]
  ·have j:(g==f)=false:=beq_eq_false_iff_ne.mpr h
   simp only[fZ,j,if_neg h]
 | (k,x)::r=>by
  have z:=Wq f g v r
  rw[show yL f v ((k,x)::r)=(if k=f then(k,v)::r else(k,x)::yL f v r)from rfl]
  by_cases q:k=f
  ·rw[if_pos q]
   by_cases h:g=k
   ·have j:(g==k)=true:=beq_iff_eq.mpr h
    simp only[fZ,j,if_pos (h.trans q)]
   ·have j:(g==k)=false:=beq_eq_false_iff_ne.mpr h
    simp only[fZ,j,if_neg (λe:g=f=>h (e.trans q.symm))]
  ·rw[if_neg q]
   by_cases h:g=k
   ·have j:(g==k)=true:=beq_iff_eq.mpr h
    simp only[fZ,j,if_neg (λe:g=f=>q (h.symm.trans e))]
   ·have j:(g==k)=false:=beq_eq_false_iff_ne.mpr h
    simp only[fZ,j]
    exact z
theorem Y6(f:aC)(v:V):∀fs:List (aC×V),f∈(yL f v fs).map (·.1)/\∀g,g∈fs.map (·.1)->g∈(yL f v fs).map (·.1)
 | []=>⟨by simp[yL],λg h=>by simp at h⟩
 | (k,x)::r=>by
  obtain⟨i1,i2⟩:=Y6 f v r
  rw[show yL f v ((k,x)::r)=(if k=f then(k,v)::r else(k,x)::yL f v r)from rfl]
  by_cases j:k=f
  ·rw[if_pos j]
   subst j
   exact⟨by simp,λg h=>by simpa using h⟩
  ·rw[if_neg j]
   refine⟨?_,λg h=>?_⟩
   ·rw[bI]
    exact bO _ i1
   ·rw[bI]at h ⊢
    rcases aU.mp h with e|e
    ·exact aU.mpr (.inl e)
    ·exact bO _ (i2 g e)
theorem vB(f:aC)(v:V):∀fs:List (aC×V),(yL f v fs).length<=fs.length+1
 | []=>by simp[yL]
 | (k,x)::r=>by
  have q:=vB f v r
  rw[show yL f v ((k,x)::r)=(if k=f then(k,v)::r else(k,x)::yL f v r)from rfl]
  by_cases j:k=f
  ·rw[if_pos j,cD,cD];omega
  ·rw[if_neg j,cD,cD];omega
theorem vg.some_of(r:vg (some v) o):∃u,o=some u/\zQ v u:=by
 cases o with
 | none=>exact(show False from r).elim
 | some u=>exact⟨u,rfl,r⟩
theorem vg.none_of(r:vg none o):o=none:=by
 cases o with
 | none=>rfl
 | some u=>exact(show False from r).elim
theorem zev(r:zQ v u):nM u=true:=by
 cases v with
 | non=>cases (show u=Value.none from r);rfl
 | bl b=>cases (show u=Value.bool b from r);rfl
 | int i=>obtain⟨t,e⟩:=(show ∃t,u=Value.int i t from r);cases e;rfl
 | str x=>obtain⟨t,e⟩:=(show ∃t,u=Value.str x t from r);cases e;rfl
 | byt b=>obtain⟨t,e⟩:=(show ∃t,u=Value.bytes b t from r);cases e;rfl
 | flt b=>obtain⟨t,e⟩:=(show ∃t,u=Value.float b t from r);cases e;rfl
 | ref a=>cases (show u=Value.ref a from r);rfl
 | ty n=>cases (show u=Value.type n from r);rfl
section
variable {P:aS} {w:aO} {H H':Hp} {h h':aK} {a C dx:aA} {fs fs':List (aC×V)}
theorem XL(j:HOk P w H h)(e:H a=some (.ins C dx fs)):∃mA,ObjM h a dx C mA/\(∀f,vg (fs.lookup f) (mA f))/\lK mA (fs.map (·.1))/\fs.length<=1000/\H dx=some (.own a):=by
 obtain⟨d,z,ne,I,mA,n,r,q⟩:=(show yK P w H h a (.ins C dx fs)from j a _ e)
 exact⟨mA,⟨I,n,ne⟩,r,q,z,d⟩
end
structure Cls (K:aE) (C:aA):Prop where
 pg:iM K C lX=true
 hd:jG K C=true
 po:kJ K C=true
 sa:bU K (.ref C) "__setattr__"=some (some (.builtin "object.__setattr__"))
theorem Cls.get{K:aE}{C:aA}(c:Cls K C)(f:aC):iM K C f=true:=c.pg
def xy(K:aE)(C:aA)(f:aC):Prop:=bU K (.ref C) f=some none
theorem xy.taker{K:aE}{C:aA}{f:aC}(n:xy K C f):lW K C f=some none:=by
 unfold lW
 rw[show bU K (.ref C) f=some none from n]
 rfl
structure Meth (K:aE) (C:aA) (m:aC) (f:aA):Prop where
 at_:bU K (.ref C) m=some (some (.ref f))
 fn:fC K (.ref f)=true
 kp:gA K (.ref f)=true
section
variable {X:Cx} {pins:List (aA×aL)} {σ:St} {H:Hp} {s:aD} {a C dx:aA} {fs:List (aC×V)} {f:aC} {v:V} {A:bG} {E:aB->aD->Prop}
theorem zcK{b:Bool}{Q:aB->aD->Prop}(I:Inv X pins σ H s)(e:H a=some (.ins C dx fs))(c:Cls X.K C)(n:xy X.K C f)(l:fs.lookup f=some v) 
  (h:∀u s',Inv X pins σ H s'->zQ v u->Q u s'):wpAny (aJ X.prog X.w) A (getAttr (.ref a) f b) Q E s:=by
 obtain⟨mA,O,r,_,_,_⟩:=XL I.hok e
 obtain⟨u,q,j⟩:=vg.some_of (v:=v) (o:=mA f) (by rw[<-l];exact r f)
 exact zia I.kIn O (c.get f) c.hd n q (zev j) (h u _ (I.tok _) j)
theorem W9{m:aC}{g:aA}{pl:cW Bool}{Q:aB×List aB->aD->Prop}(I:Inv X pins σ H s)(e:H a=some (.ins C dx fs))(c:Cls X.K C)(k:Meth X.K C m g)(l:fs.lookup m=none) 
  (h:Q (.ref g,[.ref a]) s):wpAny (aJ X.prog X.w) A (kI (.ref a) m pl) Q E s:=by
 obtain⟨mA,O,r,_,_,_⟩:=XL I.hok e
 have j:mA m=none:=vg.none_of (by rw[<-l];exact r m)
 exact zfR I.kIn O (c.get m) k.at_ k.fn j h
theorem zcL{y:V}{u:aB}{Q:Unit->aD->Prop}(I:Inv X pins σ H s)(e:H a=some (.ins C dx fs))(c:Cls X.K C)(n:xy X.K C f)(hl:fs.length<1000)(U:zQ y u) 
  (h:∀s',Inv X pins σ (upd H a (.ins C dx (yL f y fs))) s'->Q () s'):wpAny (aJ X.prog X.w) A (setAttr (.ref a) f u) Q E s:=by
 obtain⟨mA,O,r,J,_,R⟩:=XL I.hok e
 have Y:(fs.map (·.1)).length<=aH:=by rw[aN,fB];omega
 refine zib I.kIn O c.sa c.po n.taker c.hd J Y λh' j Z=>h _ ?_
 have hd:∃o,h'.get? dx=some o:=(by obtain⟨o,_,_,e',_⟩:=j.ns;exact⟨o,e'⟩)
 refine I.write (x:=a) (e:=dx) (by rw[e];exact True.intro) (.inr R) (λb q hb z=>(Z.2 b hb).trans z) hd ?_
 refine⟨by rw[ze O.ne];exact R,?_,O.ne,j.obj,_,j.ns,λg=>?_,λg hg=>?_⟩
 ·have:=vB f y fs;omega
 ·show vg ((yL f y fs).lookup g) (if g=f then some u else mA g)
  rw[Wq]
  by_cases q:g=f
  ·rw[if_pos q,if_pos q];exact U
  ·rw[if_neg q,if_neg q];exact r g
 ·by_cases q:g=f
  ·rw[q];exact(Y6 f y fs).1
  ·refine(Y6 f y fs).2 g (J g λz=>hg ?_)
   show(if g=f then some u else mA g)=none
   rw[if_neg q];exact z
theorem Inv.made(I:Inv X pins σ H s):Inv X pins σ (upd (upd H s.heap.objs.size (.own (s.heap.objs.size+1))) (s.heap.objs.size+1) (.ins C s.heap.objs.size []))
  {s with heap:=(s.heap.push fY).push (gL C s.heap.objs.size)}:=by
 have j:(s.heap.push fY).get? s.heap.objs.size=some fY:=cK s.heap rfl
 have z:((s.heap.push fY).push (gL C s.heap.objs.size)).get? (s.heap.objs.size+1)=some (gL C s.heap.objs.size):=by
  have:=cK (s.heap.push fY) (o:=gL C s.heap.objs.size) rfl
  rwa [fJ]at this
 have J:(s.heap.push fY).Ns s.heap.objs.size (λ_=>none):=⟨fY,#[],_,j,rfl,(λe O=>absurd O (by simp)),λ_=>rfl⟩
 have R:=I.laid (a:=s.heap.objs.size) (o:=.own (s.heap.objs.size+1)) (h':=s.heap.push fY) (t':=s.toks) (λb u q=>bB _ q) (aP _) ⟨_,j⟩
 refine R.laid (a:=s.heap.objs.size+1) (o:=.ins C s.heap.objs.size []) (t':=s.toks) (λb u q=>bB _ q) (fK (fJ _ _)) ?_
 have ne:s.heap.objs.size≠s.heap.objs.size+1:=bT (iB _)
 refine⟨by rw[ze ne,zk],dJ _,ne,z,λ_=>none,(Heap.Ns1.of_empty J).at λo q=>bB _ q,λ_=>True.intro,λy U=>absurd rfl U⟩
theorem zic{prog:aS}{w:aO}{env:cA}{e:aG}{f:aC}{pos:aR}{s:aD}{Q:aB->aD->Prop}(j:iN e f env (aW e env)=aW e env) 
  (h:wpAny (aJ prog w) A (aW e env) (λo q=>wpAny (aJ prog w) A (getAttr o f true) Q E q) E s):wpAny (aJ prog w) A (aW (.Attribute e f pos) env) Q E s :=
 Attribute_any_ h (by rw[arm_eval_Attribute,j])
end
def zmy(K:aE)(ta:TE)(f:aC):TE:=λσ H Q=>ta σ H λx H1=>∃a C dx fs v,x=.ref a/\H1 a=some (.ins C dx fs)/\Cls K C/\xy K C f/\fs.lookup f=some v/\Q v H1
def zmz(K:aE)(ta tv:TE)(f:aC):TS:=λD σ H=>tv σ H λy H1=>ta σ H1 λx H2=>∃a C dx fs,x=.ref a/\H2 a=some (.ins C dx fs)/\Cls K C/\xy K C f/\fs.length<1000/\
 D.nx σ (upd H2 a (.ins C dx (yL f y fs)))
section
variable {X:Cx} {o e value:aG} {f:aC} {pos pos' tpos:aR} {ta tv:TE}
theorem yh(j:PE X e ta)(z:iN e f X.env (aW e X.env)=aW e X.env):PE X (.Attribute e f pos) (zmy X.K ta f):=by
 intro pins s σ H Q I h
 refine zic z (thn (j pins s σ H _ I h) λu s1 ⟨x,H1,J,O,a,C,dx,fs,v,ex,R,c,n,l,q⟩=>?_)
 subst ex
 obtain rfl:u=Value.ref a:=O
 exact zcK J R c n l λZ s2 U Y=>⟨v,H1,U,Y,q⟩
theorem wN(ha:PE X o ta)(hv:PE X value tv)(hs:dD value (some (.Attribute o f pos')) pos.line X.env=pure false):PS X (.Assign [.Attribute o f pos'] value pos) (zmz X.K ta tv f):=by
 intro pins s σ H D I h
 refine plainObj_wpAny_Assign_Attribute (thn (hv pins s σ H _ I h) λu s1 ⟨y,H1,I1,ry,q⟩=>thn (ha pins s1 σ H1 _ I1 q) λov s2 ⟨x,H2,I2,rx,a,C,dx,fs,ex,ea,c,n,l,q2⟩=>?_) hs
 subst ex
 obtain rfl:ov=Value.ref a:=rx
 exact zcL I2 ea c n l ry λs3 I3=>⟨σ,_,I3,q2⟩
end
section
variable {X:Cx} {pins:List (aA×aL)} {σ:St} {H:Hp} {s:aD} {A:bG} {E:aB->aD->Prop} {Q:aB->aD->Prop} {c:aB} {b:Bool}
inductive TyOf (K:aE) (H:Hp):V->aB->Prop where
 | non:TyOf K H .non (.type "NoneType")
 | bl (x:Bool):TyOf K H (.bl x) (.type "bool")
 | int (i:Int):TyOf K H (.int i) (.type "int")
 | str (x:aC):TyOf K H (.str x) (.type "str")
 | flt (x:UInt64):TyOf K H (.flt x) (.type "float")
 | lst {a:aA} {xs:List V} (e:H a=some (.lst xs)):TyOf K H (.ref a) (.type "list")
 | frz {a:aA} {o:aL} {xs:List V} (e:H a=some (.frz o (.lst xs))):TyOf K H (.ref a) (.type "list")
 | tup {a:aA} {xs:List V} (e:H a=some (.tup xs)):TyOf K H (.ref a) (.type "tuple")
 | dK {a:aA} {kvs:List (Key×V)} (e:H a=some (.dK kvs)):TyOf K H (.ref a) (.type "dict")
 | dT {a:aA} {kvs:List (List Key×V)} (e:H a=some (.dT kvs)):TyOf K H (.ref a) (.type "dict")
 | ins {a C dx:aA} {fs:List (aC×V)} (e:H a=some (.ins C dx fs)) (cl:Cls K C) (ha:bU K (.ref C) "__class__"=some (some (.builtin "object.__class__")))
  (hn:PySem.W.specialIn K (.builtin "object.__class__") "__get__"=some (some (.builtin "getset_descriptor.__get__"))) (htk:PySem.W.takesIn K (.builtin "object.__class__")=some true)
  (hm:PySem.W.mroIn K C (.type "object")=some true):TyOf K H (.ref a) (.ref C)
theorem zew{x:V}{u t:aB}(I:Inv X pins σ H s)(j:zQ x u)(ty:TyOf X.K H x t)(e:nN X.K t c=some b)(h:∀tk,Q (.bool b) {s with toks:=tk}):
  wpAny (aJ X.prog X.w) A (call (.builtin "isinstance") [u,c]) Q E s:=by
 cases ty with
 | non=>cases (show u=Value.none from j);exact fD PySem.W.kitx_none I.kIn True.intro e (λz=>nomatch z) h
 | bl y=>cases (show u=Value.bool y from j);exact fD PySem.W.kitx_bool I.kIn True.intro e (λz=>nomatch z) h
 | int i=>obtain⟨t,q⟩:=(show ∃t,u=Value.int i t from j);cases q;exact fD PySem.W.kitx_int I.kIn True.intro e (λz=>nomatch z) h
 | str y=>obtain⟨t,q⟩:=(show ∃t,u=Value.str y t from j);cases q;exact fD PySem.W.kitx_str I.kIn True.intro e (λz=>nomatch z) h
 | flt y=>obtain⟨t,q⟩:=(show ∃t,u=Value.float y t from j);cases q;exact fD PySem.W.kitx_float I.kIn True.intro e (λz=>nomatch z) h
 | @lst a xs R=>
  cases (show u=Value.ref a from j)
  obtain⟨_,_,n,_,h1⟩:=(show yK X.prog X.w H s.heap a (.lst xs)from I.hok a _ R)
  exact fD nO I.kIn ⟨_,h1,rfl⟩ e (λz=>nomatch z) h
 | @frz a Y xs R=>
  cases (show u=Value.ref a from j)
  obtain⟨_,_,_,n,_,h1⟩:=(show yK X.prog X.w H s.heap a (.frz Y (.lst xs))from I.hok a _ R)
  exact fD nO I.kIn ⟨_,h1,rfl⟩ e (λz=>nomatch z) h
 | @tup a xs R=>
  cases (show u=Value.ref a from j)
  obtain⟨_,_,_,p⟩:=(show yK X.prog X.w H s.heap a (.tup xs)from I.hok a _ R)
  obtain⟨o,h1,h2,_⟩:=p
  exact fD PySem.W.kitx_tuple I.kIn ⟨o,h1,h2⟩ e (λz=>nomatch z) h
 | @dK a kvs R=>
  cases (show u=Value.ref a from j)
  obtain⟨_,_,vs,_,p⟩:=(show yK X.prog X.w H s.heap a (.dK kvs)from I.hok a _ R)
  obtain⟨o,es,ep,h1,h2,_⟩:=p
  exact fD nP I.kIn ⟨o,h1,h2.1⟩ e (λz=>nomatch z) h
 | @dT a kvs R=>
  cases (show u=Value.ref a from j)
  obtain⟨_,_,xs,_,o,es,ep,h1,h2,_⟩:=(show yK X.prog X.w H s.heap a (.dT kvs)from I.hok a _ R)
  exact fD nP I.kIn ⟨o,h1,h2.1⟩ e (λz=>nomatch z) h
 | @ins a C dx fs R cl Z hn U hm=>
  cases (show u=Value.ref a from j)
  obtain⟨mA,O,_⟩:=XL I.hok R
  obtain⟨od,J,_⟩:=O.look
  exact fD (PySem.W.kitx_own (cl.get _) cl.hd Z hn U hm) I.kIn J e (λz=>nomatch z) h
end
end L2
namespace L2
open PySem PySem.Spec PyProof.Rows
structure Room (k:Nat) (A:bG):Prop where
 hd:A.handled=none
 dp:A.depth+3*k+5<nQ
 un:A.units+16*k+200<bV
theorem Room.mono(r:Room k A)(h:j<=k):Room j A:=⟨r.hd,by have:=r.dp;omega,by have:=r.un;omega⟩
theorem Room.deeper(r:Room (k+1) A)(env:cA):Room k (A.deeper env) :=
 ⟨r.hd,by have:=r.dp;show A.depth+1+3*k+5<_;omega,by have:=r.un;show A.units+3+16*k+200<_;omega⟩
theorem zcM{A:bG}{C:aA}{us:List aB}{j:List (aC×aB)}:(A.under (.builtin "type.__call__" ⟨.ref C::us,j⟩)).depth=A.depth+1:=by
 first|rfl|simp[lY,Code.weight,Code.isCreation,Code.isGuard,Code.isCaller,nR,lZ,guardIds]
theorem zcN{A:bG}{C:aA}{us:List aB}{j:List (aC×aB)}:(A.under (.builtin "type.__call__" ⟨.ref C::us,j⟩)).units=A.units+1:=by
 first|rfl|simp[lY,Code.cUnits,nR,lZ]
theorem Room.make(r:Room (k+1) A)(C:aA)(us:List aB)(j:List (aC×aB)):Room k (A.under (.builtin "type.__call__" ⟨.ref C::us,j⟩)) :=
 ⟨r.hd,by have:=r.dp;rw[zcM];omega,by have:=r.un;rw[zcN];omega⟩
theorem Room.depth(r:Room k A):A.depth<nQ:=by have:=r.dp;omega
theorem Room.units(r:Room k A):A.units+64<bV:=by have:=r.un;omega
def Yu:TA:=λ_ H Q=>Q [] H
def uw(ta:TE)(j:TA):TA:=λσ H Q=>ta σ H λx H1=>j σ H1 λxs H2=>Q (x::xs) H2
section
variable {X:Cx} {e:aG} {es:List aG} {te:TE} {t:TA} {pos:aR}
theorem zy:PA X [] Yu:=λ_ _ _ _ H Q I h=>nS ⟨[],H,I,.nil,h⟩
theorem zm(ha:PE X e te)(hr:PA X es t)(hs:bD (e::es) X.env=(false,aW e X.env)::bD es X.env:=by rfl):PA X (e::es) (uw te t):=by
 intro pos pins s σ H Q I h
 rw[hs]
 show wpAny _ _ (spliced ((false,aW e X.env)::cX pos (bD es X.env))) _ _ s
 refine nT (thn (ha pins s σ H _ I h) λu s1 ⟨x,H1,I1,r1,q1⟩=>?_)
 exact thn (hr pos pins s1 σ H1 _ I1 q1) λus s2 hh8'=>by obtain⟨xs,H2,I2,r2,q2⟩:=hh8';exact⟨x::xs,H2,I2,.cons r1 r2,q2⟩
def zmA(t:TA):TE:=λσ H Q=>t σ H λxs H1=>xs.length<=aH/\∀p,H1 p=none->Q (.ref p) (upd H1 p (.tup xs))
def zjv(t:TA):TE:=λσ H Q=>t σ H λxs H1=>xs.length<=aH/\∀p,H1 p=none->Q (.ref p) (upd H1 p (.lst xs))
theorem zex{x1}(h:PA X es t):PE X (.Tuple es x1 pos) (zmA t):=by
 intro pins s σ H Q I J
 refine wpAny_Tuple_spliced (thn (h pos pins s σ H _ I J) λus s1 ⟨xs,H1,j,r,z,q⟩=>⟨by rw[<-r.length];exact z,?_⟩)
 have O:H1 s1.heap.objs.size=none:=j.hok.fresh (aP _)
 refine⟨.ref s1.heap.objs.size,upd H1 s1.heap.objs.size (.tup xs),j.laid (t':=s1.toks) (λb u e=>bB _ e) (aP _) ?_,rfl,q _ O⟩
 exact⟨z,us,r,⟨_,cK _ rfl,rfl,_,rfl⟩⟩
theorem vC(h:PA X es t):PE X (.List es pos) (zjv t):=by
 intro pins s σ H Q I J
 refine wpAny_List_spliced (thn (h pos pins s σ H _ I J) λus s1 ⟨xs,H1,j,r,z,q⟩=>⟨by rw[<-r.length];exact z,?_⟩)
 have O:H1 s1.heap.objs.size=none:=j.hok.fresh (aP _)
 refine⟨.ref s1.heap.objs.size,upd H1 s1.heap.objs.size (.lst xs),j.laid (t':=s1.toks) (λb u e=>bB _ e) (aP _) ?_,rfl,q _ O⟩
 exact⟨z,us,0,r,cK _ rfl⟩
end
abbrev Sp:=List V->Hp->VK->XK->Prop
abbrev CXT:=List cA->Hp->aD->XK->aB->aD->Prop
structure Env0 (P:aS) (w:aO) (K:aE) (mg:aC->Option aB) (base:aK) (A:bG) (outer:List cA) (s:aD) (H:Hp):Prop where
 frames:A.frames=some outer
 mod:Mod K mg base
 bs:∀b o,base.get? b=some o->s.heap.get? b=some o/\H b=none
 bsz:base.objs.size<=s.heap.objs.size
 funs:s.heap.FunFrames base outer
 frf:∀b∈frs outer,H b=none
 hok:HOk P w H s.heap
 bare:fW s.gens
def CE(outer:List cA)(P:aS)(w:aO)(H:Hp)(s:aD)(Q:VK)(u:aB)(s':aD):Prop :=
 ∃v H',s'.os=s.os/\fW s'.gens/\Un (frs outer) [] H H' s.heap s'.heap/\HOk P w H' s'.heap/\zQ v u/\Q v H'
def CR(CX:CXT)(outer:List cA)(P:aS)(w:aO)(H:Hp)(s:aD)(Q:VK)(E:XK)(r:kK)(s':aD):Prop :=
 match r with
 | .ok (.ret u)=>CE outer P w H s Q u s'
 | .ok _=>False
 | .error e=>CX outer H s E e s'
structure FnOk (P:aS) (w:aO) (K:aE) (mg:aC->Option aB) (base:aK) (CX:CXT) (k:Nat) (f:aA) (fd:bQ) (ps:List aC) (sp:Sp):Prop where
 len:∀vs H Q E,sp vs H Q E->vs.length=ps.length
 run:∀(A:bG) (outer:List cA) (s:aD) (H:Hp) (args:Args) (us:List aB) (vs:List V) (Q:VK) (E:XK),Room k A->Env0 P w K mg base A outer s H->iO s fd args (ps.zip us)->zO vs us->sp vs H Q E->
  codeAny (aJ P w) A (.call (.ref f) args) (CR CX outer P w H s Q E) s
theorem FnOk.mono{P:aS}{w:aO}{K:aE}{mg:aC->Option aB}{base:aK}{CX:CXT}{j k:Nat}{f:aA}{fd:bQ}{ps:List aC}{sp:Sp}(F:FnOk P w K mg base CX j f fd ps sp)(h:j<=k):
 FnOk P w K mg base CX k f fd ps sp:=⟨F.len,λA outer s H args us vs Q E q=>F.run A outer s H args us vs Q E (q.mono h)⟩
theorem FnOk.imp{P:aS}{w:aO}{K:aE}{mg:aC->Option aB}{base:aK}{CX:CXT}{k:Nat}{f:aA}{fd:bQ}{ps:List aC}{sp j:Sp}(F:FnOk P w K mg base CX k f fd ps sp) 
  (h:∀vs H Q E,j vs H Q E->sp vs H Q E):FnOk P w K mg base CX k f fd ps j :=
 ⟨λvs H Q E q=>F.len vs H Q E (h _ _ _ _ q),λA outer s H args us vs Q E z I J O R=>F.run A outer s H args us vs Q E z I J O (h _ _ _ _ R)⟩
theorem Env0.make{P:aS}{w:aO}{K:aE}{mg:aC->Option aB}{base:aK}{A:bG}{outer:List cA}{s:aD}{H:Hp}(e:Env0 P w K mg base A outer s H)(C:aA)(us:List aB)(j:List (aC×aB)):
 Env0 P w K mg base (A.under (.builtin "type.__call__" ⟨.ref C::us,j⟩)) outer s H:=⟨by first|exact e.frames|(simpa[lY,Code.envs,lZ,pushEnvs]using e.frames),e.mod,e.bs,e.bsz,e.funs,e.frf,e.hok,e.bare⟩
section
variable {X:Cx} {pins:List (aA×aL)} {σ:St} {H:Hp} {s s':aD}
theorem Inv.env0(I:Inv X pins σ H s):Env0 X.prog X.w X.K X.mg X.base X.A X.stack s H :=
 ⟨I.ok.frames,I.ok.mod,I.bs,bS I.ok.bsz I.sz,I.stack,I.stkFree,I.hok,I.bare⟩
theorem Inv.after(I:Inv X pins σ H s)(h:CE X.stack X.prog X.w H s Q u s'):EP X pins σ Q u s':=by
 obtain⟨v,H',os,j,un,J,r,q⟩:=h
 obtain⟨R,g,d,t,O⟩:=s'
 obtain rfl:O=s.os:=os
 exact⟨v,H',I.call (h':=R) (g':=g) (d':=d) (t':=t) (ch:=[]) un J j (λb z=>absurd z (by simp)),r,q⟩
end
def zhJ(sp:Sp)(dvs:List V)(E:XK)(t:TA):TE:=λσ H Q=>t σ H λvs H1=>sp (vs++dvs) H1 Q E
def Jc(C:aA)(m:aC)(sp:Sp)(dvs:List V)(E:XK)(ta:TE)(t:TA):TE:=λσ H Q=>ta σ H λx H1=>∃a dx fs,x=.ref a/\H1 a=some (.ins C dx fs)/\fs.lookup m=none/\
 t σ H1 λvs H2=>sp (x::(vs++dvs)) H2 Q E
def zk6(C:aA)(sp:Sp)(dvs:List V)(E:XK)(t:TA):TE:=λσ H Q=>t σ H λvs H1=>∀x dx,H1 x=none->H1 dx=none->dx≠x->
 sp (.ref x::(vs++dvs)) (upd (upd H1 dx (.own x)) x (.ins C dx [])) (λv H2=>v=.non/\Q (.ref x) H2) E
def xk(K:aE)(fd:bQ)(ps:List aC)(ds:List aB):Prop :=
 ∀(s:aD) (us:List aB),K.In s.heap->(us++ds).length=ps.length->iO s fd ⟨us,[]⟩ (ps.zip (us++ds))
theorem xk.all{K:aE}{fd:bQ}{ps:List aC}(h:∀us:List aB,us.length=ps.length->bindArgs fd ⟨us,[]⟩=pure (ps.zip us)):xk K fd ps []:=λs us _ hl=>by
 rw[gB]at hl ⊢
 exact .of_eq (h us hl)
def Zd(CX:CXT)(X:Cx)(E:XK):Prop:=∀(pins:List (aA×aL)) (σ:St) (H:Hp) (s:aD) (e:aB) (s':aD),Inv X pins σ H s->CX X.stack H s E e s'->X.xe e s'
section
variable {X:Cx} {CX:CXT} {k:Nat} {f C:aA} {fd:bQ} {ps:List aC} {sp:Sp} {dvs:List V} {ds:List aB} {E:XK} {x m:aC} {p pos apos:aR} {e o:aG} {es:List aG} {ta:TE} {t:TA}
theorem JD{pins:List (aA×aL)}{σ:St}{H:Hp}{s:aD}{Q:VK}{us:List aB}{vs:List V}(F:FnOk X.prog X.w X.K X.mg X.base CX k f fd ps sp)(q:Room k X.A)(z:xk X.K fd ps ds)(J:zO dvs ds)(O:Zd CX X E) 
  (I:Inv X pins σ H s) (r:zO vs us) (h:sp (vs++dvs) H Q E):wpAny (aJ X.prog X.w) X.A (call (.ref f) us) (EP X pins σ Q) X.xe s:=by
 have r2:zO (vs++dvs) (us++ds):=r.append J
 have R:(us++ds).length=ps.length:=by rw[<-r2.length];exact F.len _ _ _ _ h
 refine wpAny_call (kM (F.run X.A X.stack s H ⟨us,[]⟩ (us++ds) (vs++dvs) Q E q I.env0 (z s us I.kIn R) r2 h) λr s' j=>?_)
 cases r with
 | error e=>exact O pins σ H s e s' I j
 | ok fl=>
  cases fl with
  | ret u=>exact I.after j
  | next=>exact eK j
  | brk=>exact eK j
  | cont=>exact eK j
theorem wD(F:FnOk X.prog X.w X.K X.mg X.base CX k f fd ps sp)(O:Room k X.A)(R:Gl X x)(U:X.mg x=some (.ref f))(Y:gA X.K (.ref f)=true)(Z:xk X.K fd ps ds)(hd:zO dvs ds)(hx:Zd CX X E) 
  (ha:PA X (e::es) t) (j:(x==("__debug__":aC))=false:=by decide) (he:bD (e::es) X.env=(false,aW e X.env)::bD es X.env:=by rfl) (z:(cX pos (bD es X.env)).any (·.1)=false:=by rfl) :
  PE X (.Call (.Name x p) (e::es) [] pos) (zhJ sp dvs E t):=by
 intro pins s σ H Q I h
 refine kO (Uh I R U ?_ j)
 refine l5 (h₀:=X.base) I.ok.mod.kin Y (thn (ha pos pins s σ H _ I h) λus s1 ⟨vs,H1,J,r,q⟩=>⟨J.kIn,?_⟩) he z
 exact JD F O Z hd hx J r q
theorem ZZ{pl:cW Bool}(Y:PE X o ta)(c:Cls X.K C)(J:Meth X.K C m f)(F:FnOk X.prog X.w X.K X.mg X.base CX k f fd ps sp)(Z:Room k X.A)(hb:xk X.K fd ps ds)(hd:zO dvs ds)(hx:Zd CX X E)(ha:PA X (e::es) t) 
  (j:bD (e::es) X.env=(false,aW e X.env)::bD es X.env:=by rfl) (z:(cX pos (bD es X.env)).any (·.1)=false:=by rfl)
  (ht:aW (.Call (.Attribute o m apos) (e::es) [] pos) X.env=(do
   let O <-aW o X.env
   iL apos.atName
   let (f,first) <-eZ [O] (kI O m pl)
   callWith pos f first (cX pos (bD (e::es) X.env)) (kP pos (kQ [] X.env))):=by rfl) :
  PE X (.Call (.Attribute o m apos) (e::es) [] pos) (Jc C m sp dvs E ta t):=by
 intro pins s σ H Q I h
 refine nU (pl:=pl) (thn (Y pins s σ H _ I h) λu s1 ⟨x,H1,R,rx,a,dx,fs,ex,ea,l,q⟩=>?_) ht
 subst ex
 obtain rfl:u=Value.ref a:=rx
 refine W9 R ea c J l ?_
 refine l5 (first:=[.ref a]) (h₀:=X.base) I.ok.mod.kin J.kp (thn (ha pos pins s1 σ H1 _ R q) λus s2 ⟨vs,H2,U,r,q2⟩=>⟨U.kIn,?_⟩) j z
 exact JD (us:=.ref a::us) (vs:=.ref a::vs) F Z hb hd hx U (.cons rfl r) q2
theorem Ww{pl:cW Bool}(O:PE X o ta)(c:Cls X.K C)(z:Meth X.K C m f)(F:FnOk X.prog X.w X.K X.mg X.base CX k f fd ps sp)(R:Room k X.A)(U:xk X.K fd ps ds)(Y:zO dvs ds)(Z:Zd CX X E) 
  (ht:aW (.Call (.Attribute o m apos) [] [] pos) X.env=(do
   let J <-aW o X.env
   iL apos.atName
   let (f,first) <-eZ [J] (kI J m pl)
   callWith pos f first (cX pos (bD [] X.env)) (kP pos (kQ [] X.env))):=by rfl) :
  PE X (.Call (.Attribute o m apos) [] [] pos) (Jc C m sp dvs E ta Yu):=by
 intro pins s σ H Q I h
 refine nU (pl:=pl) (thn (O pins s σ H _ I h) λu s1 ⟨x,H1,j,rx,a,dx,fs,ex,ea,l,q⟩=>?_) ht
 subst ex
 obtain rfl:u=Value.ref a:=rx
 refine W9 j ea c z l ?_
 exact PySem.W.callWith_K0 (first:=[.ref a]) j.kIn z.kp (JD (us:=[.ref a]) (vs:=[.ref a]) F R U Y Z j (.cons rfl .nil) q)
structure Mk (K:aE) (C f:aA):Prop where
 makes:kL K C=true
 init:bU K (.ref C) "__init__"=some (some (.ref f))
 fn:fC K (.ref f)=true
 kp:gA K (.ref C)=true
theorem zfT{pins:List (aA×aL)}{σ:St}{H:Hp}{s:aD}{Q:VK}{us:List aB}{vs:List V}(M:Mk X.K C f)(F:FnOk X.prog X.w X.K X.mg X.base CX k f fd ps sp)(J:Room (k+1) X.A)(O:xk X.K fd ps ds)(R:zO dvs ds) 
  (U:Zd CX X E) (I:Inv X pins σ H s) (r:zO vs us)
  (h:∀x dx,H x=none->H dx=none->dx≠x->sp (.ref x::(vs++dvs)) (upd (upd H dx (.own x)) x (.ins C dx [])) (λv H2=>v=.non/\Q (.ref x) H2) E) :
  wpAny (aJ X.prog X.w) X.A (call (.ref C) us) (EP X pins σ Q) X.xe s:=by
 have z:=h (s.heap.objs.size+1) s.heap.objs.size (I.hok.fresh (kR _)) (I.hok.fresh (aP _)) (bT (iB _))
 have q:=Inv.made (C:=C) I
 have r2:zO (V.ref (s.heap.objs.size+1)::(vs++dvs)) (Value.ref (s.heap.objs.size+1)::(us++ds)):=.cons rfl (r.append R)
 have Y:(Value.ref (s.heap.objs.size+1)::us++ds).length=ps.length:=by
  have e:=r2.length
  rw[F.len _ _ _ _ z]at e
  exact e.symm
 refine wpAny_call (zfS (f:=f) I.kIn M.makes M.init (beq_iff_eq.mp M.fn) (kM (F.run _ X.stack _ _ ⟨Value.ref (s.heap.objs.size+1)::us,[]⟩ (Value.ref (s.heap.objs.size+1)::(us++ds)) _ _ E (J.make C us [])
  (q.env0.make C us []) (O _ (Value.ref (s.heap.objs.size+1)::us) q.kIn Y) r2 z) λr s' j=>?_))
 cases r with
 | error e=>exact U pins σ _ _ e s' q j
 | ok fl=>
  cases fl with
  | ret u=>
   obtain⟨v,H',Z,rv,ev,q3⟩:=q.after j
   subst ev
   exact⟨rv,⟨V.ref (s.heap.objs.size+1),H',Z,rfl,q3⟩⟩
  | next=>exact eK j
  | brk=>exact eK j
  | cont=>exact eK j
theorem zbJ(M:Mk X.K C f)(F:FnOk X.prog X.w X.K X.mg X.base CX k f fd ps sp)(O:Room (k+1) X.A)(R:Gl X x)(U:X.mg x=some (.ref C))(Y:xk X.K fd ps ds)(Z:zO dvs ds)(hx:Zd CX X E) 
  (ha:PA X (e::es) t) (j:(x==("__debug__":aC))=false:=by decide) (he:bD (e::es) X.env=(false,aW e X.env)::bD es X.env:=by rfl) (z:(cX pos (bD es X.env)).any (·.1)=false:=by rfl) :
  PE X (.Call (.Name x p) (e::es) [] pos) (zk6 C sp dvs E t):=by
 intro pins s σ H Q I h
 refine kO (Uh I R U ?_ j)
 refine l5 (h₀:=X.base) I.ok.mod.kin M.kp (thn (ha pos pins s σ H _ I h) λus s1 ⟨vs,H1,J,r,q⟩=>⟨J.kIn,?_⟩) he z
 exact zfT M F O Y Z hx J r q
end
section
variable {X:Cx} {CX:CXT} {k:Nat} {f C:aA} {fd:bQ} {ps ks:List aC} {sp:Sp} {E:XK} {x m:aC} {p pos apos kpos:aR} {e o:aG} {es:List aG} {kws:List jH} {te ta:TE} {t tk:TA} {nm:Option aC}
variable {g:List aB->List aB->List aB} {gV:List V->List V->List V}
end
structure FnScope (N P:List aC) (sc:cB):Prop where
 kind:sc.kind=.function
 co:sc.isCoroutine=false
 gen:sc.isGenerator=false
 nd:N.Nodup
 pre:N.take P.length=P
 par:∀x∈P,sc.names.lookup x=some .local\/sc.names.lookup x=some .cell
 nofree:∀y∈sc.names,y.2≠.free
theorem Qg{kindOf:aC->Option gC}{x:aC}:∀{binds:List (aC×aB)} {m:aC->Option aB},(∀v,(x,v)∉binds)->gP kindOf binds m x=m x
 | [],_,_=>rfl
 | (n,v)::r,m,h=>by
  unfold gP
  rw[Qg λw j=>h w (bO _ j)]
  split
  ·have:x≠n:=by rintro rfl;exact h v bN
   simp[this]
  ·rfl
theorem Qh{kindOf:aC->Option gC}{x:aC}:∀{binds:List (aC×aB)} {m:aC->Option aB},(∀v,(x,v)∉binds)->gQ kindOf binds m x=m x
 | [],_,_=>rfl
 | (n,v)::r,m,h=>by
  unfold gQ
  rw[Qh λw j=>h w (bO _ j)]
  split
  ·rfl
  ·have:x≠n:=by rintro rfl;exact h v bN
   simp[this]
theorem Qi{kindOf:aC->Option gC}{x:aC}{v:aB}:∀{P:List aC} {vs:List aB} {i:Nat} {m:aC->Option aB},P.Nodup->P[i]?=some x->vs[i]?=some v->kindOf x=some .local->
  gP kindOf (P.zip vs) m x=some v
 | [],_,_,_,_,h,_,_=>by simp at h
 | _::_,[],_,_,_,_,h,_=>by simp at h
 | p::P,w::vs,0,m,j,h1,h2,q=>by
  simp at h1 h2;subst h1;subst h2
  show gP kindOf ((p,w)::P.zip vs) m p=_
  unfold gP
  rw[Qg λv z=>(dO.mp j).1 (l6 z).1,if_pos q]
  simp
 | p::P,w::vs,i+1,m,j,h1,h2,q=>by
  show gP kindOf ((p,w)::P.zip vs) m x=_
  unfold gP
  exact Qi (i:=i) (dO.mp j).2 (by simpa using h1) (by simpa using h2) q
theorem Qj{kindOf:aC->Option gC}{x:aC}{v:aB}:∀{P:List aC} {vs:List aB} {i:Nat} {m:aC->Option aB},P.Nodup->P[i]?=some x->vs[i]?=some v->kindOf x≠some .local->
  gQ kindOf (P.zip vs) m x=some v
 | [],_,_,_,_,h,_,_=>by simp at h
 | _::_,[],_,_,_,_,h,_=>by simp at h
 | p::P,w::vs,0,m,j,h1,h2,q=>by
  simp at h1 h2;subst h1;subst h2
  show gQ kindOf ((p,w)::P.zip vs) m p=_
  unfold gQ
  rw[Qh λv z=>(dO.mp j).1 (l6 z).1,if_neg q]
  simp
 | p::P,w::vs,i+1,m,j,h1,h2,q=>by
  show gQ kindOf ((p,w)::P.zip vs) m x=_
  unfold gQ
  exact Qj (i:=i) (dO.mp j).2 (by simpa using h1) (by simpa using h2) q
def start(N:List aC)(vs:List V):St:=vs.map some++aZ (N.length-vs.length) none
def Y7(CX:CXT)(P:aS)(w:aO)(K:aE)(mg:aC->Option aB)(base:aK)(N:List aC)(qual:aC)(scope:cB)(f:aA)(cd:aB)(A:bG)(outer:List cA)(s:aD)(H:Hp)(E:XK):Cx where
 prog:=P
 w:=w
 K:=K
 mg:=mg
 base:=base
 A:=A.deeper (fE qual scope s.heap.objs.size f cd)
 N:=N
 s₀:=s
 H₀:=H
 env:=fE qual scope s.heap.objs.size f cd
 outer:=outer
 stack:=fE qual scope s.heap.objs.size f cd::outer
 ex:=[]
 calm:=true
 fn:=λ_=>true
 pn:=[]
 xe:=λe s'=>wpAny (aJ P w) (A.deeper (fE qual scope s.heap.objs.size f cd)) (leaving (fE qual scope s.heap.objs.size f cd) e) (λ_ s''=>CX outer H s E e s'') (λe' s''=>CX outer H s E e' s'') s'
theorem JE{j:cB}{n:Nat}{x:aC}(h:j.names.lookup x=some .cell):∃c,(l7 n j.names []).lookup x=some c:=by
 have q:=nV j.names n [] (.inl h)
 exact nW.mp q
theorem zey{CX:CXT}{P:aS}{w:aO}{K:aE}{mg:aC->Option aB}{base:aK}{N ps:List aC}{qual:aC}{scope:cB}{f:aA}{U:aB}{A:bG}{outer:List cA}{s s1:aD}{H:Hp}{E:XK}{us:List aB}{vs:List V} 
  (S:FnScope N ps scope) (hd:A.handled=none) (j:Env0 P w K mg base A outer s H) (hl:vs.length=ps.length) (r:zO vs us)
  (x:InCallC s s.heap.objs.size (gP (fE qual scope s.heap.objs.size f U).kindOf (ps.zip us) λ_=>none) (l7 (s.heap.objs.size+1) scope.names []) (gQ (fE qual scope s.heap.objs.size f U).kindOf (ps.zip us) λ_=>none) s1) :
  Inv (Y7 CX P w K mg base N qual scope f U A outer s H E) [] (start N vs) H s1:=by
 have aa:ps.length<=N.length:=by have:=congrArg l8 S.pre;rw[iP]at this;omega
 obtain⟨h1,tk,rfl,Y⟩:=x.done
 have I:∀b:aA,b∉(Y7 CX P w K mg base N qual scope f U A outer s H E).ex:=λb z=>absurd (show b∈([]:List aA)from z) (by simp)
 refine⟨⟨j.mod,S.kind,rfl,rfl,aP _,λy z c h1 h2=>?_,λy J=>?_,λy c _ h=>?_,λ_=>hd,Around.frames_deeper j.frames,.inr ⟨rfl,rfl⟩,λb z=>absurd z (I b),j.bs,j.bsz,λb _ _=>I b,λb z=>absurd z (I b),j.funs,j.frf⟩,
  rfl,j.bare,Un.kept Y,⟨_,x.toInCall.ns,λi y v h1 h2 h3=>?_⟩,λy c h=>⟨_,x.cell y c h⟩,j.hok.fresh (aP _),λy c h=>?_,λp O=>absurd (show p∈([]:List (aA×aL))from O) (by simp),j.hok.kept Y,?_⟩
 ·exact name_of_addr x.apart (jI h1) (jI h2)
 ·have J:scope.names.lookup y=some .cell\/scope.names.lookup y=some .free:=J
  rcases J with J|J
  ·exact JE J
  ·exact absurd rfl (S.nofree _ (jI J))
 ·exact fI (x.above y c (jI h))
 ·have hi:i<vs.length:=by
   unfold start at h2
   by_cases hi:i<vs.length
   ·exact hi
   ·rw[fF (by simpa using hi)]at h2
    rw[l9]at h2
    split at h2 <;>cases h2
  have ha:vs[i]?=some v:=by
   unfold start at h2
   rw[dF (by simpa using hi),aY]at h2
   cases e:vs[i]? with
   | none=>rw[e]at h2;cases h2
   | some a=>rw[e]at h2;cases h2;rfl
  obtain⟨u,Z,rv⟩:=r.get ha
  have O:ps[i]?=some y:=by
   rw[<-S.pre,nX (by omega)];exact h1
  have R:ps.Nodup:=by rw[<-S.pre];exact S.nd.sublist (List.take_sublist _ _)
  refine⟨u,rv,?_⟩
  rcases S.par y (cE O)with k|k
  ·exact .inl ⟨k,Qi R O Z k⟩
  ·obtain⟨c,e⟩:=JE (n:=s.heap.objs.size+1) k
   refine .inr ⟨.inl k,c,e,?_⟩
   have q:=x.cell y c e
   rw[Qj R O Z (by show scope.names.lookup y≠_;rw[k];decide)]at q
   exact q
 ·exact j.hok.fresh (fI (x.above y c (jI h)))
 ·unfold start
  show _=N.length
  rw[bM,aN,nY]
  omega
theorem zk7{CX:CXT}{P:aS}{w:aO}{K:aE}{mg:aC->Option aB}{base:aK}{k:Nat}{f:aA}{name qual:aC}{j:Arguments}{z:List aM}{scope:cB}{dV kV Y pm cdv ct oc:aB}{an od:Option aA} 
  {ac:Array (Option aB)} {N ps:List aC} {sp:Sp} (lk:K.lookup f=some ⟨oc,od,.func (iC name qual j z scope dV kV Y pm an cdv ct),ac⟩) (ad:ma K cdv qual=true) (S:FnScope N ps scope)
  (Z:∀vs H Q E,sp vs H Q E->vs.length=ps.length)
  (O:∀(A:bG) (outer:List cA) (s:aD) (H:Hp) (vs:List V) (Q:VK) (E:XK),Room k (A.deeper (fE qual scope s.heap.objs.size f cdv))->sp vs H Q E->
   ∃t,PSs (Y7 CX P w K mg base N qual scope f cdv A outer s H E) z t/\t {nx:=λ_ H'=>Q .non H',rt:=Q} (start N vs) H) :
  FnOk P w K mg base CX (k+1) f (iC name qual j z scope dV kV Y pm an cdv ct) ps sp:=by
 refine⟨Z,λA outer s H args us vs Q E hr e0 hb r aa=>?_⟩
 have hl:=Z _ _ _ _ aa
 have KX:K.In s.heap:=e0.mod.kin.keeps λb o e=>(e0.bs b o e).1
 have ae:s.heap.NoLimit:=e0.mod.nolimit.keeps λb o e=>(e0.bs b o e).1
 have R:∀y∈ps.zip us,scope.names.lookup y.1=some .local\/(scope.names.lookup y.1=some .cell/\((l7 (s.heap.objs.size+1) scope.names []).lookup y.1).isSome=true):=λab hy=>by
  obtain⟨n,v⟩:=ab
  rcases S.par n (l6 hy).1 with q|q
  ·exact .inl q
  ·exact .inr ⟨q,nV _ _ _ (.inl q)⟩
 refine codeAny_call_function hr.depth (KX _ _ lk) rfl S.co S.gen rfl (PySem.W.codeRec_of KX ad) (hb _ _ _ _ ?_)
 refine wpAny_newFunctionEnv_cells S.kind R λenv he s1 x=>?_
 subst he
 refine⟨ae.keeps x.toInCall.keep,codeAny_func ?_⟩
 obtain⟨t,ht,hq⟩:=O A outer s H vs Q E (hr.deeper _) aa
 have I:Inv (Y7 CX P w K mg base N qual scope f cdv A outer s H E) [] (start N vs) H s1:=zey S hr.hd e0 hl r x
 refine eB (ht [] s1 (start N vs) H _ I hq) (λfl s' U=>?_) λe s' U=>U
 have fin:∀{σ':St} {H':Hp} {v:V} {u:aB},Inv (Y7 CX P w K mg base N qual scope f cdv A outer s H E) [] σ' H' s'->zQ v u->Q v H'->CE outer P w H s Q u s' :=
  λ{σ' H' v u} J rv q=>⟨v,H',J.os,J.bare,J.base,J.hok,rv,q⟩
 cases fl with
 | ret u=>
  obtain⟨v,σ',H',J,rv,q⟩:=U
  exact fin J rv q
 | next=>
  obtain⟨σ',H',J,q⟩:=U
  exact fin (v:=V.non) (u:=Value.none) J rfl q
 | brk=>
  obtain⟨_,_,_,q⟩:=U
  exact eK q
 | cont=>
  obtain⟨_,_,_,q⟩:=U
  exact eK q
end L2
namespace L2
open PySem PySem.Spec PyProof.Rows
section
variable {X:Cx} {x:aC} {p pos:aR} {e:aG} {es:List aG} {t:TA} {id T:String} {r:List V->Hp->VK->Prop}
def tCB(r:List V->Hp->VK->Prop)(t:TA):TE:=λσ H Q=>t σ H λvs H1=>r vs H1 Q
theorem xz(J:wo X (.builtin id) r)(O:Gl X x)(R:X.mg x=none)(U:fV x=some (.builtin id))(Y:PA X (e::es) t)(Z:x≠"__name__":=by decide)(q:(x==("__debug__":aC))=false:=by decide) 
  (he:bD (e::es) X.env=(false,aW e X.env)::bD es X.env:=by rfl) (z:(cX pos (bD es X.env)).any (·.1)=false:=by rfl):PE X (.Call (.Name x p) (e::es) [] pos) (tCB r t):=by
 intro pins s σ H Q I h
 refine kO (Zb I O R U ?_ Z q)
 exact qX (thn (Y pos pins s σ H _ I h) λus s1 j=>(by obtain⟨vs,H1,I1,r1,q1⟩:=j;exact J pins s1 σ H1 vs us Q I1 r1 q1)) he z
theorem Zv(J:wo X (.type T) r)(O:Gl X x)(R:X.mg x=none)(U:fV x=some (.type T))(Y:PA X (e::es) t)(Z:x≠"__name__":=by decide)(q:(x==("__debug__":aC))=false:=by decide) 
  (he:bD (e::es) X.env=(false,aW e X.env)::bD es X.env:=by rfl) (z:(cX pos (bD es X.env)).any (·.1)=false:=by rfl):PE X (.Call (.Name x p) (e::es) [] pos) (tCB r t):=by
 intro pins s σ H Q I h
 refine kO (Zb I O R U ?_ Z q)
 exact jE (thn (Y pos pins s σ H _ I h) λus s1 j=>(by obtain⟨vs,H1,I1,r1,q1⟩:=j;exact J pins s1 σ H1 vs us Q I1 r1 q1)) he z
end
end L2
namespace HT
open PySem PyProof.Rows
section
open PySem.SeqAt
open PySem.AutoSeq1 (wpAny_loadPart')
open PySem.MeetsSeq PySem.MeetsSeq2 PySem.MeetsSeq3
end
section
variable {prog:aS} {w:aO} {A:bG} {E:aB->aD->Prop} {s:aD}
theorem cat_tup{t b:aA}{vs ws:List aB}{Q:aB->aD->Prop}(ht:fH s.heap t vs.toArray)(hb:fH s.heap b ws.toArray)(U:vs≠[]) 
  (h1:ws=[]->Q (.ref t) s) (h2:ws≠[]->Q (.ref s.heap.objs.size) {s with heap:=s.heap.push {cls:=.type "tuple",data:=.seq (vs++ws).toArray}})
  (hsz:vs.length+ws.length<=aH):wpAny (aJ prog w) A (dM .Add (.ref t) (.ref b)) Q E s:=by
 obtain⟨⟨cls,Y,data,Z⟩,O,hc,n,hd⟩:=id ht
 obtain⟨⟨aa,q,data2,z⟩,j,I,n2,J⟩:=id hb
 simp only at hc hd I J
 subst hc hd I J
 have e:vs.toArray++ws.toArray=(vs++ws).toArray:=by simp
 by_cases R:ws=[]
 ·exact md ⟨_,O,rfl⟩ ⟨_,j,rfl⟩ mf mh mi mj (mq _ _)
   (tuple_addW1 t b vs.toArray ws.toArray n n2 Y q Z z (by simpa using U) (by simp[R])) ⟨O,j,h1 R⟩
 ·refine md ⟨_,O,rfl⟩ ⟨_,j,rfl⟩ mf mh mi mj (mq _ _)
   (tuple_addW2 t b vs.toArray ws.toArray n n2 Y q Z z (by simpa using U) (by simpa using R) (by rw[cF,cF];exact hsz)) ⟨O,j,?_⟩
  rw[e]
  exact h2 R
end
end HT
namespace L2
open PySem PySem.Spec PyProof.Rows
section
variable {X:Cx} {e:aG} {te:TE} {lo hi:Option aG} {tl th:TO} {pos p2:aR}
def zhK(K:aE):R2:=λx y H Q=>∃a b xs ys,x=.ref a/\y=.ref b/\SqT K H a xs/\SqT K H b ys/\xs≠[]/\xs.length+ys.length<=aH/\
 (ys=[]->Q (.ref a) H)/\(ys≠[]->∀p,H p=none->Q (.ref p) (upd H p (.tup (xs++ys))))
theorem zO.nil_iff(r:zO xs us):us=[]↔xs=[]:=by
 cases r with
 | nil=>simp
 | cons _ _=>simp
theorem zid:OpR X (dM .Add) (zhK X.K):=by
 intro pins s σ H x y v u Q I O R h
 obtain⟨a,b,xs,ys,rfl,rfl,U,Y,Z,j,q1,q2⟩:=h
 cases O
 cases R
 obtain⟨its,r1,p1,_⟩:=I.tuple U
 obtain⟨J,r2,p2,_⟩:=I.tuple Y
 refine HT.cat_tup p1 p2 (λz=>Z (r1.nil_iff.mp z)) (λz=>⟨.ref a,H,I,rfl,q1 (r2.nil_iff.mp z)⟩) (λz=>?_) (by rw[<-r1.length,<-r2.length];exact j)
 refine⟨.ref s.heap.objs.size,_,I.laid (t':=s.toks) (o:=.tup (xs++ys)) (λb ob q=>bB _ q) (aP _) ?_,rfl,q2 (λw=>z (r2.nil_iff.mpr w)) _ (I.hok.fresh (aP _))⟩
 exact⟨by rw[bM];exact j,_,r1.append r2,mu _ _⟩
end
end L2
namespace L2
open PySem PySem.Spec PyProof.Rows
def ixN(n:Nat)(i:Int):Option Nat:=if 0<=i then(if i<n then some i.toNat else none)else if-(n:Int)<=i then some (i+n).toNat else none
def atI{α:Type}(xs:List α)(i:Int):Option α:=(ixN xs.length i).bind λj=>xs[j]?
theorem zbK{n:Nat}{i:Int}{j:Nat}(h:ixN n i=some j):seqIndex? i n=some j/\j<n/\-(n:Int)<=i/\i<n:=by
 unfold ixN at h
 by_cases q:0<=i
 ·rw[if_pos q]at h
  by_cases h1:i<n
  ·rw[if_pos h1]at h
   have e:i.toNat=j:=eP h
   exact⟨by rw[mx q h1,e],by omega,by omega,h1⟩
  ·rw[if_neg h1]at h;cases h
 ·rw[if_neg q]at h
  by_cases h1:-(n:Int)<=i
  ·rw[if_pos h1]at h
   have e:(i+n).toNat=j:=eP h
   exact⟨by rw[seqIndex_neg (by omega) h1,e],by omega,h1,by omega⟩
  ·rw[if_neg h1]at h;cases h
theorem zbL{α:Type}{xs:List α}{i:Int}{v:α}(h:atI xs i=some v):∃j,seqIndex? i xs.length=some j/\xs[j]?=some v/\j<xs.length/\-(xs.length:Int)<=i/\i<xs.length:=by
 unfold atI at h
 cases e:ixN xs.length i with
 | none=>rw[e]at h;cases h
 | some j=>
  rw[e]at h
  obtain⟨h1,h2,q,z⟩:=zbK e
  exact⟨j,h1,h,h2,q,z⟩
theorem xq{α:Type}{xs:List α}{j:Nat}{v:α}(h:xs[j]?=some v):atI xs (j:Int)=some v:=by
 have q:j<xs.length:=(bE.mp h).1
 have e:ixN xs.length (j:Int)=some j:=by
  unfold ixN
  rw[if_pos (by omega),if_pos (by omega)];simp
 unfold atI;rw[e];exact h
def Ul(b:aG):Prop:=∀o i,jJ b false o i=operate [o,i] (jK o i)
def IxR(X:Cx)(r:R2):Prop :=
 ∀(value j:aG) (pins:List (aA×aL)) (s:aD) (σ:St) (H:Hp) (x y:V) (v u:aB) (Q:VK),Inv X pins σ H s->zQ x v->zQ y u->r x y H Q->
  jJ j false v u=operate [v,u] (jK v u)->wpAny (aJ X.prog X.w) X.A (my value j v u) (EP X pins σ Q) X.xe s
def MtR(X:Cx)(id:String)(r:V->List V->Hp->VK->Prop):Prop :=
 ∀(pins:List (aA×aL)) (s:aD) (σ:St) (H:Hp) (x:V) (xs:List V) (v:aB) (us:List aB) (Q:VK),Inv X pins σ H s->zQ x v->zO xs us->r x xs H Q->
  wpAny (aJ X.prog X.w) X.A (call (.builtin id) (v::us)) (EP X pins σ Q) X.xe s
section
variable {X:Cx} {a b:aG} {ta tb:TE} {pos:aR}
theorem IxR.or(h:IxR X r)(h':IxR X R):IxR X (λx y H Q=>r x y H Q\/R x y H Q):=by
 intro value j pins s σ H x y v u Q I z J q O
 rcases q with q|q
 ·exact h value j pins s σ H x y v u Q I z J q O
 ·exact h' value j pins s σ H x y v u Q I z J q O
theorem xA(j:IxR X r)(z:PE X a ta)(J:PE X b tb)(O:Ul b):PE X (.Subscript a b pos) (tOp r ta tb):=by
 intro pins s σ H Q I h
 exact Subscript_ (zfN z J I h λv u s2 x y H2 R U Y q=>j a b pins s2 σ H2 x y v u Q R U Y q (O _ _))
def zjw(K:aE):R2:=λx y H Q=>∃p xs i v,x=.ref p/\y=.int i/\SqL K H p xs/\atI xs i=some v/\Q v H
def zjx(K:aE):R2:=λx y H Q=>∃p xs i v,x=.ref p/\y=.int i/\SqT K H p xs/\atI xs i=some v/\Q v H
theorem wr:IxR X (zjw X.K):=by
 intro value J pins s σ H x y v u Q I rx ry h U
 obtain⟨p,xs,i,z,rfl,rfl,hq,he,q⟩:=h
 cases rx
 obtain⟨t,rfl⟩:=ry
 obtain⟨its,r,pl,hz⟩:=I.list hq
 obtain⟨j,h1,h2,h3,h4,h5⟩:=zbL he
 obtain⟨w,Y,O⟩:=r.get h2
 have hl:=r.length
 have hn:=W8
 have fin:EP X pins σ Q w s:=⟨z,H,I,O,q⟩
 by_cases Z:0<=i
 ·have R:i.toNat=j:=by
   rw[mx Z h5]at h1
   exact eP h1
  exact item_listR pl.isList Z (by omega) (by rw[R];simpa using Y) fin U
 ·have R:(i+(its.toArray.size:Int)).toNat=j:=by
   rw[seqIndex_neg (by omega) h4]at h1
   rw[cF,<-hl]
   exact eP h1
  exact nZ (x:=w) pl.isList.typeIs slot_list_getitem.lookup
   (wpAny_getItem_list_neg (Q:=λr s'=>r=w/\EP X pins σ Q r s') pl.isList (by omega) (by rw[cF] <;>omega) (by omega) (by rw[R];simpa using Y) ⟨rfl,fin⟩) U
theorem w5:IxR X (zjx X.K):=by
 intro value J pins s σ H x y v u Q I R U h Y
 obtain⟨p,xs,i,z,rfl,rfl,Z,he,q⟩:=h
 cases R
 obtain⟨t,rfl⟩:=U
 obtain⟨its,r,pl,hz⟩:=I.tuple Z
 obtain⟨j,h1,h2,h3,h4,h5⟩:=zbL he
 obtain⟨w,ew,O⟩:=r.get h2
 have hl:=r.length
 have hn:=W8
 have fin:EP X pins σ Q w s:=⟨z,H,I,O,q⟩
 exact nZ (x:=w) pl.typeIs slot_tuple_getitem.lookup
  (getItem_tuple (j:=j) (Q:=λr s'=>r=w/\EP X pins σ Q r s') pl (by omega) (by omega) (by rw[cF,<-hl];exact h1) (by simpa using ew) ⟨rfl,fin⟩) Y
theorem zcO(its:List aB)(n j:Nat)(u:aB):jL (·.setIfInBounds j u) {cls:=.type "list",data:=.seq its.toArray n}={cls:=.type "list",data:=.seq (its.set j u).toArray n}:=by
 simp[jL]
theorem Inv.lst(I:Inv X pins σ H s)(h:H p=some (.lst xs)):
  ∃(its:List aB) (n:Nat),zO xs its/\s.heap.get? p=some {cls:=.type "list",data:=.seq its.toArray n}/\xs.length<=aH:=by
 obtain⟨z,its,n,r,e⟩:=I.hok p _ h
 exact⟨its,n,r,e,z⟩
theorem Inv.lstUpd{pins:List (aA×aL)}{σ:St}{H:Hp}{s:aD}{p:aA}{xs ys:List V}{its its':List aB}{n j:Nat}{f:aL->aL}(I:Inv X pins σ H s)(h:H p=some (.lst xs)) 
  (J:s.heap.get? p=some {cls:=.type "list",data:=.seq its.toArray n}) (z:f {cls:=.type "list",data:=.seq its.toArray n}={cls:=.type "list",data:=.seq its'.toArray j}) (r:zO ys its') (O:ys.length<=aH) (t:Nat) :
  Inv X pins σ (upd H p (.lst ys)) {s with heap:=s.heap.update p f,toks:=t}:=by
 have e:(s.heap.update p f).get? p=some {cls:=.type "list",data:=.seq its'.toArray j}:=by
  rw[oa f J (by rw[z] <;>rfl),z]
 refine I.write (x:=p) (e:=p) (by rw[h];trivial) (.inl rfl) (λb u R q=>(og _ _ (aQ R)).trans q) ⟨_,e⟩ ?_
 exact⟨O,its',j,r,e⟩
def zk8:V->V->V->Hp->(Hp->Prop)->Prop:=λo i v H Q=>∃p xs k j,o=.ref p/\i=.int k/\H p=some (.lst xs)/\ixN xs.length k=some j/\Q (upd H p (.lst (xs.set j v)))
theorem Yv:zjn X zk8:=by
 intro pins s σ H o i v ov iv u Q I ro ri rv h
 obtain⟨p,xs,k,j,rfl,rfl,R,hj,q⟩:=h
 cases ro
 obtain⟨t,rfl⟩:=ri
 obtain⟨its,n,r,z,hz⟩:=I.lst R
 obtain⟨h1,h2,U,Y⟩:=zbK hj
 have J:=r.length
 have hn:=W8
 have Z:Inv X pins σ (upd H p (.lst (xs.set j v))) {s with heap:=s.heap.update p (jL (·.setIfInBounds j u))} :=
  I.lstUpd R z (zcO its n j u) (r.set rv j) (by rw[cQ];exact hz) s.toks
 by_cases h0:0<=k
 ·have O:k.toNat=j:=by
   rw[mx h0 Y]at h1
   exact eP h1
  exact PySem.W.ki_setAt z h0 (by omega) (by rw[cF,<-J];exact Y) (by rw[O];exact⟨_,Z,q⟩)
 ·have O:(k+(its.toArray.size:Int)).toNat=j:=by
   rw[seqIndex_neg (by omega) U]at h1
   rw[cF,<-J]
   exact eP h1
  exact PySem.W.ki_setBack z (by omega) (by rw[cF,<-J];exact U) (by omega) (by rw[O];exact⟨_,Z,q⟩)
theorem zz:wo X (.builtin "len") (λxs H Q=>∃p ys,xs=[.ref p]/\(SqL X.K H p ys\/SqT X.K H p ys)/\Q (.int ys.length) H):=by
 intro pins s σ H xs us Q I r h
 obtain⟨p,ys,rfl,hq,q⟩:=h
 obtain⟨u,rfl,rx⟩:=uR r
 cases rx
 have hn:=W8
 rcases hq with hq|hq
 ·obtain⟨its,r',pl,hz⟩:=I.list hq
  have hlen:=r'.length
  exact Calls.call_len_list pl.isList (by simp only[cF] <;>omega) ⟨.int ys.length,H,I.tok _,⟨s.toks+1,by rw[cF,hlen]⟩,q⟩
 ·obtain⟨its,r',pl,hz⟩:=I.tuple hq
  have hlen:=r'.length
  exact len_tuple pl (by simp only[cF] <;>omega) ⟨.int ys.length,H,I.tok _,⟨s.toks+1,by rw[cF,hlen]⟩,q⟩
theorem wo.or{r j:List V->Hp->VK->Prop}(h:wo X f r)(h':wo X f j):wo X f (λxs H Q=>r xs H Q\/j xs H Q):=by
 intro pins s σ H xs us Q I rs q
 rcases q with q|q
 ·exact h pins s σ H xs us Q I rs q
 ·exact h' pins s σ H xs us Q I rs q
theorem yx:wo X (.type "tuple") (λxs H Q=>∃p ys,xs=[.ref p]/\((SqL X.K H p ys/\∀l,H l=none->Q (.ref l) (upd H l (.tup ys)))\/(SqT X.K H p ys/\Q (.ref p) H))):=by
 intro pins s σ H xs us Q I r h
 obtain⟨p,ys,rfl,h⟩:=h
 obtain⟨u,rfl,U⟩:=uR r
 cases U
 rcases h with⟨j,q⟩|⟨j,q⟩
 ·obtain⟨its,z,pl,J⟩:=I.list j
  have O:=z.length
  refine call_tuple_list pl.isList (λh' Y=>?_) (by simp only[cF] <;>omega)
  have R:Inv X pins σ H {s with heap:=h'}:=I.kept (t':=s.toks) Y
  have Z:Inv X pins σ (upd H h'.objs.size (.tup ys)) {s with heap:=h'.push {cls:=.type "tuple",data:=.seq its.toArray}} :=
   R.laid (t':=s.toks) (λb o e=>bB _ e) (aP _) (show yK X.prog X.w _ _ _ (.tup ys)from⟨J,its,z,mu _ _⟩)
  exact⟨.ref h'.objs.size,_,Z,rfl,q _ (R.hok.fresh (aP _))⟩
 ·obtain⟨its,z,pl,J⟩:=I.tuple j
  exact call_tuple_same pl ⟨.ref p,H,I,rfl,q⟩
def tyV(K:aE)(T:String)(x:V)(H:Hp):Prop:=match x with
 | .str _=>T="str"
 | .int _=>T="int"
 | .ref p=>(T="list"/\∃xs,SqL K H p xs)\/(T="tuple"/\∃o,K.lookup p=some o/\o.cls=.type "tuple"/\o.dict=none)\/
  (T="dict"/\((∃kvs,H p=some (.dK kvs))\/∃kvs,H p=some (.dT kvs)))\/(T="set"/\∃S n,H p=some (.set S n))
 | _=>False
theorem zez(I:Inv X pins σ H s)(r:zQ x v)(ty:tyV X.K T x H):
  s.TypeIs v T/\∀a,v=.ref a->∃O,s.heap.get? a=some O/\O.dict=none:=by
 cases x with
 | str z=>
  obtain⟨t,rfl⟩:=r
  cases (show T="str"from ty)
  exact⟨typeIs_str s z t,λ_ e=>nomatch e⟩
 | int i=>
  obtain⟨t,rfl⟩:=r
  cases (show T="int"from ty)
  exact⟨jM s i t,λ_ e=>nomatch e⟩
 | ref p=>
  cases r
  rcases ty with⟨rfl,xs,R⟩|⟨rfl,o,j,U,q⟩|⟨rfl,j⟩|⟨rfl,S,n,j⟩
  ·obtain⟨its,_,pl,_⟩:=I.list R
   refine⟨pl.isList.typeIs,λa e=>?_⟩
   cases e
   obtain⟨o,n,e,c,q,_⟩:=pl
   exact⟨o,e,q⟩
  ·refine⟨⟨o,I.kIn p o j,U⟩,λa e=>?_⟩
   cases e
   exact⟨o,I.kIn _ o j,q⟩
  ·have z:∃o,s.heap.get? p=some o/\o.ExactDict:=by
    rcases j with⟨kvs,j⟩|⟨kvs,j⟩
    ·obtain⟨_,_,_,_,o,_,_,e,ex,_⟩:=I.hok p _ j
     exact⟨o,e,ex⟩
    ·obtain⟨_,_,_,_,o,_,_,e,ex,_⟩:=I.hok p _ j
     exact⟨o,e,ex⟩
   obtain⟨o,e,ex⟩:=z
   refine⟨⟨o,e,ex.1⟩,λa J=>?_⟩
   cases J
   exact⟨o,e,ex.2.1⟩
  ·obtain⟨o,_,_,_,e,ex,_⟩:=I.hok p _ j
   refine⟨⟨o,e,ex.1⟩,λa J=>?_⟩
   cases J
   exact⟨o,e,ex.2.1⟩
 | _=>exact eK ty
def zmB(K:aE)(T:String)(r:V->List V->Hp->VK->Prop)(to:TE):TE:=λσ H Q=>to σ H λx H1=>tyV K T x H1/\r x [] H1 Q
def tBM(K:aE)(T:String)(r:V->List V->Hp->VK->Prop)(to:TE)(t:TA):TE:=λσ H Q=>to σ H λx H1=>tyV K T x H1/\t σ H1 λxs H2=>r x xs H2 Q
variable {o e:aG} {es:List aG} {to:TE} {t:TA} {name:aC} {apos cpos:aR} {T id:String} {r:V->List V->Hp->VK->Prop}
theorem zjy(pa:PlainAttrs T)(slot:Slot T name id)(hty:typeOf (.builtin id)=pure (.type "method_descriptor"))(hm:MtR X id r)(ho:PE X o to) 
  (hbase:iN o name X.env (aW o X.env)=aW o X.env:=by rfl) (hline:(apos.endLine==cpos.line)=true:=by rfl):PE X (.Call (.Attribute o name apos) [] [] cpos) (zmB X.K T r to):=by
 intro pins s σ H Q I h
 refine oh hbase hline (thn (ho pins s σ H _ I h) λv s1 ⟨x,H1,I1,r1,ty,q1⟩=>?_)
 obtain⟨h1,h2⟩:=zez I1 r1 ty
 exact⟨T,id,pa,slot,hty,h1,h2,kS rfl (oi (hm pins s1 σ H1 x [] v [] Q I1 r1 .nil q1))⟩
theorem xl(pa:PlainAttrs T)(slot:Slot T name id)(hty:typeOf (.builtin id)=pure (.type "method_descriptor"))(hm:MtR X id r)(ho:PE X o to)(ha:PA X (e::es) t) 
  (hbase:iN o name X.env (aW o X.env)=aW o X.env:=by rfl)
  (hfew:((cX cpos (bD (e::es) X.env)).all (λx=>!x.1) && (kP cpos (kQ [] X.env)).all (λx=>x.1.isSome)
   && decide ((e::es).length+([]:List jH).length+(if([]:List jH).isEmpty then 0 else 1)<30))=true:=by rfl)
  (hline:(apos.endLine==cpos.line)=true:=by rfl) (hs:bD (e::es) X.env=(false,aW e X.env)::bD es X.env:=by rfl) (hplain:(cX cpos (bD es X.env)).any (·.1)=false:=by rfl) :
  PE X (.Call (.Attribute o name apos) (e::es) [] cpos) (tBM X.K T r to t):=by
 intro pins s σ H Q I h
 refine wpAny_Call_method_late hbase hfew hline rfl (thn (ho pins s σ H _ I h) λv s1 ⟨x,H1,I1,r1,ty,q1⟩=>?_)
 obtain⟨h1,h2⟩:=zez I1 r1 ty
 refine⟨T,id,pa,slot,hty,h1,h2,?_⟩
 have hA:=ha cpos pins s1 σ H1 _ I1 q1
 rw[hs]at hA ⊢
 refine kS (by show(false|| (cX cpos (bD es X.env)).any (·.1))=false;rw[hplain] <;>rfl) (oj ?_)
 exact thn hA λus s2 hh12'=>by obtain⟨vs,H2,I2,r2,q2⟩:=hh12';exact hm pins s2 σ H2 x vs v us Q I2 r1 r2 q2
end
end L2
namespace L2
open PySem PySem.Spec PyProof.Rows
def MtM(X:Cx)(id:String)(r:V->List V->Hp->VK->Prop):Prop :=
 ∀(pins:List (aA×aL)) (s:aD) (σ:St) (H:Hp) (x:V) (xs:List V) (v:aB) (us:List aB) (Q:VK),Inv X pins σ H s->zQ x v->zO xs us->r x xs H Q->
  wpAny (aJ X.prog X.w) X.A (call (.builtin id) (v::us)) (EP X pins σ Q) X.xe s
theorem zO.one:∀{x:V} {us:List aB},zO [x] us->∃u,us=[u]/\zQ x u
 | _,_,.cons r .nil=>⟨_,rfl,r⟩
theorem zO.zero:∀{us:List aB},zO [] us->us=[]
 | _,.nil=>rfl
theorem zO.dropLast(h:zO xs us):zO xs.dropLast us.dropLast:=by
 induction h with
 | nil=>exact .nil
 | cons r t j=>
  cases t with
  | nil=>exact .nil
  | cons q t'=>exact .cons r j
theorem zO.rep(h:zO xs us):∀k:Nat,zO (aZ k xs).flatten (aZ k us).flatten
 | 0=>.nil
 | k+1=>by
  rw[fL,fL,gR,gR]
  exact zO.append h (zO.rep h k)
theorem zcP{α:Type}(l:List α):l.eraseIdx (l.length-1)=l.dropLast:=by
 induction l with
 | nil=>rfl
 | cons a r j=>
  cases r with
  | nil=>rfl
  | cons b r=>
   have e:(a::b::r).length-1=((b::r).length-1)+1:=by
    have h1:(a::b::r).length=r.length+2:=rfl
    have h2:(b::r).length=r.length+1:=rfl
    omega
   rw[e,List.eraseIdx_cons_succ,j]
   all_goals rfl
theorem Qk(its:List aB):∀(k:Nat) (acc:List aB),
  kT (λx1 x2=>x1++x2) acc.toArray (aZ k its.toArray)=(acc++(aZ k its).flatten).toArray
 | 0,acc=>by simp
 | k+1,acc=>by
  have e:acc.toArray++its.toArray=(acc++its).toArray:=by simp
  have j:(acc++its)++(aZ k its).flatten=acc++(aZ (k+1) its).flatten:=by
   rw[fL,gR,kU]
  rw[<-j,<-Qk its k (acc++its),<-e,fL,om]
section
variable {X:Cx} {pins:List (aA×aL)} {σ:St} {H:Hp} {s:aD} {l b:aA} {xs ys zs:List V}
theorem Inv.lset{its its':List aB}{n:Nat}{f:Array aB->Array aB}{t':Nat}(I:Inv X pins σ H s)(j:H l=some (.lst xs)) 
  (e:s.heap.get? l=some {cls:=.type "list",data:=.seq its.toArray n}) (z:f its.toArray=its'.toArray) (J:zO ys its') (O:ys.length<=aH) :
  Inv X pins σ (upd H l (.lst ys)) {s with heap:=s.heap.update l (jL f),toks:=t'}:=by
 have q:=PySem.IsL.update e f
 rw[z]at q
 refine I.write (x:=l) (e:=l) (by rw[j];exact trivial) (.inl rfl) (λY u R U=>(og s.heap (jL f) (aQ R)).trans U) ⟨_,q⟩ ?_
 exact⟨O,its',_,J,q⟩
theorem Inv.lnew{its:List aB}{t':Nat}(I:Inv X pins σ H s)(j:zO ys its)(z:ys.length<=aH):
  Inv X pins σ (upd H s.heap.objs.size (.lst ys)) {s with heap:=s.heap.push {cls:=.type "list",data:=.seq its.toArray},toks:=t'} :=
 I.laid (λ_ _ q=>bB _ q) (aP _) ⟨z,its,0,j,cK _ rfl⟩
theorem Inv.fresh(I:Inv X pins σ H s):H s.heap.objs.size=none:=I.hok.fresh (aP _)
theorem Inv.lstM(I:Inv X pins σ H s)(j:H l=some (.lst xs)):xs.length<=aH/\∃(its:List aB) (n:Nat),zO xs its/\xs.length=its.length/\s.heap.get? l=some {cls:=.type "list",data:=.seq its.toArray n}:=by
 obtain⟨z,its,n,r,e⟩:=I.hok l _ j
 exact⟨z,its,n,r,r.length,e⟩
theorem zfU(h:n<=aH):mz n=false:=by
 unfold mz
 exact decide_eq_false (by omega)
end
section
variable {X:Cx}
def zbM:V->List V->Hp->VK->Prop:=λx vs H Q=>∃l xs y,x=.ref l/\vs=[y]/\H l=some (.lst xs)/\xs.length<aH/\Q .non (upd H l (.lst (xs++[y])))
theorem yw:MtM X "list.append" zbM:=by
 intro pins s σ H x vs v us Q I J O h
 obtain⟨l,xs,y,rfl,rfl,j,U,q⟩:=h
 cases J
 obtain⟨u,rfl,R⟩:=O.one
 obtain⟨z,its,n,r,Y,e⟩:=I.lstM j
 refine gD cM ⟨_,e,rfl⟩ F.entry_list_append (F.args_list_append_2 _ _) (PySem.list_append l its.toArray n u (by rw[cF];omega)) ⟨e,?_⟩
 refine⟨.non,_,I.lset (its':=its++[u]) j e (by simp) (r.append (.cons R .nil)) ?_,rfl,q⟩
 rw[bM,cN]
 omega
def zbN:V->List V->Hp->VK->Prop:=λx vs H Q=>∃l b xs zs,x=.ref l/\vs=[.ref b]/\H l=some (.lst xs)/\H b=some (.lst zs)/\xs.length+zs.length<=aH/\Q .non (upd H l (.lst (xs++zs)))
theorem Ql:MtM X "list.extend" zbN:=by
 intro pins s σ H x vs v us Q I rx rv h
 obtain⟨l,b,xs,zs,rfl,rfl,hH,hB,hz,q⟩:=h
 cases rx
 obtain⟨u,rfl,ru⟩:=rv.one
 cases ru
 obtain⟨z,its,n,r,hl,e⟩:=I.lstM hH
 obtain⟨z2,its2,n2,r2,hl2,e2⟩:=I.lstM hB
 have hsz:its.toArray.size+its2.toArray.size<=aH:=by rw[cF,cF];omega
 have hlong:¬(!its.toArray.isEmpty && mz (its.toArray.size+its2.toArray.size))=true:=by
  rw[zfU hsz,Bool.and_false]
  exact cJ
 refine gD mB ⟨_,e,rfl⟩ F.entry_list_extend (F.args_list_extend_2 _ _)
  (AutoSeq1.list_extend_list_list_0 l its.toArray n b its2.toArray n2 hlong (by rw[cF];omega) (by omega)) ⟨e,e2,?_⟩
 refine⟨.non,_,I.lset (its':=its++its2) hH e (by simp) (r.append r2) ?_,rfl,q⟩
 rw[bM]
 omega
def zmC:V->List V->Hp->VK->Prop:=λx vs H Q=>∃l xs y,x=.ref l/\vs=[]/\H l=some (.lst xs)/\xs[xs.length-1]?=some y/\Q y (upd H l (.lst xs.dropLast))
theorem zjz:MtM X "list.pop" zmC:=by
 intro pins s σ H x vs v us Q I rx rv h
 obtain⟨l,xs,y,rfl,rfl,hH,hy,q⟩:=h
 cases rx
 have hus:=rv.zero
 subst hus
 obtain⟨z,its,n,r,hl,e⟩:=I.lstM hH
 obtain⟨u,hu,ru⟩:=r.get hy
 have hy':its.toArray[its.toArray.size-1]?=some u:=by
  show its.toArray[its.length-1]?=some u
  rw[<-oo,<-hl]
  exact hu
 refine gD oq ⟨_,e,rfl⟩ F.entry_list_pop (F.args_list_pop_1 _) (MeetsSeq.list_pop_last l its.toArray n u hy' (by rw[cF];omega)) ⟨e,?_⟩
 refine⟨y,_,I.lset (its':=its.dropLast) hH e ?_ r.dropLast ?_,ru,q⟩
 ·show its.toArray.eraseIdxIfInBounds (its.toArray.size-1)=its.dropLast.toArray
  rw[cF,List.eraseIdxIfInBounds_toArray,zcP]
 ·rw[ou]
  omega
def zcQ:R2:=λx y H Q=>∃l b xs zs,x=.ref l/\y=.ref b/\H l=some (.lst xs)/\H b=some (.lst zs)/\xs.length+zs.length<=aH/\∀p,H p=none->Q (.ref p) (upd H p (.lst (xs++zs)))
theorem zjA:OpR X (dM .Add) zcQ:=by
 intro pins s σ H x y v u Q I J O h
 obtain⟨l,b,xs,zs,rfl,rfl,R,U,hz,q⟩:=h
 cases J
 cases O
 obtain⟨z,its,n,r,hl,e⟩:=I.lstM R
 obtain⟨z2,j,n2,r2,Y,Z⟩:=I.lstM U
 refine PySem.P.add_list e Z ?_ (by rw[cF,cF];omega)
 have ea:its.toArray++j.toArray=(its++j).toArray:=by simp
 rw[ea]
 exact⟨.ref _,_,I.lnew (t':=s.toks) (r.append r2) (by rw[bM];omega),rfl,q _ I.fresh⟩
theorem zie{α:Type}(xs:List α)(k:Nat):(aZ k xs).flatten.length=k*xs.length:=by
 induction k with
 | zero=>simp
 | succ k j=>rw[fL,gR,bM,j,jN,jO]
end
section
variable {prog:aS} {w:aO} {A:bG} {E:aB->aD->Prop} {s:aD}
end
section
variable {X:Cx}
end
end L2
namespace Att
open PySem PySem.W PySem.Calls PyProof.Rows
theorem Va{P:kW}{h:aK}:∀(ns:List Int) (vs:List aB),WellAll P h vs (ns.map WData.int)->jP vs ns:=by
 intro ns
 induction ns with
 | nil=>
  intro vs w
  rw[mC]at w
  cases w
  exact .nil
 | cons n ns j=>
  intro vs w
  rw[bI]at w
  cases w with
  | cons a b=>
   cases a
   exact .cons _ _ (j _ b)
theorem zeA{l:iQ}{n:Nat}(hn:l.most=some n){P:kW}{h:aK}{args:List WData}{j:List aB} 
  (z:l.row.toRowW.claim.pre args=true) (U:WellAll P h j args) :
  ∃a vs ns,j=[Value.ref a]/\args=[WData.list (ns.map WData.int)]/\h.get? a=some {cls:=.type "list",data:=.seq vs.toArray}/\jP vs ns/\ns.length<=n:=by
 have Y:WShape.hasAll [] args [.list .int]=true:=(pre_splitW z).1
 have Z:l.pre.holds [] {args:=args}=true:=(pre_splitW z).2
 obtain⟨d,r,rfl,h1,h2⟩:=hasAllW_cons Y
 obtain rfl:=hasAllW_nil h2
 obtain⟨xs,rfl,h3⟩:=hasW_list h1
 obtain⟨ns,rfl⟩:=items_int h3
 have I:ns.length<=n:=by
  unfold OpenLaw.pre at Z
  have O:(WTm.not (.lt (.lit (.int (n:Int))) (.len (.arg 0)))).holds [] {args:=[.list (ns.map .int)]}=true:=by
   have O:=(holds_andW Z).1
   rw[hn]at O
   exact O
  have R:=condW_of O (w_not (w_lt w_lit (w_len_list (w_arg rfl))))
  rw[aN]at R
  refine Nat.le_of_not_lt λq=>?_
  have q':(n:Int)<((ns.length:Nat):Int):=by omega
  first
   | (rw[decide_eq_true q']at R;exact absurd R (by decide))
   | (simp at R;omega)
 cases U with
 | cons w1 w2=>
  cases w2
  cases w1 with
  | list ho J=>exact⟨_,_,ns,rfl,rfl,ho,Va ns _ J,I⟩
theorem zeB(l:iQ)(args:List WData):l.row.toRowW.claim.post args (.bool true) args=true :=
 postW_of (r:=l.row.toRowW) (X:=(true==true))
  (show ow [] (.bool true) .bool=true by first|rfl|decide|simp[ow,WShape.arms,WShape.armsAll])
  (show(WTm.eq .res (.lit (.bool true))).value [] {args:=args,res:=some (.bool true),after:=args}=some (.bool (true==true))from w_eq_bool (w_res rfl) w_lit) rfl
theorem attach_call{l:iQ}{n:Nat}{q:aS}{j:List aC}{XP:(aC->Option aB)->aK->Prop}{YP:aO->aK->Prop}{d:DefRec} 
  (hn:l.most=some n) (aa:d.params.defaults=[])
  (call:∀(w:aO) (s₀ z:aD) (mg mb:aC->Option aB) (fa:aA) (o:aL) (pm Z I:aB) (a:aA) (vs:List aB) (ns:List Int),
   Ground q j [] XP w s₀ mg mb z.heap->YP w z.heap->
   z.heap.get? fa=some o->o.data=.func (docDef d.name d.params d.body d.scope pm Z I)->z.heap.CodeRec Z d.name->mg d.name=some (.ref fa)->
   z.heap.get? a=some {cls:=.type "list",data:=.seq vs.toArray}->jP vs ns->ns.length<=n->z.gens=#[]->
   codeAny (aJ l.prog w) iD (.call (.ref fa) ⟨[.ref a],[]⟩) (λr s'=>r=.ok (.ret (.bool true))/\OldK z.heap s'.heap/\s'.os=z.os/\fW s'.gens) z) :
  mD q j XP YP l.row.toRowW d [] (λf vs=>mE f vs):=by
 intro w s₀ z mg mb G Y fa o pm Z I dV kV ho hd ab hD ac hg args ae as O af ag ad ah
 obtain rfl:dV=.none:=Dflts.none hD aa
 obtain rfl:kV=.none:=Dflts.noKw hD
 obtain⟨a,vs,ns,rfl,rfl,R,J,U⟩:=zeA hn O ad
 refine enter_call (kM (call w s₀ z mg mb fa o pm Z I a vs ns G Y ho (fd_plain hd) ab ac R J U hg) λr s' hq=>?_)
 obtain⟨rfl,h2,h3,h4⟩:=hq
 exact⟨.inl ⟨.bool true,.bool true,[],rfl,λ_=>rfl,.bool true,zeB l _,λ_=>⟨List.Pairwise.nil,λ_ hm=>(nomatch hm)⟩⟩,h2,h3,h4⟩
section
variable {prog:aS} {w:aO} {A:bG} {E:aB->aD->Prop} {s:aD} {K:aE}
end
end Att
namespace L2
open PySem PySem.Spec PyProof.Rows
theorem Qm:∀{vs:List aB} {ns:List Int},jP vs ns->zO (ns.map V.int) vs
 | _,_,.nil=>.nil
 | _,_,.cons n t h=>.cons ⟨t,rfl⟩ (Qm h)
def zfV(H:Hp):Prop:=∀b,H b=none\/∃o xs,H b=some (.frz o (.lst xs))
theorem zfW{P:aS}{w:aO}{K:aE}{mg mb:aC->Option aB}{CX:CXT}{k:Nat}{fa a:aA}{fd:bQ}{x:aC}{sp:Sp}{j:aD}{vs:List aB}{ns:List Int} 
  (KX:K.In j.heap) (Z:j.heap.Ns aT mg) (J:j.heap.Ns lM mb) (ag:∀x:aC,x≠"__name__"->mb x=fV x) (aa:j.heap.NoLimit) (hg:j.gens=#[])
  (ha:j.heap.get? a=some {cls:=.type "list",data:=.seq vs.toArray}) (hi:jP vs ns) (hl:ns.length<=aH) (hr:Room k iD)
  (F:∀base:aK,K.In base->base.Ns aT mg->FnOk P w K mg base CX k fa fd [x] sp) (U:∀(s:aD) (u:aB),iO s fd ⟨[u],[]⟩ [(x,u)])
  (ah:∀H:Hp,zfV H->SqL K H a (ns.map V.int)->sp [.ref a] H (λv _=>v=.bl true) λ_ _ _=>False)
  (ai:∀H e s',CX [] H j (λ_ _ _=>False) e s'->False) :
  codeAny (aJ P w) iD (.call (.ref fa) ⟨[.ref a],[]⟩) (λr s'=>r=.ok (.ret (.bool true))/\OldK j.heap s'.heap/\s'.os=j.os/\fW s'.gens) j:=by
 have rv:=Qm hi
 have ab:=hi.length
 have R:∀H:Hp,zfV H->SqL K H a (ns.map V.int)->HOk P w H j.heap->(∀b,H b≠none->b=a)->(H a≠none->K.lookup a=none)->
   codeAny (aJ P w) iD (.call (.ref fa) ⟨[.ref a],[]⟩) (λr s'=>r=.ok (.ret (.bool true))/\OldK j.heap s'.heap/\s'.os=j.os/\fW s'.gens) j:=by
  intro H hO hS ac hA hK
  have I:∀{b:aA} {o:aL},j.heap.get? b=some o->H b=none->(Yr j.heap H).get? b=some o:=λe n=>zfH e n
  have aj:∀{b:aA} {o:aL} {es:Array DictEntry} {ep:Nat},j.heap.get? b=some o->o.data=.dict es ep->H b=none:=λ{b o es ep} e d=>by
   cases q:H b with
   | none=>rfl
   | some u=>
    have e':b=a:=hA b (by rw[q];simp)
    subst e'
    rw[ha]at e;cases e
    have d':Data.seq vs.toArray _=Data.dict es ep:=d
    cases d'
  have O:∀{b:aA} {m:aC->Option aB},j.heap.Ns b m->(Yr j.heap H).Ns b m:=λ{b m} Y=>by obtain⟨o,es,ep,e,d,r⟩:=Y;exact⟨o,es,ep,I e (aj e d),d,r⟩
  have ad:K.In (Yr j.heap H):=λb o e=>I (KX b o e) (by
   cases q:H b with
   | none=>rfl
   | some u=>
    have e':b=a:=hA b (by rw[q];simp)
    subst e'
    rw[hK (by rw[q];simp)]at e;cases e)
  have hM:Mod K mg (Yr j.heap H):=⟨ad,O Z,⟨mb,O J,ag⟩,(by obtain⟨mc,h1,h2⟩:=aa;exact⟨mc,O h1,h2⟩)⟩
  have e0:Env0 P w K mg (Yr j.heap H) iD [] j H:=⟨rfl,hM,λb o e=>zh7 e,fK (zem _ _),trivial,λb J=>absurd (show b∈([]:List aA)from J) (by simp),ac,.of_eq hg⟩
  refine kM ((F _ ad (O Z)).run iD [] j H ⟨[.ref a],[]⟩ [.ref a] [.ref a] _ _ hr e0 (U j (.ref a)) (.cons rfl .nil) (ah H hO hS)) λr s' h=>?_
  cases r with
  | error e=>exact(ai H e s' h).elim
  | ok fl=>
   cases fl with
   | next=>exact eK h
   | brk=>exact eK h
   | cont=>exact eK h
   | ret u=>
    obtain⟨v,H',os,ae,un,af,r',q⟩:=h
    have q':v=.bl true:=q
    subst q'
    obtain rfl:u=Value.bool true:=r'
    refine⟨rfl,OldK.of_keep λb o e=>?_,os,ae⟩
    cases q:H b with
    | none=>exact un.keep b o e q (by intro z;exact absurd (show b∈([]:List aA)from z) (by simp)) (by simp)
    | some u=>
     rcases hO b with z|⟨ob,xs,z⟩
     ·rw[q]at z;cases z
     ·have z2:=un.frzs b ob _ z
      obtain⟨e1,_⟩:=ac b _ z
      obtain⟨e2,_⟩:=af b _ z2
      rw[e]at e1;cases e1
      exact e2
 cases hk:K.lookup a with
 | some o=>
  have e:=KX a o hk
  rw[ha]at e
  cases e
  refine R (λ_=>none) (λ_=>.inl rfl) (.inr ⟨_,vs.toArray,_,hk,rfl,rfl,rfl,by rw[cF,ab];exact hl,by simpa using rv⟩) (λb u z=>by have z':(none:Option HO)=some u:=z;cases z') (λb z=>absurd rfl z) λz=>absurd rfl z
 | none=>
  refine R (λb=>if b=a then some (.frz {cls:=.type "list",data:=.seq vs.toArray} (.lst (ns.map V.int)))else none) (λb=>?_) (.inl (.inr ⟨{cls:=.type "list",data:=.seq vs.toArray},if_pos rfl⟩)) (λb u z=>?_) (λb z=>?_) λ_=>hk
  ·by_cases J:b=a
   ·exact .inr ⟨_,_,if_pos J⟩
   ·exact .inl (if_neg J)
  ·by_cases J:b=a
   ·have z':=(if_pos J).symm.trans z
    cases z'
    subst J
    exact⟨ha,by rw[aN];exact hl,vs,_,rv,ha⟩
   ·have z':=(if_neg J).symm.trans z
    cases z'
  ·by_cases J:b=a
   ·exact J
   ·exact absurd (if_neg J) z
end L2
namespace L2
open PySem PySem.Spec PyProof.Rows
theorem zif{l:iQ}{n k:Nat}{q:aS}{loose:List aC}{XP:(aC->Option aB)->aK->Prop}{YP:aO->aK->Prop}{d:DefRec}{K:kW->aE}{CX:aO->CXT}{sp:aO->Sp}{x:aC} 
  (hn:l.most=some n) (hn2:n<=aH) (hdf:d.params.defaults=[]) (hr:Room k iD)
  (hY:∀(w:aO) (h:aK),YP w h->(K w.params).In h)
  (F:∀(w:aO) (mg:aC->Option aB) (fa:aA) (h:aK),(K w.params).In h->h.Ns aT mg->mg d.name=some (.ref fa)->
   ∃fd:bQ,(∀(s:aD) (u:aB),iO s fd ⟨[u],[]⟩ [(x,u)])/\
    ∀base:aK,(K w.params).In base->base.Ns aT mg->FnOk l.prog w (K w.params) mg base (CX w) k fa fd [x] (sp w))
  (hsp:∀(w:aO) (H:Hp) (a:aA) (ns:List Int),ns.length<=n->zfV H->SqL (K w.params) H a (ns.map V.int)->sp w [.ref a] H (λv _=>v=.bl true) λ_ _ _=>False)
  (hCX:∀(w:aO) (H:Hp) (s:aD) (e:aB) (s':aD),CX w [] H s (λ_ _ _=>False) e s'->False) :
  mD q loose XP YP l.row.toRowW d [] (λf vs=>mE f vs):=by
 refine Att.attach_call hn hdf λw s₀ s₁ mg mb fa o pm cd doc a vs ns G Y ho hd hcd hmg hobj hints hlen hg=>?_
 have KX:=hY w _ Y
 obtain⟨fd,hb,hF⟩:=F w mg fa _ KX G.T.g hmg
 exact zfW KX G.T.g G.T.b G.T.builtins G.T.nolimit hg hobj hints (bS hlen hn2) hr hF hb (λH hO hS=>hsp w H a ns hlen hO hS) λH e s'=>hCX w H s₁ e s'
end L2
namespace L2
open PySem PySem.Spec PyProof.Rows
def Z0(s:aM):Arguments:=match s with
 | .FunctionDef _ a _ _ _ _ _ _ _ _=>a
 | _=>{posonlyargs:=[],args:=[],vararg:=none,kwonlyargs:=[],kw_defaults:=[],kwarg:=none,defaults:=[]}
def vT(s:aM):List aM:=match s with
 | .FunctionDef _ _ b _ _ _ _ _ _ _=>b
 | _=>[]
def zq(s:aM):cB:=match s with
 | .FunctionDef _ _ _ _ _ _ j _ _ _=>j
 | _=>{kind:=.function,names:=[],isGenerator:=false,isCoroutine:=false}
abbrev CX0:CXT:=λ_ _ _ _ _ _=>False
abbrev E0:XK:=λ_ _ _=>False
theorem xK:Zd CX0 X E0:=λ_ _ _ _ _ _ _ h=>h.elim
structure Fun (K:aE) (x qual:aC) (st:aM) (f:aA) (fd:bQ):Prop where
 ex:∃(oc:aB) (od:Option aA) (kV doc pm:aB) (an:Option aA) (cdv ct:aB) (osl:Array (Option aB)),
  fd=iC x qual (Z0 st) (vT st) (zq st) .none kV doc pm an cdv ct/\K.lookup f=some ⟨oc,od,.func fd,osl⟩/\ma K cdv qual=true
 kp:gA K (.ref f)=true
section
variable {P:aS} {w:aO} {K:aE} {mg:aC->Option aB} {base:aK}
theorem Fun.ok{x qual:aC}{st:aM}{f:aA}{fd:bQ}{N ps:List aC}{k:Nat}{sp:Sp}(F:Fun K x qual st f fd)(S:FnScope N ps (zq st))(z:∀vs H Q E,sp vs H Q E->vs.length=ps.length) 
  (j:∀(cdv:aB) (A:bG) (outer:List cA) (s:aD) (H:Hp) (vs:List V) (Q:VK) (E:XK),Room k (A.deeper (fE qual (zq st) s.heap.objs.size f cdv))->sp vs H Q E->
   ∃t,PSs (Y7 CX0 P w K mg base N qual (zq st) f cdv A outer s H E).nox (vT st) t/\t {nx:=λ_ H'=>Q .non H',rt:=Q} (start N vs) H):FnOk P w K mg base CX0 (k+1) f fd ps sp:=by
 obtain⟨Z,od,kV,O,pm,an,cdv,ct,R,rfl,U,I⟩:=F.ex
 refine zk7 U I S z λA outer s H vs Q E Y J=>?_
 obtain⟨t,h,q⟩:=j cdv A outer s H vs Q E Y J
 exact⟨t,h.nox,q⟩
theorem Fun.binds{x qual:aC}{st:aM}{f:aA}{fd:bQ}{ps:List aC}(F:Fun K x qual st f fd) 
  (h:∀(kV doc pm:aB) (an:Option aA) (cdv ct:aB) (us:List aB),us.length=ps.length->bindArgs (iC x qual (Z0 st) (vT st) (zq st) .none kV doc pm an cdv ct) ⟨us,[]⟩=pure (ps.zip us)):xk K fd ps []:=by
 obtain⟨oc,od,kV,doc,pm,an,cdv,ct,osl,rfl,lk,hcd⟩:=F.ex
 exact .all (h kV doc pm an cdv ct)
theorem zeC{x qual:aC}{st:aM}{f:aA}{J:aB}{O z:Option aA}{q:Array (Option aB)}{kV j I cdv ct:aB}(l:K.lookup f=some ⟨J,O,.func (iC x qual (Z0 st) (vT st) (zq st) .none kV j I z cdv ct),q⟩) 
 (c:ma K cdv qual=true) (k:gA K (.ref f)=true):Fun K x qual st f (iC x qual (Z0 st) (vT st) (zq st) .none kV j I z cdv ct):=⟨⟨J,O,kV,j,I,z,cdv,ct,q,rfl,l,c⟩,k⟩
end
theorem wB(j:Room k A):A.units+1<bV:=iE (Nat.add_le_add_left (by decide:1<=64) _) j.units
section
variable {X:Cx}
theorem pv(i:Nat){x:aC}{pos:aR}(q:X.N[i]?=some x:=by rfl)(z:Vis X.env.scope x:=by first|exact Or.inl rfl|exact Or.inr (Or.inl rfl)|exact Or.inr (Or.inr rfl))(I:(x==("__debug__":aC))=false:=by decide) 
 (j:(x==("__classdict__":aC))=false:=by decide):PE X (.Name x pos) (vN i):=zjh q z I j
end
theorem zmD{A B:Prop}(h:A):if true=true then A else B:=by
 rw[if_pos rfl]
 exact h
theorem Y8{c A B:Prop} [Decidable c] (h1:c->A) (h2:¬c->B):if c then A else B:=by
 by_cases h:c
 ·rw[if_pos h]
  exact h1 h
 ·rw[if_neg h]
  exact h2 h
def zw(H H':Hp):Prop:=∀b o,H b=some o->H' b=some o
theorem zw.refl(H:Hp):zw H H:=λ_ _ h=>h
theorem zw.trans(a:zw H H1)(b:zw H1 H2):zw H H2:=λc o h=>b c o (a c o h)
theorem zw.free(e:zw H H')(h:H' l=Option.none):H l=Option.none:=by
 cases q:H l with
 | none=>rfl
 | some o=>
  rw[e l o q]at h
  cases h
theorem zw.seq{K:aE}{H H':Hp}{a:aA}{xs:List V}(e:zw H H')(h:SqL K H a xs):SqL K H' a xs:=by
 rcases h with(h|⟨o,h⟩)|h
 ·exact .inl (.inl (e _ _ h))
 ·exact .inl (.inr ⟨o,e _ _ h⟩)
 ·exact .inr h
end L2
namespace L2
open PySem PySem.Spec PyProof.Rows
def PF(X:Cx)(ifs:List aG)(t:TT):Prop :=
 ∀(pins:List (aA×aL)) (s:aD) (σ:St) (H:Hp) (Q:Bool->Hp->Prop),Inv X pins σ H s->t σ H Q->
  wpAny (aJ X.prog X.w) X.A (forIn ifs true λc r=>if r=true then do let ok <-iI c X.env (aW c X.env);pure (ForInStep.yield ok)else pure (ForInStep.yield r)) (TP X pins σ Q) X.xe s
def Z1:TT:=λ_ H Q=>Q true H
theorem Vb{X:Cx}:PF X [] Z1:=λ_ _ _ H _ I h=>wpAny_tests_nil ⟨H,I,h⟩
theorem zjB(h:PT X c t):PF X [c] t:=λpins s σ H Q I q=>wpAny_tests_one (h pins s σ H Q I q)
theorem zeD{prog:aS}{w:aO}{A:bG}{R:kK->aD->Prop}{s:aD}{elt target iter:aG}{ifs:List aG}{scope:cB}{pos:aR}{it acc:aB}{env:cA}(I:Nat->aD->Prop) 
  (turn:∀n s,I n s->wpAny (aJ prog w) A (fA it) (λr s1=>match r with
   | none=>R (.ok .next) s1
   | some v=>wpAny (aJ prog w) A (kF target it v) (λ_ s1'=>wpAny (aJ prog w) A (eS target env v) (λ_ s2=>
    wpAny (aJ prog w) A (forIn ifs true λc r=>if r=true then do let ok <-iI c env (aW c env);pure (ForInStep.yield ok)else pure (ForInStep.yield r)) (λok s3=>
     if ok=true then wpAny (aJ prog w) A (aW elt env) (λx s4=>
      wpAny (aJ prog w) A (call (.builtin "list.append") [acc,x]) (λ_ s5=>∃m,m<n/\I m s5) (λ_ _=>False) s4) (λ_ _=>False) s3
     else ∃m,m<n/\I m s3) (λ_ _=>False) s2) (λ_ _=>False) s1') (λ_ _=>False) s1) (λ_ _=>False) s)
  (n:Nat) (h:I n s) :
  codeAny (aJ prog w) A (.compLoop (.ListComp elt [⟨target,iter,ifs,0⟩] scope pos) 0 it acc env) R s:=by
 refine codeAny_loop rfl I (λn s hI=>?_) n h
 show wpAny _ A ((compTurn (.ListComp elt [⟨target,iter,ifs,0⟩] scope pos) 0 it acc env).onRaise (λx=>do noteFrame x env;theTreesLotGoes x)) _ _ s
 refine wpAny_noted ?_
 rw[compTurn_list]
 refine aI (lS (aI (eB (turn n s hI) (λr s1 h1=>?_) λ_ _ h'=>h'.elim)))
 cases r with
 | none=>exact bJ h1
 | some v=>
  refine aI (eB h1 (λ_ s1' h1'=>?_) λ_ _ h'=>h'.elim)
  refine aI (eB h1' (λ_ s2 h2=>aI (eB h2 (λok s3 h3=>?_) λ_ _ h'=>h'.elim)) λ_ _ h'=>h'.elim)
  cases ok with
  | false=>exact bJ ⟨rfl,h3⟩
  | true=>exact aI (aI (eB h3 (λx s4 h4=>aI (eB h4 (λ_ s5 h5=>bJ (bJ ⟨rfl,h5⟩)) λ_ _ h'=>h'.elim)) λ_ _ h'=>h'.elim))
theorem ZK{env:cA}:∀(l:List (aC×gC)) (acc:List (aC×aA)),(∀y∈l,y.2=.free->(env.cells.lookup y.1).isSome=true)->(∀x c,acc.lookup x=some c->env.cells.lookup x=some c)->
  ∃cl:List (aC×aA),(forIn l acc (λ(x:aC×gC) (r:List (aC×aA))=>match x with
   | (name,kind)=>if(kind==NameKind.free)=true then do let a <-cellOf env name;pure (ForInStep.yield ((name,a)::r))else pure (ForInStep.yield r)):cW (List (aC×aA)))=pure cl/\
   (∀x c,cl.lookup x=some c->env.cells.lookup x=some c)/\(∀x,(x,NameKind.free)∈l->∃c,cl.lookup x=some c)/\∀x,(∃c,acc.lookup x=some c)->∃c,cl.lookup x=some c
 | [],acc,_,ha=>⟨acc,rfl,ha,λx h=>(nomatch h),λx h=>h⟩
 | (n,k)::r,acc,h,ha=>by
  by_cases hk:k=NameKind.free
  ·subst hk
   obtain⟨c,hc⟩:=nW.mp (h (n,.free) bN rfl)
   have ha':∀x c',((n,c)::acc).lookup x=some c'->env.cells.lookup x=some c':=λx c' e=>by
    rw[gS]at e
    cases hx:x==n with
    | true=>
     rw[hx]at e
     have:x=n:=eq_of_beq hx
     rw[this,hc];simpa using e
    | false=>rw[hx]at e;exact ha x c' e
   obtain⟨cl,e1,e2,e3,e4⟩:=ZK r ((n,c)::acc) (λy hy=>h y (bO _ hy)) ha'
   refine⟨cl,?_,e2,λx hx=>?_,λx ⟨d,hd⟩=>e4 x ?_⟩
   ·rw[jQ]
    show(if(NameKind.free==NameKind.free)=true then _ else _:cW _)>>=_=_
    rw[if_pos (show(NameKind.free==NameKind.free)=true from rfl)]
    have hco:cellOf env n=pure c:=by unfold cellOf;rw[hc]
    rw[hco]
    exact e1
   ·rcases aU.mp hx with q|q
    ·cases q
     exact e4 n ⟨c,by simp[gS]⟩
    ·exact e3 x q
   ·cases hx:x==n with
    | true=>exact⟨c,by rw[gS,hx]⟩
    | false=>exact⟨d,by rw[gS,hx];exact hd⟩
  ·obtain⟨cl,e1,e2,e3,e4⟩:=ZK r acc (λy hy=>h y (bO _ hy)) ha
   refine⟨cl,?_,e2,λx hx=>?_,e4⟩
   ·rw[jQ]
    have hb:¬(k==NameKind.free)=true:=by simpa using hk
    show(if(k==NameKind.free)=true then _ else _:cW _)>>=_=_
    rw[if_neg hb]
    exact e1
   ·rcases aU.mp hx with q|q
    ·cases q;exact absurd rfl hk
    ·exact e3 x q
theorem zcR{scope:cB}{env:cA}(h:∀y∈scope.names,y.2=.free->(env.cells.lookup y.1).isSome=true):
  ∃cl:List (aC×aA),closureFor scope env=pure cl/\(∀x c,cl.lookup x=some c->env.cells.lookup x=some c)/\∀x,(x,NameKind.free)∈scope.names->∃c,cl.lookup x=some c:=by
 obtain⟨cl,e1,e2,e3,_⟩:=ZK (env:=env) scope.names [] h (λx c e=>by simp at e)
 refine⟨cl,?_,e2,e3⟩
 unfold closureFor
 exact(congrArg (λ(m:cW (List (aC×aA)))=>m>>=λcs=>pure cs) e1)
def zbO(q:cB)(z:List aC)(scope:cB)(N:List aC)(ms:List (Option Nat)):Bool :=
 scope.names.all (λy=>decide (y.2≠.cell) && (decide (y.2≠.local) || decide (scope.names.lookup y.1=some .local)) && (decide (y.2≠.free) || decide (q.names.lookup y.1=some .cell) || decide (q.names.lookup y.1=some .free)))
 && decide (ms.length=N.length) && decide (N.Nodup) && decide (scope.kind=.function)
 && (N.zip ms).all (λp=>match p.2 with|none=>true|some j=>decide (z[j]?=some p.1) && decide (scope.names.lookup p.1=some .free))
structure CompOk (osc:cB) (oN:List aC) (scope:cB) (N:List aC) (ms:List (Option Nat)):Prop where
 kind:scope.kind=.function
 nocell:∀y∈scope.names,y.2≠.cell
 loc:∀y∈scope.names,y.2=.local->scope.names.lookup y.1=some .local
 fr:∀y∈scope.names,y.2=.free->osc.names.lookup y.1=some .cell\/osc.names.lookup y.1=some .free
 len:ms.length=N.length
 nd:N.Nodup
 sel:∀(i:Nat) x j,N[i]?=some x->ms[i]?=some (some j)->oN[j]?=some x/\scope.names.lookup x=some .free
theorem CompOk.of(h:zbO I J scope N ms=true):CompOk I J scope N ms:=by
 unfold zbO at h
 simp only[dY,decide_eq_true_eq,dG,mF]at h
 obtain⟨⟨⟨⟨h1,h2⟩,O⟩,R⟩,U⟩:=h
 refine⟨R,λy z=>(h1 y z).1.1,λy z e=>?_,λy z e=>?_,h2,O,λi x j Y Z=>?_⟩
 ·rcases(h1 y z).1.2 with q|q
  ·exact absurd e q
  ·exact q
 ·rcases(h1 y z).2 with(q|q)|q
  ·exact absurd e q
  ·exact .inl q
  ·exact .inr q
 ·have m:(x,some j)∈N.zip ms:=by
   have:(N.zip ms)[i]?=some (x,some j):=by rw[List.getElem?_zip_eq_some];exact⟨Y,Z⟩
   exact cE this
  have q:=U _ m
  simpa using q
def yP(X:Cx)(scope:cB)(cl:List (aC×aA))(C:aA)(N:List aC)(s:aD)(H:Hp)(ex:List aA):Cx :=
 {X with N:=N,s₀:=s,H₀:=H,env:=compEnvC scope cl C X.env,outer:=X.stack,stack:=X.stack,ex:=ex,fn:=λ_=>false,pn:=[],xe:=λ_ _=>False}
def blk(ms:List (Option Nat))(σ:St):St:=ms.map λm=>m.bind λj=>(σ[j]?).join
theorem zbP{ms:List (Option Nat)}{σ:St}{i:Nat}{v:V}(h:(blk ms σ)[i]?=some (some v)):∃j,ms[i]?=some (some j)/\σ[j]?=some (some v):=by
 unfold blk at h
 rw[aY]at h
 cases e:ms[i]? with
 | none=>rw[e]at h;simp at h
 | some m=>
  rw[e]at h
  cases m with
  | none=>simp at h
  | some j=>
   refine⟨j,rfl,?_⟩
   simp only[eL,bH,ox]at h
   cases q:σ[j]? with
   | none=>rw[q]at h;simp at h
   | some o=>rw[q]at h;simp at h;rw[h]
theorem ug{env:cA}:∀{names:List (aC×gC)} {x:aC} {k:gC},
  (names.map λ(n,k)=>if(k==NameKind.free && env.scope.kind== .function && env.kindOf n==some .cell)then(n,NameKind.cell)else(n,k)).lookup x=some k->
  (names.lookup x=some k)\/(names.lookup x=some .free/\k=.cell)
 | [],_,_,h=>by simp at h
 | (n,j)::r,x,k,h=>by
  have I:=@ug env r x k
  rw[bI]at h
  by_cases z:(j==NameKind.free && env.scope.kind== .function && env.kindOf n==some .cell)=true
  ·have J:j=.free:=by
    simp only[dY]at z
    simpa using z.1.1
   have h':fZ x ((n,NameKind.cell)::r.map λ(n,k)=>if(k==NameKind.free && env.scope.kind== .function && env.kindOf n==some .cell)then(n,NameKind.cell)else(n,k))=some k:=by
    have e:(match (n,j)with|(n,k)=>if(k==NameKind.free && env.scope.kind== .function && env.kindOf n==some .cell)=true then(n,NameKind.cell)else(n,k))=(n,NameKind.cell):=if_pos z
    rw[e]at h;exact h
   rw[gS]at h' ⊢
   cases q:x==n with
   | true=>rw[q]at h';cases h';exact .inr ⟨by rw[J],rfl⟩
   | false=>rw[q]at h';exact I h'
  ·have h':fZ x ((n,j)::r.map λ(n,k)=>if(k==NameKind.free && env.scope.kind== .function && env.kindOf n==some .cell)then(n,NameKind.cell)else(n,k))=some k:=by
    have e:(match (n,j)with|(n,k)=>if(k==NameKind.free && env.scope.kind== .function && env.kindOf n==some .cell)=true then(n,NameKind.cell)else(n,k))=(n,j):=if_neg z
    rw[e]at h;exact h
   rw[gS]at h' ⊢
   cases q:x==n with
   | true=>rw[q]at h';cases h';exact .inl rfl
   | false=>rw[q]at h';exact I h'
theorem uf{env:cA}:∀{names:List (aC×gC)} {x:aC},names.lookup x=some .free->
  (names.map λ(n,k)=>if(k==NameKind.free && env.scope.kind== .function && env.kindOf n==some .cell)then(n,NameKind.cell)else(n,k)).lookup x=some .free\/
  (names.map λ(n,k)=>if(k==NameKind.free && env.scope.kind== .function && env.kindOf n==some .cell)then(n,NameKind.cell)else(n,k)).lookup x=some .cell
 | [],_,h=>by simp at h
 | (n,j)::r,x,h=>by
  have z:=@uf env r x
  rw[bI]
  by_cases I:(j==NameKind.free && env.scope.kind== .function && env.kindOf n==some .cell)=true
  ·have e:(match (n,j)with|(n,k)=>if(k==NameKind.free && env.scope.kind== .function && env.kindOf n==some .cell)=true then(n,NameKind.cell)else(n,k))=(n,NameKind.cell):=if_pos I
   rw[e]
   rw[gS]at h ⊢
   cases q:x==n with
   | true=>exact .inr rfl
   | false=>rw[q]at h;exact z h
  ·have e:(match (n,j)with|(n,k)=>if(k==NameKind.free && env.scope.kind== .function && env.kindOf n==some .cell)=true then(n,NameKind.cell)else(n,k))=(n,j):=if_neg I
   rw[e]
   rw[gS]at h ⊢
   cases q:x==n with
   | true=>rw[q]at h;cases h;exact .inl rfl
   | false=>rw[q]at h;exact z h
section
variable {X:Cx} {pins:List (aA×aL)} {σ:St} {H:Hp} {s:aD}
theorem HOk.track(x:HOk P w H h)(j:H D=none)(k:∀b u,H b≠none->h.get? b=some u->h'.get? b=some u)(new:yK P w (upd H D o) h' D o):HOk P w (upd H D o) h':=λb u e=>by
 by_cases I:b=D
 ·subst I;rw[zk]at e;cases e;exact new
 ·rw[ze I]at e
  refine(x b u e).stay (λc v J q=>k c v ?_ q) (λc q=>by rw[ze (zt q j)];exact q) λc xs q=>by rw[ze (zt q j)];exact q
  rcases J with z|z
  ·rw[z,e];simp
  ·rw[z];simp
theorem zcS{scope:cB}{cl:List (aC×aA)}{N:List aC}{ms:List (Option Nat)}{fp:List aA}{s3:aD}{D C:aA}{h1:aK}{tk:Nat}{m0:aC->Option aB} 
  (I:Inv X pins σ H s) (ok:CompOk X.env.scope X.N scope N ms) (J:∀x c,cl.lookup x=some c->X.env.cells.lookup x=some c) (Y:∀x,(x,NameKind.free)∈scope.names->∃c,cl.lookup x=some c)
  (aa:∀b∈fp,wH X pins H b) (ah:∀b∈fp,b<s.heap.objs.size) (hD:D=s.heap.objs.size) (ab:s3={s with heap:=s.heap.push {cls:=.type "list",data:=.seq ([]:List aB).toArray}}) (hC:C=s3.heap.objs.size)
  (ai:h1.Ns C m0) (hk:∀b o,s3.heap.get? b=some o->h1.get? b=some o):Inv (yP X scope cl C N s3 H (D::fp)) [] (blk ms σ) H {s3 with heap:=h1,toks:=tk}:=by
 have up:∀b o,s.heap.get? b=some o->s3.heap.get? b=some o:=λb o e=>by rw[ab];exact bB _ e
 have up1:∀b o,s.heap.get? b=some o->h1.get? b=some o:=λb o e=>hk b o (up b o e)
 have I3:Inv X pins σ H s3:=by rw[ab];exact I.kept (t':=s.toks) λb o e=>bB _ e
 have ad:s3.heap.objs.size=s.heap.objs.size+1:=by rw[ab];exact fJ ..
 have R:∀x c,cl.lookup x=some c->c<s.heap.objs.size:=λx c e=>let ⟨v,q⟩:=I.cell x c (J x c e);q.lt
 have ae:∀b∈D::fp,b<s3.heap.objs.size:=λb O=>by
  rcases aU.mp O with q|q
  ·rw[q,hD,ad];exact iB _
  ·rw[ad];exact gE (ah b q)
 have U:∀b∈D::fp,∀o,X.base.get? b=some o->False:=λb O o e=>by
  rcases aU.mp O with q|q
  ·have:=bF e
   have h2:=bS I.ok.bsz I.sz
   rw[q,hD]at this
   exact absurd (cI this h2) (cV _)
  ·obtain⟨_,_,_,z,_⟩:=aa b q
   rcases z with z|z
   ·exact I.ok.noex b o e z
   ·exact absurd (cI (bF e) (bS I.ok.bsz z)) (cV _)
 refine⟨⟨I.ok.mod,ok.kind,I.ok.glob,I.ok.blt,fK hC.symm,λx y c a b=>I.ok.inj x y c (J x c a) (J y c b),λx hx=>?_,λx c e=>absurd e cJ,I.ok.hd,I.ok.frames,.inl rfl,
  λb O=>⟨?_,λx c e z=>?_⟩,λb o e=>I3.bs b o e,bS I.ok.bsz I3.sz,λb o e O=>U b O o e,λb O hf=>?_,I3.stack,I3.stkFree⟩,rfl,I3.bare,Un.kept hk,⟨m0,ai,λi x v e1 e2 e3=>?_⟩,λx c e=>?_,
  I3.hok.fresh (fK hC.symm),λx c e=>I.freeC x c (J x c e),λp hp=>(nomatch hp),I3.hok.kept hk,by simp[blk,ok.len,yP]⟩
 ·have fin:scope.names.lookup x=some .free->∃c,cl.lookup x=some c:=λq=>Y x (mem_of_lookup q)
  have no:scope.names.lookup x≠some .cell:=λq=>ok.nocell _ (mem_of_lookup q) rfl
  rcases hx with hx|hx
  ·rcases ug (env:=X.env) (show(relabel scope X.env).names.lookup x=some .cell from hx)with q|⟨q,_⟩
   ·exact absurd q no
   ·exact fin q
  ·rcases ug (env:=X.env) (show(relabel scope X.env).names.lookup x=some .free from hx)with q|⟨q,_⟩
   ·exact fin q
   ·exact fin q
 ·have:=ae b O
  intro z
  have z':b=C:=z
  rw[z',hC]at this
  exact cV _ this
 ·have e':cl.lookup x=some c:=e
  rcases aU.mp O with q|q
  ·have:=R x c e'
   rw[z,q,hD]at this
   exact cV _ this
  ·exact(aa b q).2.2.2.2.1 x c (J x c e') z
 ·have af:b∈frs X.stack:=hf
  rcases aU.mp O with q|q
  ·rcases aU.mp (I.stkSub b af)with z|z
   ·have:=I.lt
    rw[<-z,q,hD]at this
    exact cV _ this
   ·exact I.nofs (a:=b) (by rw[q,hD];exact aP _) z
  ·obtain⟨_,n1,n2,_⟩:=aa b q
   rcases aU.mp (I.stkSub b af)with z|z
   ·exact n1 z
   ·exact n2 z
 ·obtain⟨j,q1,q2⟩:=zbP e2
  obtain⟨q3,q4⟩:=ok.sel i x j e1 q1
  have hm:(x,NameKind.free)∈scope.names:=mem_of_lookup q4
  obtain⟨m,hn,hl⟩:=I.loc
  have kd:=ok.fr _ hm rfl
  have aj:Vis X.env.scope x:=kd.elim (λz=>.inr (.inl z)) λz=>.inr (.inr z)
  obtain⟨u,r,l⟩:=hl j x v q3 q2 aj
  refine⟨u,r,.inr ⟨?_,?_⟩⟩
  ·rcases uf (env:=X.env) q4 with z|z
   ·exact .inr z
   ·exact .inl z
  ·rcases l with⟨ak,_⟩|⟨_,c,hc,ac⟩
   ·have Z:X.env.scope.names.lookup x=some .local:=ak
    rcases kd with z|z
    ·rw[Z]at z;cases z
    ·rw[Z]at z;cases z
   ·obtain⟨c',ag⟩:=Y x hm
    have:=J x c' ag
    rw[hc]at this;cases this
    exact⟨c,ag,ac.keeps up1⟩
 ·obtain⟨v,q⟩:=I.cell x c (J x c e)
  exact⟨v,q.keeps up1⟩
theorem zcT{scope:cB}{cl:List (aC×aA)}{N:List aC}{fp:List aA}{s3 s':aD}{D C:aA}{pl:List (aA×aL)}{sg:St}{H':Hp}{its:List aB}{ys:List V}{n:Nat} 
  (I:Inv X pins σ H s) (Z:∀b∈fp,wH X pins H b) (hD:D=s.heap.objs.size) (J:s3={s with heap:=s.heap.push {cls:=.type "list",data:=.seq ([]:List aB).toArray}})
  (R:Inv (yP X scope cl C N s3 H (D::fp)) pl sg H' s') (aa:H' D=none) (hd:s'.heap.get? D=some {cls:=.type "list",data:=.seq its.toArray n}) (r:zO ys its) (hz:ys.length<=aH) :
  Inv X pins σ (upd H' D (.lst ys)) s':=by
 have Y:∀b o,s.heap.get? b=some o->s3.heap.get? b=some o:=λb o e=>by rw[J];exact bB _ e
 have O:∀b o,s.heap.get? b=some o->b≠D:=λb o e z=>by
  have:=bF e
  rw[z,hD]at this
  exact cV _ this
 have U:Un (frs X.stack) (D::fp) H H' s3.heap s'.heap:=R.base
 have HD:H D=none:=I.hok.fresh (fK hD.symm)
 have j:∀b o,s.heap.get? b=some o->b∉fp->b∉D::fp:=λb o e h z=>(aU.mp z).elim (O b o e) h
 refine I.call' (ch:=fp) (by rw[R.os];show s3.os=s.os;rw[J]) ⟨λb o e n h1 h2=>U.keep b o (Y b o e) n h1 (j b o e h2),λb o e n h1 h2=>U.slot b o (Y b o e) n h1 (j b o e h2),
  λb o e n h2=>by rw[ze (O b o e)];exact U.free b o (Y b o e) n (j b o e h2),λb o e h2=>U.there b o (Y b o e) (j b o e h2),λb xs e=>by rw[ze (zt e HD)];exact U.tups b xs e,
  λb o u e=>by rw[ze (zt e HD)];exact U.frzs b o u e,λb ps e=>by rw[ze (zt e HD)];exact U.tbls b ps e⟩ ?_ R.bare λb hb=>?_
 ·exact HOk.track R.hok aa (λ_ _ _ q=>q) ⟨hz,its,n,r,hd⟩
 ·obtain⟨_,n1,_,n2,n3,n4⟩:=Z b hb
  exact⟨n2,n1,n3,n4⟩
def Wk(σ j:St):Prop:=σ.length=j.length/\∀(i:Nat) v,σ[i]?=some (some v)->j[i]?=some (some v)
def Vc(J:It)(g:TG)(tf:TT)(te:TE)(σ:St)(H:Hp)(Fin:List V->Hp->Prop):Prop :=
 ∃W:Nat->Nat->List V->Hp->Prop,(∃m,W 0 m [] H)/\∀i m ys H,W i m ys H->ys.length<=aH/\
  ((J.stop i H/\Fin ys H)\/(J.go i H/\∀x H',J.yld i H x H'->g x σ H' λq H2=>Wk σ q/\tf q H2 λb z=>if b=true then te q z λy I=>ys.length+1<=aH/\∃j,j<m/\W (i+1) j (ys++[y]) I else ∃j,j<m/\W (i+1) j ys z))
theorem JF{elt tg iter:aG}{ifs:List aG}{scope:cB}{pos cpos:aR}{use:Option (aB->cW Unit)}{N:List aC}{ms:List (Option Nat)}{wi:TI}{g:TG}{tf:TT}{te:TE}{Q:aB->aD->Prop}{Fin:List V->Hp->Prop} 
  (hc:X.calm=true) (ok:CompOk X.env.scope X.N scope N ms) (hi:PI X tg iter wi)
  (hb:∀cl C s H ex,PG (yP X scope cl C N s H ex) tg g/\PF (yP X scope cl C N s H ex) ifs tf/\PE (yP X scope cl C N s H ex) elt te)
  (hs:∀x,gM iter X.env x=pure x)
  (I:Inv X pins σ H s) (hw:wi σ H λJ H1=>Vc J g tf te (blk ms σ) H1 Fin)
  (fin:∀D C s' ys H' m,Inv X pins σ (upd H' D (.lst ys)) s'->H' D=none->Fin ys H'->s'.heap.Ns C m->wH X pins (upd H' D (.lst ys)) C->compPost (aJ X.prog X.w) X.A X.xe use Q (.ref D) C (.ok .next) s') :
  wpAny (aJ X.prog X.w) X.A (oy (.ListComp elt [⟨tg,iter,ifs,0⟩] scope pos) scope X.env cpos (newList []) false (aW iter X.env) use) Q X.xe s:=by
 obtain⟨cl,hclos,hcl,hcl2⟩:=zcR (scope:=scope) (env:=X.env) (λy hy e=>by
  obtain⟨c,hc⟩:=I.ok.has y.1 (ok.fr y hy e)
  rw[hc];rfl)
 refine wpAny_comprehension_free (use:=use) rfl hs hclos ok.kind ok.loc (thn (hi pins s σ H _ I hw) λv s1 h1=>thn h1 λitv s2 h2=>?_)
 obtain⟨it,fp,tn,J,H2,e,I2,T,st2,f2,W,⟨m0,w0⟩,turn⟩:=h2
 subst e
 refine mG (wpAny_newFunctionEnv ok.nocell (by intro y hy;simp at hy) (λh1 hns hsb=>?_) ok.kind)
 dsimp only at hns hsb ⊢
 generalize hs3:({s2 with heap:=s2.heap.push {cls:=.type "list",dict:=none,data:=.seq ([]:List aB).toArray}}:aD)=s3
 have hheap:s2.heap.push {cls:=.type "list",dict:=none,data:=.seq ([]:List aB).toArray}=s3.heap:=by rw[<-hs3]
 rw[hheap]at hns hsb
 have hDs:s3.heap.objs.size=s2.heap.objs.size+1:=by rw[<-hheap];exact fJ ..
 obtain⟨D,hD⟩:∃D,D=s2.heap.objs.size:=⟨_,rfl⟩
 obtain⟨C,hC⟩:∃C,C=s3.heap.objs.size:=⟨_,rfl⟩
 have hk:∀b o,s3.heap.get? b=some o->h1.get? b=some o:=λb o e=>hsb.extBut b o (bT (bF e)) (bB _ e)
 have up:∀b o,s2.heap.get? b=some o->s3.heap.get? b=some o:=λb o e=>by rw[<-hheap];exact bB _ e
 have hfo:∀b∈fp,b<s2.heap.objs.size:=λb hb=>let ⟨o,e,_⟩:=T.obj _ _ st2 b hb;bF e
 have hDC:D≠C:=by rw[hD,hC,hDs];exact bT (iB _)
 have hDfp:D∉fp:=λhm=>by have:=hfo D hm;rw[hD]at this;exact cV _ this
 have hs3':s3={s2 with heap:=s2.heap.push {cls:=.type "list",data:=.seq ([]:List aB).toArray}}:=hs3.symm
 have I3:Inv X pins σ H2 s3:=by rw[hs3'];exact I2.kept (t':=s2.toks) λb o e=>bB _ e
 have en:∀tk,Inv (yP X scope cl C N s3 H2 (D::fp)) [] (blk ms σ) H2 {s3 with heap:=h1,toks:=tk}:=λtk=>zcS I2 ok hcl hcl2 f2 hfo hD hs3' hC (by rw[hC];exact hns) hk
 have fpX:∀{pl:List (aA×aL)} {H':Hp},(∀b∈fp,H' b=none)->(∀p∈pl,p.1=D)->∀b∈fp,wH (yP X scope cl C N s3 H2 (D::fp)) pl H' b:=λ{pl H'} hn hp b hb=>by
  have ok':=(en 0).ok
  refine⟨hn b hb,(ok'.exf b (bO _ hb)).1,ok'.exfs b (bO _ hb),.inl (bO _ hb),(ok'.exf b (bO _ hb)).2,λp hpm z=>?_⟩
  have hpm':p∈pl:=hpm
  rw[hp p hpm']at z
  exact hDfp (z▸hb)
 have DX:∀{pl:List (aA×aL)} {sg:St} {H':Hp} {s':aD} {o:aL},Inv (yP X scope cl C N s3 H2 (D::fp)) pl sg H' s'->H' D=none->s'.heap.get? D=some o->(∀v,o.data≠.cell v)->Inv (yP X scope cl C N s3 H2 (D::fp)) [(D,o)] sg H' s':=λ{pl sg H' s' o} J' hn ho hd=>
  J'.pins_of λp hp=>by
   obtain rfl:=bW.mp hp
   exact⟨ho,hn,(J'.ok.exf D bN).1,J'.ok.exfs D bN,hd⟩
 have loop:∀s4:aD,(∃tk,s4={s3 with heap:=h1,toks:=tk})->
   codeAny (aJ X.prog X.w) X.A (.compLoop (.ListComp elt [⟨tg,iter,ifs,0⟩] scope pos) 0 (.ref it) (.ref D) (compEnvC scope cl C X.env)) (compPost (aJ X.prog X.w) X.A X.xe use Q (.ref D) C) s4:=by
  rintro s4 ⟨tk,rfl⟩
  refine zeD (λn s'=>∃i ys H' its nn,Inv (yP X scope cl C N s3 H2 (D::fp)) [] (blk ms σ) H' s'/\tn i s'.heap/\(∀b∈fp,H' b=none)/\H' D=none/\
   s'.heap.get? D=some {cls:=.type "list",data:=.seq (its:List aB).toArray nn}/\zO ys its/\W i n ys H') ?_ m0 ⟨0,[],H2,[],0,en tk,T.keep _ _ _ st2 λb hb o e=>hk b o (up b o e),λb hb=>(f2 b hb).1,I2.hok.fresh (fK hD.symm),hk _ _ ?_,.nil,w0⟩
  ·rintro n s' ⟨i,ys,H',its,nn,I',st',fr',dn',hd',rv',w'⟩
   obtain⟨gh,hb2⟩:=hb cl C s3 H2 (D::fp)
   obtain⟨tfh,teh⟩:=hb2
   obtain⟨hz,alt⟩:=turn i n ys H' w'
   have nocell:∀v,(({cls:=.type "list",data:=.seq its.toArray nn}:aL)).data≠.cell v:=λv z=>by
    have z':Data.seq its.toArray nn=Data.cell v:=z
    cases z'
   have ID:=DX I' dn' hd' nocell
   have fpI:=fpX (pl:=[(D,({cls:=.type "list",data:=.seq its.toArray nn}:aL))]) fr' (λp hp=>by obtain rfl:=bW.mp hp;rfl)
   rcases alt with⟨stop,qf⟩|⟨go,step⟩
   ·refine thn (T.done (yP X scope cl C N s3 H2 (D::fp)) rfl rfl rfl hc i _ s' _ H' _ ID fpI st' stop) λr s5 ⟨hr,I5⟩=>?_
    subst hr
    have hd5:=(I5.pin (D,_) (dH _ (bW.mpr rfl))).1
    obtain⟨m,hn5,_⟩:=I5.loc
    have Hc:(upd H' D (.lst ys)) C=none:=by rw[ze (aQ hDC)];exact I5.free
    exact fin D C s5 ys H' m (zcT I2 f2 hD hs3' I5 dn' hd5 rv' hz) dn' qf hn5 (I3.fpOk (fK hC.symm) Hc)
   ·refine thn (T.item (yP X scope cl C N s3 H2 (D::fp)) rfl rfl rfl hc i _ s' _ H' _ ID fpI st' go) λr s5 ⟨u,hr,h5⟩=>?_
    subst hr
    refine thn h5 λ_ s6 ⟨x,H6,I6,r6,y6,st6,fr6⟩=>?_
    have I6':=I6.pinned (fpX (pl:=[(D,({cls:=.type "list",data:=.seq its.toArray nn}:aL))]) fr6 (λp hp=>by obtain rfl:=bW.mp hp;rfl)) (T.obj _ _ st6)
    refine thn (gh _ s6 _ H6 x u _ I6' r6 (step x H6 y6)) λ_ s7 ⟨sg7,H7,I7,wk7,q7⟩=>?_
    have back:∀{H9:Hp} {s9:aD} {its':List aB} {ys':List V} {m' nn':Nat},Inv (yP X scope cl C N s3 H2 (D::fp)) ([(D,({cls:=.type "list",data:=.seq its.toArray nn}:aL))]++Y4 fp s6.heap) sg7 H9 s9->
      ∀h10:aK,(∀b o,b≠D->s9.heap.get? b=some o->h10.get? b=some o)->h10.get? D=some {cls:=.type "list",data:=.seq its'.toArray nn'}->zO ys' its'->m'<n->W (i+1) m' ys' H9->
      ∃m,m<n/\∃i ys H' its nn,Inv (yP X scope cl C N s3 H2 (D::fp)) [] (blk ms σ) H' {s9 with heap:=h10}/\tn i h10/\(∀b∈fp,H' b=none)/\H' D=none/\
       h10.get? D=some {cls:=.type "list",data:=.seq (its:List aB).toArray nn}/\zO ys its/\W i m ys H':=λ{H9 s9 its' ys' m' nn'} I9 h10 hb10 hd10 rv10 hm w9=>by
     have dn9:H9 D=none:=(I9.pin (D,_) (dH _ (eJ _ (bW.mpr rfl)))).2.1
     have pk:∀b∈fp,∀o,s6.heap.get? b=some o->s9.heap.get? b=some o/\H9 b=none:=λb hb o e=>
      let q:=I9.pin (b,o) (dH _ (dH _ (Ys hb e)));⟨q.1,q.2.1⟩
     have I10:Inv (yP X scope cl C N s3 H2 (D::fp)) [] (blk ms σ) H9 s9:=(I9.pins_of (pins':=[]) λp hp=>(nomatch hp)).weak wk7.1 wk7.2
     refine⟨m',hm,i+1,ys',H9,its',nn',I10.turned (t':=s9.toks) hb10 dn9 (I10.ok.exf D bN).1 (.inl bN) (λx c e=>(I10.ok.exf D bN).2 x c e) (λp hp=>(nomatch hp)),
      T.keep _ _ _ st6 λb hb o e=>hb10 b o (λz=>hDfp (z▸hb)) (pk b hb o e).1,λb hb=>?_,dn9,hd10,rv10,w9⟩
     obtain⟨o,e,_⟩:=T.obj _ _ st6 b hb
     exact(pk b hb o e).2
    refine thn (tfh _ s7 sg7 H7 _ I7 q7) λb s8 ⟨H8,I8,q8⟩=>?_
    have hd8:s8.heap.get? D=some {cls:=.type "list",data:=.seq its.toArray nn}:=(I8.pin (D,_) (dH _ (eJ _ (bW.mpr rfl)))).1
    cases b with
    | false=>
     obtain⟨m',hm,w8⟩:=q8
     exact back I8 s8.heap (λ_ _ _ q=>q) hd8 rv' hm w8
    | true=>
     refine thn (teh _ s8 sg7 H8 _ I8 q8) λu9 s9 ⟨y9,H9,I9,r9,hz9,m',hm,w9⟩=>?_
     have hd9:s9.heap.get? D=some {cls:=.type "list",data:=.seq its.toArray nn}:=(I9.pin (D,_) (dH _ (eJ _ (bW.mpr rfl)))).1
     have hl:=rv'.length
     refine append_at (hsz:=by rw[cF,<-hl];exact hz) hd9 λh10 hs10 hd10=>?_
     refine back I9 h10 (λb o hb e=>(hs10.2 b hb).trans e) (its':=its++[u9]) (nn':=nn+1) (by rw[hd10,List.push_toArray]) (rv'.append (.cons r9 .nil)) hm w9
  ·rw[<-hheap,hD]
   exact cK _ rfl
 subst hD
 subst hC
 subst hs3
 exact codeAny_compStart_list (loop _ ⟨_,rfl⟩) (T.self X.A 0 _ _ _ (T.keep _ _ _ st2 λb hb o e=>hk b o (up b o e)) (loop _ ⟨_,rfl⟩))
def zcU(j:TI)(g:TG)(tf:TT)(te:TE)(ms:List (Option Nat)):TE:=λσ H Q=>j σ H λJ H1=>Vc J g tf te (blk ms σ) H1 λys H'=>∀p,H' p=none->Q (.ref p) (upd H' p (.lst ys))
theorem zbQ{elt tg iter:aG}{ifs:List aG}{scope:cB}{pos:aR}{N:List aC}{ms:List (Option Nat)}{wi:TI}{g:TG}{tf:TT}{te:TE} 
  (hc:X.calm=true) (ok:CompOk X.env.scope X.N scope N ms) (hi:PI X tg iter wi)
  (hb:∀cl C s H ex,PG (yP X scope cl C N s H ex) tg g/\PF (yP X scope cl C N s H ex) ifs tf/\PE (yP X scope cl C N s H ex) elt te)
  (hs:∀x,gM iter X.env x=pure x:=by intro _;rfl):PE X (.ListComp elt [⟨tg,iter,ifs,0⟩] scope pos) (zcU wi g tf te ms):=by
 intro pins s σ H Q I hw
 rw[eval_ListComp]
 refine JF (use:=none) hc ok hi hb hs I hw ?_
 intro D C s' ys H' m I' hn fin hns fp
 refine⟨m,hns,λh' sb=>?_⟩
 exact⟨.ref D,_,I'.turned (t':=s'.toks) (λb o hb e=>(sb.2 b hb).trans e) fp.1 fp.2.1 fp.2.2.2.1 fp.2.2.2.2.1 fp.2.2.2.2.2,rfl,fin D hn⟩
theorem XM{elt tg iter:aG}{ifs:List aG}{scope:cB}{pos spos py:aR}{N:List aC}{ms:List (Option Nat)}{wi:TI}{g:TG}{tf:TT}{te:TE}{i:Nat}{y:aC} 
  (hc:X.calm=true) (ok:CompOk X.env.scope X.N scope N ms) (hi:PI X tg iter wi)
  (hb:∀cl C s H ex,PG (yP X scope cl C N s H ex) tg g/\PF (yP X scope cl C N s H ex) ifs tf/\PE (yP X scope cl C N s H ex) elt te)
  (hN:X.N.Nodup) (hy:X.N[i]?=some y) (hx:Loc X.env.scope y)
  (hsw:dD (.ListComp elt [⟨tg,iter,ifs,0⟩] scope pos) (some (.Name y py)) spos.line X.env=pure true)
  (hf:X.fn y=true\/X.env.scope.names.lookup y=some .local:=by first|exact .inl rfl|exact .inr rfl|assumption)
  (hs:∀x,gM iter X.env x=pure x:=by intro _;rfl):PS X (.Assign [.Name y py] (.ListComp elt [⟨tg,iter,ifs,0⟩] scope pos) spos) (Uj (zcU wi g tf te ms) (vm i)):=by
 intro pins s σ H Dn I hw
 rw[exec_Assign_Name_used _ _ _ _ hsw]
 refine aI (lS (aI ?_))
 show wpAny _ X.A (do let _ <-oy (.ListComp elt [⟨tg,iter,ifs,0⟩] scope pos) scope X.env _ (newList []) false (aW iter X.env) (some (eS (.Name y py) X.env))) _ _ s
 refine aI (eB (JF (use:=some (eS (.Name y py) X.env)) (Q:=λ_ s'=>SP X pins Dn .next s') hc ok hi hb hs I hw ?_) (λ_ s' hq=>bJ (bJ hq)) λ_ _ e=>e)
 intro D C s' ys H' m I' hn fin hns fp
 show wpAny _ X.A (eS (.Name y py) X.env (.ref D)) _ _ s'
 refine nE (Qd I' hN hy hx (v:=.ref D) rfl (λs2 I2 sb=>?_) hf)
 obtain⟨a,sb,ha⟩:=sb
 have hne:C≠a:=by
  rcases ha with z|z
  ·rw[z];exact fp.2.1
  ·exact λq=>fp.2.2.2.2.1 y a z q.symm
 refine⟨m,hns.sameBut sb hne,λh' sb'=>?_⟩
 exact⟨_,_,I2.turned (t':=s2.toks) (λb o hb e=>(sb'.2 b hb).trans e) fp.1 fp.2.1 fp.2.2.2.1 fp.2.2.2.2.1 fp.2.2.2.2.2,fin D hn⟩
def zmE(K:aE)(tl:TE):TI:=λσ H R=>tl σ H λx H1=>∃a,x=.ref a/\(((∃xs,SqL K H1 a xs)/\R (Itl K a) H1)\/((∃xs,SqT K H1 a xs)/\R (Itt K a) H1))
theorem zjC(U:PE X l tl):PI X tg l (zmE X.K tl):=by
 intro pins s σ H R I h
 refine thn (U pins s σ H _ I h) λv s1 ⟨x,H1,j,r1,z⟩=>?_
 obtain⟨a,e,z⟩:=z
 subst e
 cases r1
 rcases z with⟨⟨xs,J⟩,q⟩|⟨⟨xs,J⟩,q⟩
 ·obtain⟨its,Y,p,Z⟩:=j.list J
  refine kG p.isList ?_
  refine⟨s1.heap.objs.size,[s1.heap.objs.size],_,_,H1,rfl,j.kept (t':=s1.toks) λb o e=>bB _ e,Qe a _,⟨_,cK _ rfl,rfl,rfl⟩,λb O=>?_,q⟩
  have e:b=s1.heap.objs.size:=by simpa using O
  subst e
  exact j.fpOk (aP _) (j.hok.fresh (aP _))
 ·obtain⟨its,Y,p,Z⟩:=j.tuple J
  refine iA (show s1.heap.IsTuple a its.toArray from p) ?_
  refine⟨s1.heap.objs.size,[s1.heap.objs.size],_,_,H1,rfl,j.kept (t':=s1.toks) λb o e=>bB _ e,W6 a _,⟨_,cK _ rfl,rfl,rfl⟩,λb O=>?_,q⟩
  have e:b=s1.heap.objs.size:=by simpa using O
  subst e
  exact j.fpOk (aP _) (j.hok.fresh (aP _))
end
end L2
namespace L2
open PySem PySem.Spec PyProof.Rows
open PySem.AutoSeq1 (wpAny_loadPart')
section
variable {prog:aS} {w:aO} {A:bG} {E:aB->aD->Prop} {s:aD}
theorem wL{q t:aA}{i:Nat}{items:Array aB}{x:aB}{Q:aB->aD->Prop}(j:s.heap.IsTupleIter q t i)(R:s.heap.IsTuple t items)(U:items[i]?=some x) 
  (Y:∀h',h'.IsTupleIter q t (i+1)->jB q s.heap h'->Q x {s with heap:=h'}):wpAny (aJ prog w) A (gT (.ref q)) Q E s:=by
 obtain⟨o,I,Z,z⟩:=id j
 obtain⟨ol,J,_,nl,O⟩:=R
 unfold gT
 refine aI (iR (name:=gF "__next__") j.typeIs kX
  (iS kX j.typeIs oz ?_ (oA _)))
 show wpAny _ _ (fM (.ref q) 0>>=_) _ _ s
 refine aI (eC I z (x:=.ref t) rfl ?_)
 show wpAny _ _ (if(Value.ref t==Value.none)=true then _ else _) _ _ s
 rw[if_neg (show ¬((Value.ref t==Value.none)=true)from cJ)]
 show wpAny _ _ (fM (.ref q) 1>>=_) _ _ s
 refine aI (eC I z (x:=.int i 0) rfl ?_)
 show wpAny _ _ (seqItems? (.ref t)>>=_) _ _ s
 refine aI (gG J O ?_)
 simp only[gH,U]
 refine aI (oB I z (by simp) (bJ ⟨x,rfl,bJ (Y _ ?_ (oC ..))⟩))
 exact⟨_,oa _ I (Obj.isFreed_of_fields (oE z _)),(Obj.cls_mapFields ..).trans Z,by
  rw[oE z];simp[fX]⟩
theorem wV{it t:aA}{i:Nat}{items:Array aB}{Q:aB->aD->Prop}(hh:A.handled=none) 
  (hit:s.heap.IsTupleIter it t i) (ht:s.heap.IsTuple t items) (hx:items[i]?=none)
  (hE:∀h' e,oF it s.heap h'->(∃o,h'.get? e=some o/\o.cls=.type "StopIteration")->E (.ref e) {s with heap:=h'}) :
  wpAny (aJ prog w) A (gT (.ref it)) Q E s:=by
 obtain⟨o,ho,hc,hd⟩:=id hit
 obtain⟨ol,hol,_,nl,hdl⟩:=ht
 unfold gT
 refine aI (iR (name:=gF "__next__") hit.typeIs kX
  (iS kX hit.typeIs oz ?_ (oA _)))
 show wpAny _ _ (fM (.ref it) 0>>=_) _ _ s
 refine aI (eC ho hd (x:=.ref t) rfl ?_)
 show wpAny _ _ (if(Value.ref t==Value.none)=true then _ else _) _ _ s
 rw[if_neg (show ¬((Value.ref t==Value.none)=true)from cJ)]
 show wpAny _ _ (fM (.ref it) 1>>=_) _ _ s
 refine aI (eC ho hd (x:=.int i 0) rfl ?_)
 show wpAny _ _ (seqItems? (.ref t)>>=_) _ _ s
 refine aI (gG hol hdl ?_)
 simp only[gH,hx]
 refine aI (kY (aI (oB ho hd (by simp) ?_)))
 show wpAny _ _ (newExc (.type "StopIteration") []>>=_) _ _ _
 refine aI ?_
 simp only[newExc,newTuple]
 refine aI (mG ?_ (by size_fits))
 refine aI (m:=oG _ _) (wpAny_of_eq (a:=Value.none) (by first|rfl|(simp only[oG];rfl)) ?_)
 refine mG ?_ (by size_fits)
 simp only[raiseNew]
 refine aI (wpAny_handled ?_)
 first|rw[show A.in1.handled=none from hh]|rw[hh]
 refine aI (bJ (wpAny_throw ?_))
 exact hE _ _ (((oC ..).extBut.push _).push _) ⟨_,cK _ rfl,rfl⟩
end
theorem zbu{prog:aS}{w:aO}{A:bG}(hh:A.handled=none)(it l:aA)(hne:l≠it)(items:Array aB):
  Draws prog w A it [it,l] items.size (λi v=>items[i]?=some v) (λi h=>h.IsTupleIter it l i/\h.IsTuple l items) where
 live:=λ_ _ st=>let ⟨o,ho,_⟩:=st.1;⟨o,ho⟩
 frame:=λ_ _ _ st hk=>⟨st.1.at λo e=>hk it (by simp) o e,(by obtain⟨o,e,r⟩:=st.2;exact⟨o,hk l (by simp) o e,r⟩)⟩
 item:=λi s Q E hi st hQ=>by
  refine wL st.1 st.2 (x:=items[i]) (by simp[hi]) λh' hit' hs'=>?_
  exact hQ _ h' s.toks (by simp[hi]) ⟨hit',st.2.extBut hs'.extBut hne⟩ hs'
 done:=λs Q E st hE=>wV hh st.1 st.2 (by simp) hE
theorem Vd(l:aA)(items:Array aB)(n:Nat)(dct:Option aA)(sl:Array (Option aB)):
  iT (fN.«enumerate.__new__» ⟨[.type "enumerate",.ref l],[]⟩) (λ_ R s=>s.heap.get? l=some {cls:=.type "tuple",dict:=dct,data:=.seq items n,slots:=sl}/\
   R (.ok (.ret (.ref (s.heap.push {cls:=.type "tuple_iterator",data:=.fields #[.ref l,.int 0 0]}).objs.size)))
    {s with heap:=(s.heap.push {cls:=.type "tuple_iterator",data:=.fields #[.ref l,.int 0 0]}).push {cls:=.type "enumerate",data:=.fields #[.none,.bool false,.ref s.heap.objs.size,fX 0,.none,.none]}}) :=
 .of_wp λprog w A R s h=>by
  obtain⟨hp,g,d,tk,os⟩:=s;obtain⟨hl,h⟩:=h
  have hsub:=sub_enumerate
  have hL:mH (mJ ⟨hp,g,d,tk,os⟩) l items:=⟨_,hl,rfl,n,rfl⟩
  wp_walk using wpAny_loadPart' hl
  refine wpAny_stack_any λst=>bJ ?_
  split
  ·rename_i c _ _ _ _ _
   cases (c==Value.type "enumerate")
   ·wp_walk using wpAny_loadPart' hl,iA hL
    exact⟨_,rfl,h⟩
   ·wp_walk using wpAny_loadPart' hl,iA hL
    exact⟨_,rfl,h⟩
  ·wp_walk using wpAny_loadPart' hl,iA hL
   exact⟨_,rfl,h⟩
theorem Ve{prog:aS}{w:aO}{A:bG}{E:aB->aD->Prop}{s:aD}{l:aA}{items:Array aB}{Q:aB->aD->Prop}(R:s.heap.IsTuple l items) 
  (h:∀h',kZ h' (s.heap.objs.size+1) s.heap.objs.size 0 .none->h'.IsTupleIter s.heap.objs.size l 0->h'.objs.size=s.heap.objs.size+2->
   (∀b o,s.heap.get? b=some o->h'.get? b=some o)->Q (.ref (s.heap.objs.size+1)) {s with heap:=h'}) :
  wpAny (aJ prog w) A (call (.type "enumerate") [.ref l]) Q E s:=by
 obtain⟨⟨c,j,U,Y⟩,Z,q,n,z⟩:=R
 replace q:c=.type "tuple":=q
 replace z:U=.seq items n:=z
 subst q z
 refine callType_new F.called_enumerate (by decide) (F.typeCall_enumerate_1 _) (F.newCall_enumerate_1 _) (λI=>F.args_object_init_2 I _) F.entry_enumerate_new
  (Vd l items n j Y) ⟨Z,?_⟩
 have J:(s.heap.push {cls:=.type "tuple_iterator",data:=.fields #[.ref l,.int 0 0]}).objs.size=s.heap.objs.size+1:=fJ ..
 show _/\_
 rw[J]
 have O:kZ ((s.heap.push {cls:=.type "tuple_iterator",data:=.fields #[.ref l,.int 0 0]}).push
   {cls:=.type "enumerate",data:=.fields #[.none,.bool false,.ref s.heap.objs.size,fX 0,.none,.none]}) (s.heap.objs.size+1) s.heap.objs.size 0 .none:=by
  have:=cK (s.heap.push {cls:=.type "tuple_iterator",data:=.fields #[.ref l,.int 0 0]})
   (o:={cls:=.type "enumerate",data:=.fields #[.none,.bool false,.ref s.heap.objs.size,fX 0,.none,.none]}) rfl
  rw[J]at this;exact this
 refine⟨⟨_,O,rfl⟩,h _ O ⟨_,bB _ (cK _ rfl),rfl,rfl⟩ (by rw[fJ,J]) λb o x=>bB _ (bB _ x)⟩
end L2
namespace L2
open PySem PySem.Spec PyProof.Rows
def Ite(rd:Hp->List V->Prop):It :=
 ⟨λi H=>∃xs x,rd H xs/\xs[i]?=some x,λi H x H'=>∃T v,H T=none/\H'=upd H T (.tup [.int i,v])/\x=.ref T/\∀xs,rd H xs->xs[i]?=some v,λi H=>∃xs,rd H xs/\xs.length<=i⟩
section
variable {X:Cx} {pins:List (aA×aL)} {σ:St} {H:Hp} {s:aD}
theorem Qn{e O:aA}{i:Nat}{v:V}{x:aB}{tk tk':Nat}{h':aK}(I:Inv X pins σ H s)(Z:wH X pins H e)(J:wH X pins H O)(rv:zQ v x) 
  (hT:h'.get? s.heap.objs.size=some {cls:=.type "tuple",data:=.seq #[.int i tk,x]}) (Y:∀b o,b≠e->b≠O->s.heap.get? b=some o->h'.get? b=some o) (th:∀b o,s.heap.get? b=some o->∃o',h'.get? b=some o') :
  Inv X pins σ (upd H s.heap.objs.size (.tup [.int i,v])) {s with heap:=h',toks:=tk'}:=by
 have U:H s.heap.objs.size=none:=I.hok.fresh (aP _)
 have fT:wH X pins H s.heap.objs.size:=I.fpOk (aP _) U
 have ch:∀b∈[s.heap.objs.size,e,O],wH X pins H b:=λb j=>by
  rcases aU.mp j with q|j
  ·rw[q];exact fT
  ·rcases aU.mp j with q|j
   ·rw[q];exact Z
   ·rw[bW.mp j];exact J
 have ne:∀b,b∉ [s.heap.objs.size,e,O]->b≠e/\b≠O:=λb j=>⟨λz=>j (by simp[z]),λz=>j (by simp[z])⟩
 have neT:∀b o,s.heap.get? b=some o->b≠s.heap.objs.size:=λb o q=>bT (bF q)
 refine I.step (g':=s.gens) (d':=s.drawn) (ch:=[s.heap.objs.size,e,O]) (λb j=>let ⟨_,q1,_,q2,q3,q4⟩:=ch b j;⟨q2,q1,q3,q4⟩)
  (λb o _ _ R q _=>Y b o (ne b R).1 (ne b R).2 q) (λb o _ _ R q _=>⟨o.slots,Y b o (ne b R).1 (ne b R).2 q⟩) (λb o R q n=>by rw[ze (neT b o q)];exact n) (λb o _ q=>th b o q)
  (λb xs q=>by rw[ze (zt q U)];exact q) (λb o u q=>by rw[ze (zt q U)];exact q) (λb ps q=>⟨#[],by rw[ze (zt q U),q];simp⟩) (λm hm=>?_) ?_ I.bare
 ·obtain⟨o,es,ep,ho,r⟩:=hm
  exact⟨o,es,ep,Y _ o (aQ Z.2.1) (aQ J.2.1) ho,r⟩
 ·refine HOk.track I.hok U (λb u nb q=>Y b u (λz=>nb (by rw[z];exact Z.1)) (λz=>nb (by rw[z];exact J.1)) q) ?_
  exact⟨by show 2<=aH;decide,[.int i tk,x],.cons ⟨tk,rfl⟩ (.cons rv .nil),⟨_,hT,rfl,_,rfl⟩⟩
end
theorem zcV{P:aS}{w:aO}{K:aE}{elts:List aG}{k:Nat}{tp:aR}(a it e:aA)(hei:e≠it):
  Turn P w K (.Tuple elts k tp) (Ite λH xs=>SqT K H a xs) [e,it] e (λi h=>(∃old,kZ h e it i old)/\h.IsTupleIter it a i) where
 mem:=by simp
 obj:=λi h st b hb=>by
  obtain⟨⟨old,he⟩,o,e1,c,d⟩:=st
  rcases aU.mp hb with q|hb
  ·subst q
   exact⟨_,he,λv z=>by
    have z':Data.fields _=Data.cell v:=z
    cases z'⟩
  ·rw[bW.mp hb]
   exact⟨o,e1,λv z=>by rw[d]at z;cases z⟩
 keep:=λi h h' st k=>⟨let ⟨old,he⟩:=st.1;⟨old,k e (by simp) _ he⟩,st.2.at λo q=>k it (by simp) o q⟩
 item:=by
  intro X hP hw hK hc i pins s σ H E I hf st hg
  subst hP hw hK
  obtain⟨xs,x,hq,hx⟩:=hg
  obtain⟨its,rv,p,hz⟩:=I.tuple hq
  obtain⟨u,hu,ru⟩:=rv.get hx
  obtain⟨⟨old,he⟩,hit⟩:=st
  have fe:=hf e (by simp)
  have fi:=hf it (by simp)
  have hai:a≠it:=λz=>by
   obtain⟨o,e1,c,_⟩:=p
   obtain⟨o2,e2,c2,_⟩:=hit
   rw[z,e2]at e1;cases e1;rw[c2]at c;exact absurd c (by simp)
  have hae:e∉ [it,a]:=λhm=>by
   rcases aU.mp hm with q|hm
   ·exact hei q
   ·have q:=bW.mp hm
    obtain⟨o,e1,c,_⟩:=p
    rw[<-q,he]at e1
    cases e1;simp at c
  refine oH (zbu (A:=X.A.in1) (I.ok.hd hc) it a hai its.toArray) he ⟨hit,p⟩ (by rw[cF];exact(bE.mp hu).1) hei hae λx' h' tk hP ho hs' hT hsz hk=>?_
  have hx':x'=u:=by
   have hP':its[i]?=some x':=by simpa using hP
   rw[hu]at hP';cases hP';rfl
  subst hx'
  refine⟨_,rfl,oI ho λh2 he2 hs2=>?_⟩
  have hk2:∀b o,b≠e->b≠it->s.heap.get? b=some o->h2.get? b=some o:=λb o n1 n2 q=>(hs2.2 b n1).trans (hk b o n1 n2 q)
  have hel:e≠s.heap.objs.size:=bT (bF he)
  have hit2:h2.IsTupleIter it a (i+1):=hs'.1.at λo q=>(hs2.2 it (aQ hei)).trans q
  have I2:=Qn (tk':=tk+1) (i:=i) (tk:=tk) (h':=h2) I fe fi ru ((hs2.2 _ (aQ hel)).trans hT) hk2 (λb o q=>by
   by_cases n1:b=e
   ·subst n1;exact⟨_,he2⟩
   ·by_cases n2:b=it
    ·subst n2;obtain⟨o',q',_⟩:=hit2;exact⟨o',q'⟩
    ·exact⟨o,hk2 b o n1 n2 q⟩)
  refine⟨.ref s.heap.objs.size,_,I2,rfl,⟨_,x,I.hok.fresh (aP _),rfl,rfl,λys hy=>by rw[I.tuple_inj hy hq];exact hx⟩,⟨⟨x',by simpa using he2⟩,hit2⟩,λb hb=>?_⟩
  have hb':wH X pins H b:=hf b hb
  rw[ze (λz=>?_)]
  ·exact hb'.1
  ·rcases aU.mp hb with q|hb
   ·exact hel (q.symm.trans z)
   ·have q:=bW.mp hb
    obtain⟨o,e1,_⟩:=hit
    exact bT (bF e1) (q.symm.trans z)
 done:=by
  intro X hP hw hK hc i pins s σ H E I hf st hg
  subst hP hw hK
  obtain⟨xs,hq,hx⟩:=hg
  obtain⟨its,rv,p,hz⟩:=I.tuple hq
  obtain⟨⟨old,he⟩,hit⟩:=st
  obtain⟨f0,f1,f2,f3,f4,f5⟩:=hf it (by simp)
  have hl:=rv.length
  have hai:a≠it:=λz=>by
   obtain⟨o,e1,c,_⟩:=p
   obtain⟨o2,e2,c2,_⟩:=hit
   rw[z,e2]at e1;cases e1;rw[c2]at c;exact absurd c (by simp)
  have hT:s.TypeIs (.ref e) "enumerate":=⟨_,he,rfl⟩
  unfold fA
  refine aI (jR (iR (name:=gF "__next__") hT k3
   (iS k3 hT oJ ?_ (oK _))))
  show wpAny _ _ (fM (.ref e) 2>>=_) _ _ _
  refine aI (eC he rfl (x:=.ref it) rfl ?_)
  refine aI (wV (A:=X.A.in1) (I.ok.hd hc) hit (show s.heap.IsTuple a its.toArray from p) (by simp;omega) λh' ex hx' ⟨o,ho,hcl⟩=>?_)
  refine aI (k4 (T:="StopIteration") (b:=true) ⟨o,ho,hcl⟩ mK ?_)
  exact bJ ⟨rfl,I.turned (t':=s.toks) (λb o hb q=>hx' b o hb q) f0 f1 f3 f4 f5⟩
 self:=λ_ _ _ _ _ st h=>let ⟨_,he⟩:=st.1;k6 he h
section
variable {X:Cx}
def zmF(K:aE)(ta:TA):TI:=λσ H R=>ta σ H λvs H1=>∃a,vs=[.ref a]/\(∃xs,SqT K H1 a xs)/\R (Ite λH xs=>SqT K H a xs) H1
theorem JG{a:aG}{ta:TA}{p pos tp:aR}{j:List aG}{k:Nat}(hg:Gl X "enumerate")(hm:X.mg "enumerate"=none)(ha:PA X [a] ta)(hs:bD [a] X.env=[(false,aW a X.env)]:=by rfl):
  PI X (.Tuple j k tp) (.Call (.Name "enumerate" p) [a] [] pos) (zmF X.K ta):=by
 intro pins s σ H R I h
 refine Call_ (Zb I hg hm oM (jE (thn (ha pos pins s σ H _ I h) λus s1 ⟨vs,H1,O,r1,q1⟩=>?_) hs rfl))
 obtain⟨l,e,⟨xs,hq⟩,q⟩:=q1
 subst e
 cases r1 with
 | cons r rr=>
  cases rr
  cases r
  obtain⟨its,rv,pt,hz⟩:=O.tuple hq
  refine Ve (items:=its.toArray) pt λh' Z U hsz hk=>?_
  refine k6 Z ?_
  have I2:Inv X pins σ H1 {s1 with heap:=h'}:=O.kept (t':=s1.toks) hk
  refine⟨s1.heap.objs.size+1,[s1.heap.objs.size+1,s1.heap.objs.size],_,_,H1,rfl,I2,zcV l s1.heap.objs.size (s1.heap.objs.size+1) (oO _),⟨⟨_,Z⟩,U⟩,λb Y=>?_,q⟩
  have J:s1.heap.objs.size<=b:=by
   rcases aU.mp Y with z|Y
   ·rw[z];exact kR _
   ·rw[bW.mp Y];exact aP _
  exact O.fpOk J (O.hok.fresh J)
end
end L2
namespace DD
open PySem PySem.Spec L2
open PyProof.Rows hiding St
inductive D where
 | non|bl (b:Bool)|int (i:Int)|str (x:aC)|scr (ns:List Int)|tup (xs:List D)|lst (xs:List D)|dK (ks:List Key) (vs:List D)|dT (ks:List (List Key)) (vs:List D)
mutual
def Is(K:aE)(F:Hp):D->V->Prop
 | .non,v=>v=.non
 | .bl b,v=>v=.bl b
 | .int i,v=>v=.int i
 | .str x,v=>v=.str x
 | .scr ns,v=>∃a,v=.ref a/\SqL K F a (ns.map V.int)
 | .tup ds,v=>∃a vs,v=.ref a/\F a=some (.tup vs)/\Are K F ds vs
 | .lst ds,v=>∃a vs,v=.ref a/\F a=some (.lst vs)/\Are K F ds vs
 | .dK ks ds,v=>∃a ws,v=.ref a/\F a=some (.dK ws)/\ws.map cC=ks/\Are K F ds (ws.map fO)
 | .dT ks ds,v=>∃a ws,v=.ref a/\F a=some (.dT ws)/\ws.map cC=ks/\Are K F ds (ws.map fO)
def Are(K:aE)(F:Hp):List D->List V->Prop
 | [],vs=>vs=[]
 | d::ds,vs=>∃v r,vs=v::r/\Is K F d v/\Are K F ds r
end
section
variable {K:aE} {F F' H H':Hp}
mutual
theorem Is.mono(s:zw F F'):∀(d:D) {v:V},Is K F d v->Is K F' d v
 | .non,_,h=>by simpa[Is]using h
 | .bl _,_,h=>by simpa[Is]using h
 | .int _,_,h=>by simpa[Is]using h
 | .str _,_,h=>by simpa[Is]using h
 | .scr ns,_,h=>by
  simp only[Is]at h ⊢
  obtain⟨a,e,j⟩:=h
  exact⟨a,e,s.seq j⟩
 | .tup ds,_,h=>by
  simp only[Is]at h ⊢
  obtain⟨a,vs,e,j,r⟩:=h
  exact⟨a,vs,e,s _ _ j,Are.mono s ds r⟩
 | .lst ds,_,h=>by
  simp only[Is]at h ⊢
  obtain⟨a,vs,e,j,r⟩:=h
  exact⟨a,vs,e,s _ _ j,Are.mono s ds r⟩
 | .dK ks ds,_,h=>by
  simp only[Is]at h ⊢
  obtain⟨a,ws,e,j,q,r⟩:=h
  exact⟨a,ws,e,s _ _ j,q,Are.mono s ds r⟩
 | .dT ks ds,_,h=>by
  simp only[Is]at h ⊢
  obtain⟨a,ws,e,j,q,r⟩:=h
  exact⟨a,ws,e,s _ _ j,q,Are.mono s ds r⟩
theorem Are.mono(s:zw F F'):∀(ds:List D) {vs:List V},Are K F ds vs->Are K F' ds vs
 | [],_,h=>by simpa[Are]using h
 | d::ds,_,h=>by
  simp only[Are]at h ⊢
  obtain⟨v,r,e,h1,h2⟩:=h
  exact⟨v,r,e,Is.mono s d h1,Are.mono s ds h2⟩
end
theorem Are.nil:Are K F [] []:=by simp[Are]
theorem Are.cons(h:Is K F d v)(r:Are K F ds vs):Are K F (d::ds) (v::vs):=by
 simp only[Are]
 exact⟨v,vs,rfl,h,r⟩
theorem Are.inv(h:Are K F (d::ds) vs):∃v r,vs=v::r/\Is K F d v/\Are K F ds r:=by
 simpa only[Are]using h
theorem Are.inv0(h:Are K F [] vs):vs=[]:=by simpa only[Are]using h
theorem Are.length:∀{ds:List D} {vs:List V},Are K F ds vs->vs.length=ds.length
 | [],_,h=>by rw[h.inv0];rfl
 | d::ds,_,h=>by
  obtain⟨v,r,e,_,q⟩:=h.inv
  rw[e,cD,cD,q.length]
theorem Are.get:∀{ds:List D} {vs:List V} {i:Nat} {d:D},Are K F ds vs->ds[i]?=some d->∃v,vs[i]?=some v/\Is K F d v
 | [],_,_,_,_,e=>by simp at e
 | x::ds,_,0,d,h,e=>by
  obtain⟨v,r,j,q,_⟩:=h.inv
  simp at e;subst e;subst j
  exact⟨v,rfl,q⟩
 | x::ds,_,i+1,d,h,e=>by
  obtain⟨v,r,j,_,q⟩:=h.inv
  subst j
  obtain⟨u,h1,h2⟩:=Are.get (i:=i) (d:=d) q (by simpa using e)
  exact⟨u,by simpa using h1,h2⟩
theorem Are.append:∀{ds es:List D} {vs us:List V},Are K F ds vs->Are K F es us->Are K F (ds++es) (vs++us)
 | [],_,_,_,h,q=>by rw[h.inv0];exact q
 | d::ds,_,_,_,h,q=>by
  obtain⟨v,r,e,h1,h2⟩:=h.inv
  subst e
  exact .cons h1 (Are.append h2 q)
theorem Are.set(j:Is K F x u):∀{ds:List D} {vs:List V} (n:Nat),Are K F ds vs->Are K F (ds.set n x) (vs.set n u)
 | [],_,_,h=>by rw[h.inv0];exact .nil
 | d::ds,_,0,h=>by
  obtain⟨v,r,e,h1,h2⟩:=h.inv
  subst e
  exact .cons j h2
 | d::ds,_,n+1,h=>by
  obtain⟨v,r,e,h1,h2⟩:=h.inv
  subst e
  exact .cons h1 (Are.set j n h2)
theorem zfX(s:zw F F')(h:SqT K F a xs):SqT K F' a xs:=by
 rcases h with(h|⟨o,h⟩)|h
 ·exact .inl (.inl (s _ _ h))
 ·exact .inl (.inr ⟨o,s _ _ h⟩)
 ·exact .inr h
end
structure Ext (F H F' H':Hp):Prop where
 ff:zw F F'
 hh:zw H H'
 fh:zw F' H'
 new:∀b,F b=none->F' b≠none->H b=none
theorem Ext.refl(s:zw F H):Ext F H F H:=⟨zw.refl _,zw.refl _,s,λ_ h1 h2=>absurd h1 h2⟩
theorem Ext.trans(a:Ext F H j H1)(b:Ext j H1 z H2):Ext F H z H2 :=
 ⟨a.ff.trans b.ff,a.hh.trans b.hh,b.fh,λc h1 h2=>by
  by_cases q:j c=none
  ·exact a.hh.free (b.new c q h2)
  ·exact a.new c h1 q⟩
theorem zK(h:H p=none)(o:HO):zw H (upd H p o):=λb u q=>by rw[ze (zt q h)];exact q
theorem Y9(s:zw F H)(o:HO):zw (upd F p o) (upd H p o):=λb u q=>by
 by_cases e:b=p
 ·subst e;rw[zk]at q ⊢;exact q
 ·rw[ze e]at q ⊢;exact s _ _ q
theorem Ext.freed(e:Ext F H F' H')(h:F a=none)(n:H a≠none):F' a=none:=by
 cases z:F' a with
 | none=>rfl
 | some u=>exact absurd (e.new a h (by rw[z];simp)) n
theorem Ext.fix(s:zw F H)(h:H p=none)(o:HO):Ext F H (upd F p o) (upd H p o) :=
 ⟨zK (s.free h) o,zK h o,Y9 s o,λb h1 h2=>by
  by_cases e:b=p
  ·subst e;exact h
  ·rw[ze e]at h2;exact absurd h1 h2⟩
theorem Ext.own(s:zw F H)(h:H p=none)(o:HO):Ext F H F (upd H p o) :=
 ⟨zw.refl _,zK h o,λb u q=>zK h o b u (s b u q),λb h1 h2=>absurd h1 h2⟩
theorem Ext.turn(e:Ext F0 H0 F H)(j:H0 p=none)(z:F p=none)(o:HO):Ext F0 H0 F (upd H p o) :=
 ⟨e.ff,λb u q=>by rw[ze (zt q j)];exact e.hh b u q,λb u q=>by rw[ze (zt q z)];exact e.fh b u q,e.new⟩
theorem Ext.freeze(e:Ext F0 H0 F H)(j:H0 p=none)(I:F p=none)(J:H p=some o):Ext F0 H0 (upd F p o) H :=
 ⟨λb u q=>zK I o b u (e.ff b u q),e.hh,λb u q=>by
  by_cases z:b=p
  ·subst z;rw[zk]at q;rw[J,q]
  ·rw[ze z]at q;exact e.fh b u q,λb h1 h2=>by
  by_cases z:b=p
  ·subst z;exact j
  ·rw[ze z]at h2;exact e.new b h1 h2⟩
inductive S where
 | un|v (d:D)|ol (ds:List D)|ot (kvs:List (List Key×D))|ok (kvs:List (Key×D))
abbrev G:=List S
def S.own:S->Bool
 | .un=>false|.v _=>false|_=>true
def we{κ:Type}(K:aE)(F:Hp):List (κ×D)->List (κ×V)->Prop:=Paired λp q=>p.1=q.1/\Is K F p.2 q.2
theorem we.mono{κ:Type}{K:aE}{F F':Hp}(s:zw F F'){ps:List (κ×D)}{q:List (κ×V)}(h:we K F ps q):we K F' ps q:=Paired.mapP h λ_ _ j=>by obtain⟨a,b⟩:=j;exact⟨a,b.mono s⟩
def SIs(K:aE)(H0 F H:Hp):S->Option V->Prop
 | .un,_=>True
 | .v d,o=>∃v,o=some v/\Is K F d v
 | .ol ds,o=>∃a vs,o=some (.ref a)/\H a=some (.lst vs)/\Are K F ds vs/\F a=none/\H0 a=none
 | .ot kvs,o=>∃a ws,o=some (.ref a)/\H a=some (.dT ws)/\we K F kvs ws/\F a=none/\H0 a=none
 | .ok kvs,o=>∃a ws,o=some (.ref a)/\H a=some (.dK ws)/\we K F kvs ws/\F a=none/\H0 a=none
structure EnvIs (K:aE) (F0 H0 F H:Hp) (σ:St) (Γ:G):Prop where
 ext:Ext F0 H0 F H
 len:σ.length=Γ.length
 val:∀(i:Nat) s,Γ[i]?=some s->∃o,σ[i]?=some o/\SIs K H0 F H s o
 sep:∀(i j:Nat) s t a,i≠j->Γ[i]?=some s->Γ[j]?=some t->s.own=true->t.own=true->σ[i]?=some (some (.ref a))->σ[j]?=some (some (.ref a))->False
section
variable {K:aE} {F0 H0 F H F' H':Hp} {σ:St} {Γ:G}
theorem SIs.ext(h:SIs K H0 F H s o)(e:Ext F H F' H'):SIs K H0 F' H' s o:=by
 cases s with
 | un=>trivial
 | v d=>obtain⟨v,z,q⟩:=h;exact⟨v,z,q.mono e.ff⟩
 | ol ds=>obtain⟨a,vs,z,j,I,J,O⟩:=h;exact⟨a,vs,z,e.hh _ _ j,I.mono e.ff,e.freed J (by rw[j];simp),O⟩
 | ot kvs=>obtain⟨a,vs,z,j,I,J,O⟩:=h;exact⟨a,vs,z,e.hh _ _ j,I.mono e.ff,e.freed J (by rw[j];simp),O⟩
 | ok kvs=>obtain⟨a,vs,z,j,I,J,O⟩:=h;exact⟨a,vs,z,e.hh _ _ j,I.mono e.ff,e.freed J (by rw[j];simp),O⟩
theorem EnvIs.grow(E:EnvIs K F0 H0 F H σ Γ)(e:Ext F H F' H'):EnvIs K F0 H0 F' H' σ Γ :=
 ⟨E.ext.trans e,E.len,λi s h=>let ⟨o,h1,h2⟩:=E.val i s h;⟨o,h1,h2.ext e⟩,E.sep⟩
theorem EnvIs.fh(E:EnvIs K F0 H0 F H σ Γ):zw F H:=E.ext.fh
theorem EnvIs.put(E:EnvIs K F0 H0 F H σ Γ)(h:Is K F d v):EnvIs K F0 H0 F H (σ.set i (some v)) (Γ.set i (.v d)):=by
 refine⟨E.ext,by simpa using E.len,λj s e=>?_,λj k s t a I J O R U r1 r2=>?_⟩
 ·by_cases Y:j=i
  ·subst Y
   have q:j<Γ.length:=by
    have:=(bE.mp e).1;simpa using this
   rw[eQ q]at e
   cases e
   exact⟨some v,eQ (by rw[E.len];exact q),v,rfl,h⟩
  ·rw[dX (aQ Y)]at e ⊢
   exact E.val j s e
 ·have Z:∀(k:Nat) (t:S),(Γ.set i (.v d))[k]?=some t->t.own=true->k≠i:=λk t e o z=>by
   subst z
   have q:k<Γ.length:=by
    have:=(bE.mp e).1;simpa using this
   rw[eQ q]at e
   cases e;cases o
  have n1:=Z j s J R
  have n2:=Z k t O U
  rw[dX (aQ n1)]at J r1
  rw[dX (aQ n2)]at O r2
  exact E.sep j k s t a I J O R U r1 r2
theorem EnvIs.putOwn(E:EnvIs K F0 H0 F H σ Γ)(h:SIs K H0 F H s0 (some (.ref a)))(U:∀(j:Nat) s,j≠i->Γ[j]?=some s->s.own=true->σ[j]?≠some (some (.ref a))):
  EnvIs K F0 H0 F H (σ.set i (some (.ref a))) (Γ.set i s0):=by
 refine⟨E.ext,by simpa using E.len,λj s e=>?_,λj k s t b I O R Y Z r1 r2=>?_⟩
 ·by_cases z:j=i
  ·subst z
   have q:j<Γ.length:=by
    have:=(bE.mp e).1;simpa using this
   rw[eQ q]at e
   cases e
   exact⟨_,eQ (by rw[E.len];exact q),h⟩
  ·rw[dX (aQ z)]at e ⊢
   exact E.val j s e
 ·by_cases z:j=i
  ·subst z
   have J:k≠j:=aQ I
   have q:j<σ.length:=by
    have:=(bE.mp r1).1;simpa using this
   rw[eQ q]at r1
   cases r1
   rw[dX (aQ J)]at R r2
   exact U k t J R Z r2
  ·by_cases J:k=i
   ·subst J
    have q:k<σ.length:=by
     have:=(bE.mp r2).1;simpa using this
    rw[eQ q]at r2
    cases r2
    rw[dX (aQ z)]at O r1
    exact U j s z O Y r1
   ·rw[dX (aQ z)]at O r1
    rw[dX (aQ J)]at R r2
    exact E.sep j k s t b I O R Y Z r1 r2
end
inductive Ty where
 | non|bl|int|str|tup|lst
 deriving DecidableEq
def Ty.name:Ty->String
 | .non=>"NoneType"|.bl=>"bool"|.int=>"int"|.str=>"str"|.tup=>"tuple"|.lst=>"list"
inductive B where
 | d (d:D)|l (ds:List D)|c (ds:List D)|t (kvs:List (List Key×D))|k (kvs:List (Key×D))|ty (c:Ty)
def BIs(K:aE)(F H:Hp):B->V->Prop
 | .d d,v=>Is K F d v
 | .l ds,v=>∃a vs,v=.ref a/\H a=some (.lst vs)/\Are K F ds vs
 | .c ds,v=>∃a vs,v=.ref a/\SqT K H a vs/\Are K F ds vs
 | .t kvs,v=>∃a ws,v=.ref a/\H a=some (.dT ws)/\we K F kvs ws
 | .k kvs,v=>∃a ws,v=.ref a/\H a=some (.dK ws)/\we K F kvs ws
 | .ty c,v=>v=.ty c.name
theorem BIs.ext{K:aE}{F H F' H':Hp}{b:B}{v:V}(h:BIs K F H b v)(e:Ext F H F' H'):BIs K F' H' b v:=by
 cases b with
 | d d=>exact Is.mono e.ff d h
 | l ds=>obtain⟨a,vs,j,q,r⟩:=h;exact⟨a,vs,j,e.hh _ _ q,r.mono e.ff⟩
 | c ds=>obtain⟨a,vs,j,q,r⟩:=h;exact⟨a,vs,j,zfX e.hh q,r.mono e.ff⟩
 | t kvs=>obtain⟨a,ws,j,q,r⟩:=h;exact⟨a,ws,j,e.hh _ _ q,r.mono e.ff⟩
 | k kvs=>obtain⟨a,ws,j,q,r⟩:=h;exact⟨a,ws,j,e.hh _ _ q,r.mono e.ff⟩
 | ty c=>exact h
def S.look:S->Option B
 | .un=>none
 | .v d=>some (.d d)
 | .ol ds=>some (.l ds)
 | .ot kvs=>some (.t kvs)
 | .ok kvs=>some (.k kvs)
def B.asD:B->Option D
 | .d x=>some x
 | _=>none
def dE(K:aE)(f:G->Option B):TE:=λσ H Q=>∃F0 H0 F Γ b,EnvIs K F0 H0 F H σ Γ/\f Γ=some b/\∀v F' H',Ext F H F' H'->BIs K F' H' b v->Q v H'
def dT(K:aE)(f:G->Option Bool):TT:=λσ H Q=>∃F0 H0 F Γ b,EnvIs K F0 H0 F H σ Γ/\f Γ=some b/\∀F' H',Ext F H F' H'->Q b H'
abbrev zcW(K:aE)(F H:Hp):List B->List V->Prop:=Paired (BIs K F H)
def dA(K:aE)(f:G->Option (List B)):TA:=λσ H Q=>∃F0 H0 F Γ ds,EnvIs K F0 H0 F H σ Γ/\f Γ=some ds/\∀vs F' H',Ext F H F' H'->zcW K F' H' ds vs->Q vs H'
def dL(K:aE)(f:G->Option (List D)):TE:=λσ H Q=>∃F0 H0 F Γ ds,EnvIs K F0 H0 F H σ Γ/\f Γ=some ds/\
 ∀a vs F' H',Ext F H F' H'->H a=none->F' a=none->H' a=some (.lst vs)->Are K F' ds vs->Q (.ref a) H'
inductive Out where
 | nx (g:G)|rt (d:D)|bk (g:G)|ct (g:G)
def Jd(K:aE)(F0 H0 j:Hp)(E:Ends):Out->Prop
 | .nx g=>∀σ F H,EnvIs K F0 H0 F H σ g->zw j F->E.nx σ H
 | .bk g=>∀σ F H,EnvIs K F0 H0 F H σ g->zw j F->E.bk σ H
 | .ct g=>∀σ F H,EnvIs K F0 H0 F H σ g->zw j F->E.ct σ H
 | .rt d=>∀v F H,Ext F0 H0 F H->Is K F d v->E.rt v H
theorem Jd.mono{K:aE}{F0 H0 q I:Hp}{E:Ends}{o:Out}(h:Jd K F0 H0 q E o)(s:zw q I):Jd K F0 H0 I E o:=by
 cases o with
 | nx g=>exact λσ F H j z=>h σ F H j (s.trans z)
 | bk g=>exact λσ F H j z=>h σ F H j (s.trans z)
 | ct g=>exact λσ F H j z=>h σ F H j (s.trans z)
 | rt d=>exact h
def dS(K:aE)(f:G->Option Out):TS:=λE σ H=>∃F0 H0 F Γ o,EnvIs K F0 H0 F H σ Γ/\f Γ=some o/\Jd K F0 H0 F E o
def EE(X:Cx)(e:aG)(f:G->Option B):Prop:=PE X e (dE X.K f)
def ET(X:Cx)(e:aG)(f:G->Option Bool):Prop:=PT X e (dT X.K f)
def EW(X:Cx)(e:aG)(f:G->Option Bool):Prop:=PW X e (dT X.K f)
def EA(X:Cx)(es:List aG)(f:G->Option (List B)):Prop:=PA X es (dA X.K f)
def EL(X:Cx)(e:aG)(f:G->Option (List D)):Prop:=PE X e (dL X.K f)
def SD(X:Cx)(st:aM)(f:G->Option Out):Prop:=PS X st (dS X.K f)
def SDs(X:Cx)(st:List aM)(f:G->Option Out):Prop:=PSs X st (dS X.K f)
section
variable {X:Cx}
theorem yV(h:PE X e t)(w:∀σ H Q,t' σ H Q->t σ H Q):PE X e t':=λpins s σ H Q I q=>h pins s σ H Q I (w σ H Q q)
theorem Um(h:PT X e t)(w:∀σ H Q,t' σ H Q->t σ H Q):PT X e t':=λpins s σ H Q I q=>h pins s σ H Q I (w σ H Q q)
theorem zig(h:PW X e t)(w:∀σ H Q,t' σ H Q->t σ H Q):PW X e t':=λj pins s σ H Q I q=>h j pins s σ H Q I (w σ H Q q)
theorem zbR(h:PA X e t)(w:∀σ H Q,t' σ H Q->t σ H Q):PA X e t':=λp pins s σ H Q I q=>h p pins s σ H Q I (w σ H Q q)
theorem xa{st:aM}{t t':TS}(h:PS X st t)(w:∀E σ H,t' E σ H->t E σ H):PS X st t':=λpins s σ H E I q=>h pins s σ H E I (w E σ H q)
theorem Wx{st:List aM}{t t':TS}(h:PSs X st t)(w:∀E σ H,t' E σ H->t E σ H):PSs X st t':=λpins s σ H E I q=>h pins s σ H E I (w E σ H q)
theorem zbS(h:PG X e t)(w:∀v σ H Q,t' v σ H Q->t v σ H Q):PG X e t':=λpins s σ H v u Q I r q=>h pins s σ H v u Q I r (w v σ H Q q)
def za(i:Nat):G->Option B:=λΓ=>Γ[i]?.bind S.look
theorem zd(h:PE X (.Name x pos) (vN i)):EE X (.Name x pos) (za i):=yV h λσ H Q j=>by
 obtain⟨F0,H0,F,Γ,b,E,e,q⟩:=j
 unfold za at e
 cases z:Γ[i]? with
 | none=>rw[z]at e;cases e
 | some s=>
  rw[z]at e
  have I:s.look=some b:=e
  obtain⟨o,h1,h2⟩:=E.val i s z
  cases s with
  | un=>cases I
  | v d=>cases I;obtain⟨v,rfl,r⟩:=h2;exact⟨v,h1,q v F H (.refl E.fh) r⟩
  | ol ds=>cases I;obtain⟨a,vs,rfl,r1,r2,_⟩:=h2;exact⟨_,h1,q _ F H (.refl E.fh) ⟨a,vs,rfl,r1,r2⟩⟩
  | ot kvs=>cases I;obtain⟨a,vs,rfl,r1,r2,_⟩:=h2;exact⟨_,h1,q _ F H (.refl E.fh) ⟨a,vs,rfl,r1,r2⟩⟩
  | ok kvs=>cases I;obtain⟨a,vs,rfl,r1,r2,_⟩:=h2;exact⟨_,h1,q _ F H (.refl E.fh) ⟨a,vs,rfl,r1,r2⟩⟩
def xC(d:D):G->Option B:=λ_=>some (.d d)
theorem XN(h:PE X e (tC v))(r:∀F,Is X.K F d v):EE X e (xC d):=yV h λσ H Q j=>by
 obtain⟨F0,H0,F,Γ,b,E,e,q⟩:=j
 cases e
 exact q v F H (.refl E.fh) (r F)
theorem zj{i j pos}:EE X (.Constant (.int i) j pos) (xC (.int i)):=XN wk λF=>by simp[Is]
theorem vY{i j pos}:EE X (.Constant (.bool i) j pos) (xC (.bl i)):=XN uQ λF=>by simp[Is]
theorem ux{i j pos}:EE X (.Constant (.str i) j pos) (xC (.str i)):=XN zji λF=>by simp[Is]
theorem Z2{x:aC}{i:Int}{t:cU}{pos:aR}(j:Gl X x)(q:X.mg x=some (.int i t))(z:(x==("__debug__":aC))=false:=by decide):EE X (.Name x pos) (xC (.int i)):=XN (Ui j q (v:=.int i) ⟨t,rfl⟩ z) λF=>by simp[Is]
end
section
variable {X:Cx} {a b c e:aG} {f g h:G->Option B} {pos:aR}
def OpB(K:aE)(r:R2)(m:B->B->Option D):Prop:=∀F H x y v u d Q,zw F H->BIs K F H x v->BIs K F H y u->m x y=some d->(∀w F' H',Ext F H F' H'->Is K F' d w->Q w H')->r v u H Q
def x2(m:B->B->Option D)(f g:G->Option B):G->Option B:=λΓ=>(f Γ).bind λx=>(g Γ).bind λy=>(m x y).map B.d
theorem uh(e:x2 m f g Γ=some z):∃x y d,f Γ=some x/\g Γ=some y/\m x y=some d/\z=.d d:=by
 unfold x2 at e
 cases j:f Γ with
 | none=>rw[j]at e;cases e
 | some x=>
  cases I:g Γ with
  | none=>rw[j,I]at e;cases e
  | some y=>
   rw[j,I]at e
   cases q:m x y with
   | none=>simp[q]at e
   | some d=>simp[q]at e;exact⟨x,y,d,rfl,rfl,q,e.symm⟩
theorem zX(O:OpR X (dM op) r)(R:OpB X.K r m)(U:EE X a f)(Y:EE X b g):EE X (.BinOp a op b pos) (x2 m f g) :=
 yV (zcI O U Y) λσ H Q j=>by
  obtain⟨F0,H0,F,Γ,z,E,e,q⟩:=j
  obtain⟨x,y,d,Z,hy,hd,rfl⟩:=uh e
  exact⟨F0,H0,F,Γ,x,E,Z,λv F1 H1 J r1=>⟨F0,H0,F1,Γ,y,E.grow J,hy,λu F2 H2 I r2=>R F2 H2 x y v u d Q I.fh (r1.ext I) r2 hd λw F' H' e3 r3=>q w F' H' ((J.trans I).trans e3) r3⟩⟩
theorem Zw(O:OpR X (cP op) r)(R:OpB X.K r m)(U:EE X a f)(Y:EE X b g)(Z:hX op b=false):EE X (.Compare a [op] [b] pos) (x2 m f g) :=
 yV (Uk O U Y Z) λσ H Q j=>by
  obtain⟨F0,H0,F,Γ,z,E,e,q⟩:=j
  obtain⟨x,y,d,hx,hy,hd,rfl⟩:=uh e
  exact⟨F0,H0,F,Γ,x,E,hx,λv F1 H1 J r1=>⟨F0,H0,F1,Γ,y,E.grow J,hy,λu F2 H2 I r2=>R F2 H2 x y v u d Q I.fh (r1.ext I) r2 hd λw F' H' e3 r3=>q w F' H' ((J.trans I).trans e3) r3⟩⟩
def B.tst:B->Option Bool
 | .d (.bl b)=>some b
 | _=>none
def xT(f:G->Option B):G->Option Bool:=λΓ=>(f Γ).bind B.tst
theorem Uo(e:xT f Γ=some z):f Γ=some (.d (.bl z)):=by
 unfold xT at e
 cases q:f Γ with
 | none=>rw[q]at e;cases e
 | some x=>
  rw[q]at e
  have j:x.tst=some z:=e
  unfold B.tst at j
  split at j
  ·cases j;rfl
  ·cases j
theorem xM(O:OpR X (cP op) r)(R:OpB X.K r m)(U:EE X a f)(Y:EE X b g)(Z:hX op b=false):ET X (.Compare a [op] [b] pos) (xT (x2 m f g)) :=
 Um (ZY O U Y Z) λσ H Q j=>by
  obtain⟨F0,H0,F,Γ,z,E,e,q⟩:=j
  obtain⟨x,y,d,hx,hy,hd,hz⟩:=uh (Uo e)
  cases hz
  exact⟨F0,H0,F,Γ,x,E,hx,λv F1 H1 J r1=>⟨F0,H0,F1,Γ,y,E.grow J,hy,λu F2 H2 I r2=>R F2 H2 x y v u _ _ I.fh (r1.ext I) r2 hd λw F' H' e3 r3=>⟨z,by simpa[Is]using r3,q F' H' ((J.trans I).trans e3)⟩⟩⟩
theorem xh(O:EE X a f)(R:∀j,iI a X.env j=(do let v <-j;iL a.pos;eZ [v] (truthy v)):=by intro _;rfl):ET X a (xT f) :=
 Um (W3 O R) λσ H Q ⟨F0,H0,F,Γ,z,E,e,q⟩=>⟨F0,H0,F,Γ,_,E,Uo e,λv J H1 U r1=>⟨z,by
  have I:Is X.K J (.bl z) v:=r1
  simpa[Is]using I,q J H1 U⟩⟩
variable {tf tg:G->Option Bool} {rest:List aG}
def xOr(f g:G->Option Bool):G->Option Bool:=λΓ=>(f Γ).bind λx=>if x=true then some true else g Γ
def va(f:G->Option Bool):G->Option Bool:=λΓ=>(f Γ).map (!·)
theorem bind_some{α β:Type}{o:Option α}{k:α->Option β}{z:β}(e:o.bind k=some z):∃x,o=some x/\k x=some z:=by
 cases o with
 | none=>cases e
 | some x=>exact⟨x,rfl,e⟩
theorem Vf(j:ET X a tf):EW X (.BoolOp .Or [a] pos) tf:=zeo j
theorem JH(O:ET X a tf)(R:EW X (.BoolOp .Or (b::rest) pos) tg):EW X (.BoolOp .Or (a::b::rest) pos) (xOr tf tg) :=
 zig (zhI O R) λσ H Q j=>by
  obtain⟨F0,H0,F,Γ,z,E,e,q⟩:=j
  obtain⟨x,U,e⟩:=bind_some e
  refine⟨F0,H0,F,Γ,x,E,U,λJ H1 I=>?_⟩
  cases x with
  | true=>cases e;exact q J H1 I
  | false=>exact⟨F0,H0,J,Γ,z,E.grow I,e,λY H2 Z=>q Y H2 (I.trans Z)⟩
theorem t_w(h:EW X e tf):ET X e tf:=PW.pt h
theorem ve(J:ET X a tf):ET X (.UnaryOp .Not a pos) (va tf) :=
 Um (zjj J) λσ H Q j=>by
  obtain⟨F0,H0,F,Γ,z,E,e,q⟩:=j
  unfold va at e
  cases I:tf Γ with
  | none=>rw[I]at e;cases e
  | some x=>rw[I]at e;cases e;exact⟨F0,H0,F,Γ,x,E,I,λO H1 R=>q O H1 R⟩
def Yw(f g:G->Option B):G->Option B:=λΓ=>(xT f Γ).bind λx=>if x=true then g Γ else some (.d (.bl false))
theorem zk9{K:aE}{F H:Hp}{b:Bool}{v:V}(h:BIs K F H (.d (.bl b)) v):v=.bl b:=by
 have h':Is K F (.bl b) v:=h
 simpa[Is]using h'
theorem zhL{K:aE}{F H:Hp}{b:Bool}:BIs K F H (.d (.bl b)) (.bl b):=by
 show Is K F (.bl b) (.bl b)
 simp[Is]
theorem Vg{op}(j:EE X a f):EE X (.BoolOp op [a] pos) f:=zjk j
theorem Vh(O:EE X a f)(R:EE X (.BoolOp .And (b::rest) pos) g):EE X (.BoolOp .And (a::b::rest) pos) (Yw f g) :=
 yV (zjl O R) λσ H Q j=>by
  obtain⟨F0,H0,F,Γ,z,E,e,q⟩:=j
  obtain⟨x,U,e⟩:=bind_some e
  refine⟨F0,H0,F,Γ,_,E,Uo U,λv J H1 I r1=>⟨x,zk9 r1,?_⟩⟩
  cases x with
  | true=>exact⟨F0,H0,J,Γ,z,E.grow I,e,λv Y H2 Z r2=>q v Y H2 (I.trans Z) r2⟩
  | false=>cases e;exact q _ J H1 I zhL
def xIf(t:G->Option Bool)(f g:G->Option B):G->Option B:=λΓ=>(t Γ).bind λx=>if x=true then f Γ else g Γ
theorem zfY(U:ET X c tf)(Y:EE X a f)(Z:EE X b g):EE X (.IfExp c a b pos) (xIf tf f g) :=
 yV (JB U Y Z) λσ H Q j=>by
  obtain⟨F0,H0,F,Γ,z,E,e,q⟩:=j
  obtain⟨x,hx,e⟩:=bind_some e
  refine⟨F0,H0,F,Γ,x,E,hx,λR H1 I=>?_⟩
  cases x with
  | true=>exact⟨F0,H0,R,Γ,z,E.grow I,e,λv J H2 O r2=>q v J H2 (I.trans O) r2⟩
  | false=>exact⟨F0,H0,R,Γ,z,E.grow I,e,λv J H2 O r2=>q v J H2 (I.trans O) r2⟩
def x3(m j:B->B->Option D)(f g h:G->Option B):G->Option B:=λΓ=>(f Γ).bind λx=>(g Γ).bind λy=>((m x y).bind λz=>B.tst (.d z)).bind λk=>
 if k=true then(h Γ).bind λw=>(j y w).map B.d else some (.d (.bl false))
theorem zfZ(e:B.tst (.d d)=some k):d=.bl k:=by
 unfold B.tst at e
 split at e
 ·rename_i q;cases q;cases e;rfl
 ·cases e
theorem zla(hm:OpB X.K r m)(R:OpB X.K r' m'):dE X.K (x3 m m' f g h) σ H Q->zes r r' (dE X.K f) (dE X.K g) (dE X.K h) σ H Q:=λj=>by
 obtain⟨F0,H0,F,Γ,z,E,e,q⟩:=j
 obtain⟨x,hx,e⟩:=bind_some e
 obtain⟨y,hy,e⟩:=bind_some e
 obtain⟨k,U,e⟩:=bind_some e
 obtain⟨d,hd,U⟩:=bind_some U
 have Y:=zfZ U
 subst Y
 refine⟨F0,H0,F,Γ,x,E,hx,λv F1 H1 J r1=>⟨F0,H0,F1,Γ,y,E.grow J,hy,λu F2 H2 I r2=>hm F2 H2 x y v u _ _ I.fh (r1.ext I) r2 hd λw F3 H3 O r3=>⟨k,by simpa[Is]using r3,?_⟩⟩⟩
 cases k with
 | false=>cases e;exact q _ F3 H3 ((J.trans I).trans O) zhL
 | true=>
  obtain⟨Z,hw,e⟩:=bind_some e
  cases hq:m' y Z with
  | none=>simp[hq]at e
  | some d'=>
   simp[hq]at e;subst e
   exact⟨F0,H0,F3,Γ,Z,((E.grow J).grow I).grow O,hw,λv' F4 H4 e4 r4=>R F4 H4 y Z u v' d' Q e4.fh ((r2.ext O).ext e4) r4 hq λw2 F5 H5 e5 r5=>q w2 F5 H5 ((((J.trans I).trans O).trans e4).trans e5) r5⟩
theorem zbT{op op':iJ}{r r':R2}{m m':B->B->Option D}(ho:OpR X (cP op) r)(hm:OpB X.K r m)(ho':OpR X (cP op') r')(hm':OpB X.K r' m')(ha:EE X a f)(hb:EE X b g)(hc:EE X c h) 
 (hk:lastMarks [op,op'] [b,c]=false:=by with_unfolding_all rfl):EE X (.Compare a [op,op'] [b,c] pos) (x3 m m' f g h):=yV (zfQ ho ho' ha hb hc hk) λσ H Q q=>zla hm hm' q
variable {es:List aG} {fs:G->Option (List B)}
def zg:G->Option (List B):=λ_=>some []
def zc(f:G->Option B)(fs:G->Option (List B)):G->Option (List B):=λΓ=>(f Γ).bind λx=>(fs Γ).map λxs=>x::xs
theorem zf:EA X [] zg:=zbR zy λσ H Q ⟨F0,H0,F,Γ,z,E,e,q⟩=>by cases e;exact q [] F H (.refl E.fh) .nil
theorem zb(R:EE X e f)(U:EA X es fs)(Y:bD (e::es) X.env=(false,aW e X.env)::bD es X.env:=by rfl):EA X (e::es) (zc f fs) :=
 zbR (zm R U Y) λσ H Q j=>by
  obtain⟨F0,H0,F,Γ,z,E,e,q⟩:=j
  obtain⟨x,Z,e⟩:=bind_some e
  cases I:fs Γ with
  | none=>rw[I]at e;cases e
  | some xs=>
   rw[I]at e;cases e
   exact⟨F0,H0,F,Γ,x,E,Z,λv F1 H1 J r1=>⟨F0,H0,F1,Γ,xs,E.grow J,I,λvs F2 H2 O r2=>q (v::vs) F2 H2 (J.trans O) (.cons (r1.ext O) r2)⟩⟩
def Ze:List B->Option (List D)
 | []=>some []
 | b::r=>b.asD.bind λd=>(Ze r).map λds=>d::ds
theorem Zf{K:aE}{F H:Hp}:∀{bs:List B} {vs:List V} {ds:List D},Ze bs=some ds->zcW K F H bs vs->Are K F ds vs:=λ{bs}=>by
 induction bs with
 | nil=>intro vs ds e h;cases e;cases h;exact .nil
 | cons b r I=>
  intro vs ds e h
  cases h with
  | cons h q=>
   obtain⟨d,z,e⟩:=bind_some e
   cases j:Ze r with
   | none=>rw[j]at e;cases e
   | some ds=>
    rw[j]at e;cases e
    cases b with
    | d d'=>cases z;exact .cons h (I j q)
    | _=>cases z
def yQ(fs:G->Option (List B)):G->Option B:=λΓ=>((fs Γ).bind Ze).bind λds=>if ds.length<=aH then some (.d (.tup ds))else none
theorem yM{k}(h:EA X es fs):EE X (.Tuple es k pos) (yQ fs):=yV (zex h) λσ H Q j=>by
 obtain⟨F0,H0,F,Γ,z,E,e,q⟩:=j
 obtain⟨ds,I,e⟩:=bind_some e
 obtain⟨bs,U,I⟩:=bind_some I
 by_cases J:ds.length<=aH
 ·rw[if_pos J]at e;cases e
  refine⟨F0,H0,F,Γ,bs,E,U,λvs Y H1 O r1=>⟨by rw[(Zf I r1).length];exact J,λp R=>q _ (upd Y p (.tup vs)) _ (O.trans (.fix O.fh R _)) ?_⟩⟩
  show Is _ _ (.tup ds) _
  simp only[Is]
  exact⟨p,vs,rfl,zk,(Zf I r1).mono (zK (O.fh.free R) _)⟩
 ·rw[if_neg J]at e;cases e
def xL(f:G->Option (List D)):G->Option B:=λΓ=>(f Γ).map λds=>.d (.lst ds)
theorem y2(h:EL X e fl):EE X e (xL fl):=yV h λσ H Q j=>by
 obtain⟨F0,H0,F,Γ,z,E,e,q⟩:=j
 unfold xL at e
 cases I:fl Γ with
 | none=>rw[I]at e;cases e
 | some ds=>
  rw[I]at e;cases e
  refine⟨F0,H0,F,Γ,ds,E,I,λa vs O H1 R U J Y r1=>q _ (upd O a (.lst vs)) H1 ?_ ?_⟩
  ·exact(Ext.freeze R U J Y)
  ·show Is _ _ (.lst ds) _
   simp only[Is]
   exact⟨a,vs,rfl,zk,r1.mono (zK J _)⟩
def xJ(fs:G->Option (List B)):G->Option (List D):=λΓ=>((fs Γ).bind Ze).bind λds=>if ds.length<=aH then some ds else none
theorem xu(h:EA X es fs):EL X (.List es pos) (xJ fs):=yV (vC h) λσ H Q j=>by
 obtain⟨F0,H0,F,Γ,z,E,e,q⟩:=j
 obtain⟨ds,I,e⟩:=bind_some e
 obtain⟨bs,U,I⟩:=bind_some I
 by_cases O:ds.length<=aH
 ·rw[if_pos O]at e;cases e
  refine⟨F0,H0,F,Γ,bs,E,U,λvs Y H1 J r1=>⟨by rw[(Zf I r1).length];exact O,λp R=>q p vs Y _ (J.trans (.own J.fh R _)) (J.hh.free R) (J.fh.free R) zk (Zf I r1)⟩⟩
 ·rw[if_neg O]at e;cases e
end
section
variable {K:aE} {F H F' H':Hp}
theorem Wy:∀(ns:List Int),Are K F (ns.map D.int) (ns.map V.int)
 | []=>.nil
 | n::r=>.cons (by simp[Is]) (Wy r)
def B.seq:B->Option (List D)
 | .d (.tup ds)=>some ds
 | .d (.lst ds)=>some ds
 | .d (.scr ns)=>some (ns.map D.int)
 | .l ds=>some ds
 | .c ds=>some ds
 | _=>none
theorem JI(s:zw F H)(e:b.seq=some ds)(h:BIs K F H b v):∃a vs,v=.ref a/\(SqL K H a vs\/SqT K H a vs)/\Are K F ds vs:=by
 cases b with
 | d d=>
  have h':Is K F d v:=h
  cases d with
  | tup xs=>cases e;simp only[Is]at h';obtain⟨a,vs,j,q,r⟩:=h';exact⟨a,vs,j,.inr (SqT.of (s _ _ q)),r⟩
  | lst xs=>cases e;simp only[Is]at h';obtain⟨a,vs,j,q,r⟩:=h';exact⟨a,vs,j,.inl (SqL.of (s _ _ q)),r⟩
  | scr ns=>cases e;simp only[Is]at h';obtain⟨a,j,q⟩:=h';exact⟨a,_,j,.inl (s.seq q),Wy ns⟩
  | _=>cases e
 | l xs=>cases e;obtain⟨a,vs,j,q,r⟩:=h;exact⟨a,vs,j,.inl (SqL.of q),r⟩
 | c xs=>cases e;obtain⟨a,vs,j,q,r⟩:=h;exact⟨a,vs,j,.inr q,r⟩
 | _=>cases e
def B.lst:B->Option (List D)
 | .d (.lst ds)=>some ds
 | .l ds=>some ds
 | _=>none
theorem Zg(s:zw F H)(e:b.lst=some ds)(h:BIs K F H b v):∃a vs,v=.ref a/\H a=some (.lst vs)/\Are K F ds vs:=by
 cases b with
 | d d=>
  have h':Is K F d v:=h
  cases d with
  | lst xs=>cases e;simp only[Is]at h';obtain⟨a,vs,j,q,r⟩:=h';exact⟨a,vs,j,s _ _ q,r⟩
  | _=>cases e
 | l xs=>cases e;obtain⟨a,vs,j,q,r⟩:=h;exact⟨a,vs,j,q,r⟩
 | _=>cases e
def B.int:B->Option Int
 | .d (.int i)=>some i
 | _=>none
theorem vD{b:B}{i:Int}{v:V}(e:b.int=some i)(h:BIs K F H b v):v=.int i:=by
 cases b with
 | d d=>
  have h':Is K F d v:=h
  cases d with
  | int j=>cases e;simpa[Is]using h'
  | _=>cases e
 | _=>cases e
theorem wO{i:Int}:Is K F (.int i) (.int i):=by simp[Is]
theorem vZ:Is K F (.bl i) (.bl i):=by simp[Is]
theorem zjD{ds:List D}{vs:List V}{i:Int}{d:D}(r:Are K F ds vs)(e:atI ds i=some d):∃v,atI vs i=some v/\Is K F d v:=by
 unfold atI at e ⊢
 rw[r.length]
 obtain⟨j,q,e⟩:=bind_some e
 obtain⟨v,h1,h2⟩:=r.get e
 exact⟨v,by rw[q];exact h1,h2⟩
def mI(p:Int->Int->Bool)(g:Int->Int->D):B->B->Option D:=λx y=>x.int.bind λi=>y.int.bind λj=>if p i j then some (g i j)else none
theorem zbU{p:Int->Int->Bool}{g:Int->Int->D}{x y:B}{d:D}(e:mI p g x y=some d):∃i j,x.int=some i/\y.int=some j/\p i j=true/\d=g i j:=by
 obtain⟨i,hi,e⟩:=bind_some e
 obtain⟨j,z,e⟩:=bind_some e
 by_cases q:p i j=true
 ·rw[if_pos q]at e;cases e;exact⟨i,j,hi,z,q,rfl⟩
 ·rw[if_neg q]at e;cases e
theorem Xa{g:Int->Int->V}{z:Int->Int->D}(I:∀F i j,Is K F (z i j) (g i j)):OpB K (rI0 g) (mI (λ_ _=>true) z):=λF H x y v u d Q s J O e q=>by
 obtain⟨i,j,h1,h2,_,rfl⟩:=zbU e
 exact⟨i,j,vD h1 J,vD h2 O,q _ F H (.refl s) (I F i j)⟩
theorem zcX{C:Int->Int->Prop}{p:Int->Int->Bool}{g:Int->Int->V}{z:Int->Int->D}(I:∀i j,p i j=true->C i j)(J:∀F i j,Is K F (z i j) (g i j)):OpB K (rI C g) (mI p z):=λF H x y v u d Q s O R e q=>by
 obtain⟨i,j,h1,h2,U,rfl⟩:=zbU e
 exact⟨i,j,vD h1 O,vD h2 R,I i j U,q _ F H (.refl s) (J F i j)⟩
def Vi:=mI (λ_ _=>true) λi j=>.int (i+j)
def Wz:=mI (λ_ _=>true) λi j=>.int (i-j)
def wa(i:Int):Bool:=decide (-(2^64)<i) && decide (i<2^64)
def ZL:=mI (λi j=>wa i|| wa j) λi j=>.int (i*j)
def ZM:=mI (λ_ j=>decide (0<j)) λi j=>.int (i%j)
def JJ:=mI (λ_ j=>decide (0<j) && decide (j<1073741824)) λi j=>.int (i/j)
def mLt:=mI (λ_ _=>true) λi j=>.bl (decide (i<j))
def mLe:=mI (λ_ _=>true) λi j=>.bl (decide (i<=j))
def mGt:=mI (λ_ _=>true) λi j=>.bl (decide (j<i))
theorem zih:OpB K (rI0 λi j=>.int (i+j)) Vi:=Xa λF i j=>wO
theorem Xb:OpB K (rI0 λi j=>.int (i-j)) Wz:=Xa λF i j=>wO
theorem Zh:OpB K (rI JC λi j=>.int (i*j)) ZL:=zcX (λi j h=>by
 simp only[mF,wa,dY,decide_eq_true_eq]at h
 exact h) λF i j=>wO
theorem Zi:OpB K (rI (λ_ j=>0<j) λi j=>.int (i%j)) ZM:=zcX (λi j h=>of_decide_eq_true h) λF i j=>wO
theorem zeE:OpB K (rI zfP λi j=>.int (i/j)) JJ:=zcX (λi j h=>by
 simp only[dY,decide_eq_true_eq]at h
 exact h) λF i j=>wO
theorem Vj:OpB K (rI0 λi j=>.bl (decide (i<j))) mLt:=Xa λF i j=>vZ
theorem Je:OpB K (rI0 λi j=>.bl (decide (i<=j))) mLe:=Xa λF i j=>vZ
theorem zhM:OpB K (rI0 λi j=>.bl (decide (j<i))) mGt:=Xa λF i j=>vZ
def mOr(m n:B->B->Option D):B->B->Option D:=λx y=>(m x y).or (n x y)
theorem OpB.or(h:OpB K r m)(h':OpB K O n):OpB K (λx y H Q=>r x y H Q\/O x y H Q) (mOr m n):=λF H x y v u d Q s I J e q=>by
 unfold mOr at e
 cases j:m x y with
 | some z=>rw[j]at e;cases e;exact .inl (h F H x y v u _ Q s I J j q)
 | none=>rw[j]at e;exact .inr (h' F H x y v u _ Q s I J (by simpa using e) q)
def XO:B->B->Option D
 | .d (.tup a),.d (.tup b)=>if a.length+b.length<=aH then some (.tup (a++b))else none
 | _,_=>none
def Vk:B->B->Option D:=λx y=>x.lst.bind λa=>y.lst.bind λb=>if a.length+b.length<=aH then some (.lst (a++b))else none
theorem zii:OpB K zcQ Vk:=λF H x y v u d Q s J O e q=>by
 obtain⟨a,R,e⟩:=bind_some e
 obtain⟨b,U,e⟩:=bind_some e
 obtain⟨p,vs,rfl,Y,r1⟩:=Zg s R J
 obtain⟨p2,us,rfl,j,r2⟩:=Zg s U O
 by_cases z:a.length+b.length<=aH
 ·rw[if_pos z]at e;cases e
  refine⟨p,p2,vs,us,rfl,rfl,Y,j,by rw[r1.length,r2.length];exact z,λl I=>q _ (upd F l (.lst (vs++us))) _ (.fix s I _) ?_⟩
  simp only[Is]
  exact⟨l,_,rfl,zk,(r1.append r2).mono (zK (s.free I) _)⟩
 ·rw[if_neg z]at e;cases e
def mIx:B->B->Option D:=λx y=>x.seq.bind λds=>y.int.bind λi=>atI ds i
theorem zhN:OpB K (λx y H Q=>zjw K x y H Q\/zjx K x y H Q) mIx:=λF H x y v u d Q s J O e q=>by
 obtain⟨ds,R,e⟩:=bind_some e
 obtain⟨i,hi,e⟩:=bind_some e
 obtain⟨a,vs,rfl,j,r⟩:=JI s R J
 obtain⟨w,z,I⟩:=zjD r e
 have U:=vD hi O
 subst U
 rcases j with j|j
 ·exact .inl ⟨a,vs,i,w,rfl,rfl,j,z,q w F H (.refl s) I⟩
 ·exact .inr ⟨a,vs,i,w,rfl,rfl,j,z,q w F H (.refl s) I⟩
end
section
variable {X:Cx} {a b c e:aG} {f g h:G->Option B} {pos:aR} {es:List aG} {fs:G->Option (List B)}
theorem zF(O:EE X a f)(R:EE X b g)(U:Ul b):EE X (.Subscript a b pos) (x2 mIx f g) :=
 yV (xA (wr.or w5) O R U) λσ H Q j=>by
  obtain⟨F0,H0,F,Γ,z,E,e,q⟩:=j
  obtain⟨x,y,d,Y,Z,hd,rfl⟩:=uh e
  exact⟨F0,H0,F,Γ,x,E,Y,λv F1 H1 J r1=>⟨F0,H0,F1,Γ,y,E.grow J,Z,λu F2 H2 I r2=>zhN F2 H2 x y v u d Q I.fh (r1.ext I) r2 hd λw F' H' e3 r3=>q w F' H' ((J.trans I).trans e3) r3⟩⟩
def Zx(K:aE)(r:List V->Hp->VK->Prop)(m:List B->Option D):Prop:=∀F H bs vs d Q,zw F H->zcW K F H bs vs->m bs=some d->(∀w F' H',Ext F H F' H'->Is K F' d w->Q w H')->r vs H Q
def zG(m:List B->Option D)(fs:G->Option (List B)):G->Option B:=λΓ=>(fs Γ).bind λbs=>(m bs).map B.d
theorem map_some{α β:Type}{o:Option α}{k:α->β}{z:β}(e:o.map k=some z):∃x,o=some x/\z=k x:=by
 cases o with
 | none=>cases e
 | some x=>cases e;exact⟨x,rfl,rfl⟩
theorem JK{r:List V->Hp->VK->Prop}(J:Zx X.K r m):dE X.K (zG m fs) σ H Q->tCB r (dA X.K fs) σ H Q:=λj=>by
 obtain⟨F0,H0,F,Γ,z,E,e,q⟩:=j
 obtain⟨bs,O,e⟩:=bind_some e
 obtain⟨d,R,rfl⟩:=map_some e
 exact⟨F0,H0,F,Γ,bs,E,O,λvs U H1 I r1=>J U H1 bs vs d Q I.fh r1 R λw F' H' Y r2=>q w F' H' (I.trans Y) r2⟩
theorem zN{id:String}{x:aC}{p:aR}{r:List V->Hp->VK->Prop}{m:List B->Option D}(J:wo X (.builtin id) r)(j:Zx X.K r m)(O:Gl X x)(R:X.mg x=none)(U:fV x=some (.builtin id))(Y:EA X (e::es) fs) 
 (Z:x≠"__name__":=by decide) (z:(x==("__debug__":aC))=false:=by decide) (he:bD (e::es) X.env=(false,aW e X.env)::bD es X.env:=by rfl) (I:(cX pos (bD es X.env)).any (·.1)=false:=by rfl) :
 EE X (.Call (.Name x p) (e::es) [] pos) (zG m fs):=yV (xz J O R U Y Z z he I) λσ H Q q=>JK j q
theorem xn{T:String}{x:aC}{p:aR}{r:List V->Hp->VK->Prop}{m:List B->Option D}(J:wo X (.type T) r)(j:Zx X.K r m)(O:Gl X x)(R:X.mg x=none)(U:fV x=some (.type T))(Y:EA X (e::es) fs) 
 (Z:x≠"__name__":=by decide) (z:(x==("__debug__":aC))=false:=by decide) (he:bD (e::es) X.env=(false,aW e X.env)::bD es X.env:=by rfl) (I:(cX pos (bD es X.env)).any (·.1)=false:=by rfl) :
 EE X (.Call (.Name x p) (e::es) [] pos) (zG m fs):=yV (Zv J O R U Y Z z he I) λσ H Q q=>JK j q
theorem v0{K:aE}{F H:Hp}{b:B}{vs:List V}(h:zcW K F H [b] vs):∃v,vs=[v]/\BIs K F H b v:=by
 cases h with
 | cons p q=>cases q;exact⟨_,rfl,p⟩
def xB:List B->Option D
 | [b]=>b.seq.map λds=>.int ds.length
 | _=>none
theorem yR{K:aE}:Zx K (λxs H Q=>∃p ys,xs=[.ref p]/\(SqL K H p ys\/SqT K H p ys)/\Q (.int ys.length) H) xB:=λF H bs vs d Q s h e q=>by
 match bs,e,h with
 | [b],e,h=>
  obtain⟨v,rfl,j⟩:=v0 h
  obtain⟨ds,z,rfl⟩:=map_some e
  obtain⟨a,ys,rfl,I,r⟩:=JI s z j
  refine⟨a,ys,rfl,I,q _ F H (.refl s) ?_⟩
  rw[r.length];exact wO
def wv:List B->Option D:=λbs=>match bs with
 | [.d (.tup ds)]=>some (.tup ds)
 | [.d (.lst ds)]=>some (.tup ds)
 | [.l ds]=>some (.tup ds)
 | _=>none
theorem xS{K: aE}: Zx K (λxs H Q=> ∃ p ys, xs= [.ref p]/\((SqL K H p ys/\ ∀ l, H l=none->Q (.ref l) (upd H l (.tup ys)))\/(SqT K H p ys/\Q (.ref p) H))) wv :=λF H bs vs d Q s h e q=>by
  have lst: ∀ {a: aA} {ys: List V} {ds: List D}, H a=some (.lst ys)->Are K F ds ys->(∀ w F' H', Ext F H F' H'->Is K F' (.tup ds) w->Q w H')-> ∀ l, H l=none->Q (.ref l) (upd H l (.tup ys)) :=λ{a ys ds} R r q l O=>q _ (upd F l (.tup ys)) _ (.fix s O _) (by
    simp only[Is]
    exact⟨l, ys, rfl, zk, r.mono (zK (s.free O) _)⟩)
  have key: ∃ b, bs= [b] :=by
    rcases bs with _| ⟨b, _| ⟨_, _⟩⟩
    · cases e
    · exact⟨b, rfl⟩
    · cases b <;>(try (rename_i w; cases w)) <;>cases e
  obtain⟨b, rfl⟩ :=key
  cases b with
  | d w=>
   cases w with
   | tup ds=>
    cases e
    obtain⟨v, rfl, I⟩ :=v0 h
    have j: Is K F (.tup ds) v :=I
    have J :=j
    simp only[Is]at j
    obtain⟨a, ys, rfl, z, r⟩ :=j
    exact⟨a, ys, rfl,.inr ⟨SqT.of (s _ _ z), q _ F H (.refl s) J⟩⟩
   | lst ds=>
    cases e
    obtain⟨v, rfl, I⟩ :=v0 h
    obtain⟨a, ys, rfl, z, r⟩ :=Zg (b := .d (.lst ds)) s rfl I
    exact⟨a, ys, rfl,.inl ⟨SqL.of z, lst z r q⟩⟩
   | _=>cases e
  | l ds=>
    cases e
    obtain⟨v, rfl, I⟩ :=v0 h
    obtain⟨a, ys, rfl, z, r⟩ :=Zg (b := .l ds) s rfl I
    exact⟨a, ys, rfl,.inl ⟨SqL.of z, lst z r q⟩⟩
  | _=>cases e
def spD(K:aE)(m:List D->Option D):Sp:=λvs H Q _=>∃F ds d,zw F H/\Are K F ds vs/\m ds=some d/\∀v F' H',Ext F H F' H'->Is K F' d v->Q v H'
def xFn(m:List D->Option D)(fs:G->Option (List B)):G->Option B:=λΓ=>((fs Γ).bind Ze).bind λds=>(m ds).map B.d
theorem zjE{k:Nat}{x:aC}{p:aR}{m:List D->Option D}{fa:aA}{fd:bQ}{ps:List aC}(Z:FnOk X.prog X.w X.K X.mg X.base CX0 k fa fd ps (spD X.K m))(hr:Room k X.A)(hg:Gl X x)(hm:X.mg x=some (.ref fa))(hk:gA X.K (.ref fa)=true)(hb:xk X.K fd ps []) 
  (ha:EA X (e::es) fs) (I:(x==("__debug__":aC))=false:=by decide) (he:bD (e::es) X.env=(false,aW e X.env)::bD es X.env:=by rfl) (J:(cX pos (bD es X.env)).any (·.1)=false:=by rfl) :
  EE X (.Call (.Name x p) (e::es) [] pos) (xFn m fs) :=
 yV (wD (E:=E0) (dvs:=[]) (ds:=[]) Z hr hg hm hk hb .nil xK ha I he J) λσ H Q j=>by
  obtain⟨F0,H0,F,Γ,z,E,e,q⟩:=j
  obtain⟨ds,O,e⟩:=bind_some e
  obtain⟨bs,R,O⟩:=bind_some O
  obtain⟨d,U,rfl⟩:=map_some e
  refine⟨F0,H0,F,Γ,bs,E,R,λvs F1 H1 Y r1=>?_⟩
  have r2:=Zf O r1
  exact⟨F1,ds,d,Y.fh,by rw[gB];exact r2,U,λv F' H' e2 r3=>q v F' H' (Y.trans e2) r3⟩
end
section
variable {X:Cx} {a b c e:aG} {f g h:G->Option B} {pos:aR} {es:List aG} {fs:G->Option (List B)} {tf:G->Option Bool}
def yr:G->Option Out:=λΓ=>some (.nx Γ)
def zu(f g:G->Option Out):G->Option Out:=λΓ=>(f Γ).bind λo=>match o with
 | .nx j=>g j
 | o=>some o
theorem yn:SDs X [] yr:=Wx ZW λE σ H ⟨F0,H0,F,Γ,o,j,e,q⟩=>by cases e;exact q σ F H j (zw.refl _)
theorem zh{st:aM}{rest:List aM}{f g:G->Option Out}(h1:SD X st f)(h2:SDs X rest g):SDs X (st::rest) (zu f g) :=
 Wx (zA h1 h2) λE σ H j=>by
  obtain⟨F0,H0,F,Γ,o,I,e,q⟩:=j
  obtain⟨J,h1,e⟩:=bind_some e
  cases J with
  | nx g1=>exact⟨F0,H0,F,Γ,_,I,h1,λU O H1 R z=>⟨F0,H0,O,g1,o,R,e,q.mono z⟩⟩
  | rt d=>cases e;exact⟨F0,H0,F,Γ,_,I,h1,q⟩
  | bk g1=>cases e;exact⟨F0,H0,F,Γ,_,I,h1,q⟩
  | ct g1=>cases e;exact⟨F0,H0,F,Γ,_,I,h1,q⟩
theorem zo{st:aM}{f:G->Option Out}(h1:SD X st f):SDs X [st] f:=yo h1
def zS(f:G->Option B):G->Option Out:=λΓ=>(f Γ).bind λb=>b.asD.map Out.rt
theorem xU{b:B}{d:D}(e:b.asD=some d):b=.d d:=by
 cases b with
 | d x=>cases e;rfl
 | _=>cases e
theorem zM(I:EE X e f):SD X (.Return (some e) pos) (zS f):=xa (vA I) λE σ H j=>by
 obtain⟨F0,H0,F,Γ,o,z,e,q⟩:=j
 obtain⟨b,J,e⟩:=bind_some e
 obtain⟨d,O,rfl⟩:=map_some e
 have:=xU O;subst this
 exact⟨F0,H0,F,Γ,_,z,J,λv R H1 U r1=>q v R H1 (z.ext.trans U) r1⟩
def sIf(t:G->Option Bool)(f g:G->Option Out):G->Option Out:=λΓ=>(t Γ).bind λx=>if x=true then f Γ else g Γ
theorem yZ{p q:List aM}{f g:G->Option Out}(O:ET X c tf)(R:SDs X p f)(U:SDs X q g):SD X (.If c p q pos) (sIf tf f g):=xa (XH O R U) λE σ H j=>by
 obtain⟨F0,H0,F,Γ,o,I,e,q⟩:=j
 obtain⟨x,Y,e⟩:=bind_some e
 refine⟨F0,H0,F,Γ,x,I,Y,λJ H1 z=>?_⟩
 cases x with
 | true=>exact⟨F0,H0,J,Γ,o,I.grow z,e,q.mono z.ff⟩
 | false=>exact⟨F0,H0,J,Γ,o,I.grow z,e,q.mono z.ff⟩
def sNo:G->Option Out:=λ_=>none
theorem JL{st:aM}:SD X st sNo:=λ_ _ _ _ _ _ ⟨_,_,_,_,_,_,e,_⟩=>by cases e
def Zy(f:G->Option B):G->Option Out:=λΓ=>(f Γ).map λ_=>.nx Γ
theorem Xc(he:EE X e f)(hs:dD e none pos.line X.env=pure false:=by rfl):SD X (.Expr e pos) (Zy f):=xa (y0 he hs) λE σ H hh37'=>by
 obtain⟨F0,H0,F,Γ,o,En,e,q⟩:=hh37'
 obtain⟨b,hb,rfl⟩:=map_some e
 exact⟨F0,H0,F,Γ,b,En,hb,λv F1 H1 e1 r1=>q σ F1 H1 (En.grow e1) e1.ff⟩
def zY(i:Nat)(f:G->Option B):G->Option Out:=λΓ=>(f Γ).bind λb=>b.asD.map λd=>.nx (Γ.set i (.v d))
theorem zbV{i:Nat}{E:Ends}{σ:St}{H:Hp}:dS X.K (zY i f) E σ H->Uj (dE X.K f) (vm i) E σ H:=λj=>by
 obtain⟨F0,H0,F,Γ,o,z,e,q⟩:=j
 obtain⟨b,J,e⟩:=bind_some e
 obtain⟨d,O,rfl⟩:=map_some e
 have:=xU O;subst this
 exact⟨F0,H0,F,Γ,_,z,J,λv R H1 I r1=>q _ R H1 ((z.grow I).put r1) I.ff⟩
theorem yu{i:Nat}{x:aC}{p:aR}(hN:X.N.Nodup)(hi:X.N[i]?=some x)(hx:Loc X.env.scope x)(he:EE X e f)(hs:dD e (some (.Name x p)) pos.line X.env=pure false:=by rfl)(hf:X.fn x=true\/X.env.scope.names.lookup x=some .local:=by first|exact .inl rfl|exact .inr rfl|assumption):
 SD X (.Assign [.Name x p] e pos) (zY i f):=xa (xp hN hi hx he hs hf) λE σ H q=>zbV q
def vb(i:Nat)(f:G->Option (List D)):G->Option Out:=λΓ=>(f Γ).map λds=>.nx (Γ.set i (.ol ds))
theorem zbW:dS X.K (vb i fl) E σ H->Uj (dL X.K fl) (vm i) E σ H:=λJ=>by
 obtain⟨F0,H0,F,Γ,o,R,e,q⟩:=J
 obtain⟨ds,hb,rfl⟩:=map_some e
 refine⟨F0,H0,F,Γ,_,R,hb,λa vs F1 H1 Y U hf hh r1=>q _ F1 H1 ((R.grow Y).putOwn ⟨a,vs,rfl,hh,r1,hf,R.ext.hh.free U⟩ λj s hj hs Z z=>?_) Y.ff⟩
 obtain⟨o,h1,h2⟩:=R.val j s hs
 rw[z]at h1;cases h1
 cases s with
 | un=>cases Z
 | v d=>cases Z
 | ol ds=>obtain⟨a',vs,O,I,_⟩:=h2;cases O;rw[U]at I;cases I
 | ot kvs=>obtain⟨a',vs,O,I,_⟩:=h2;cases O;rw[U]at I;cases I
 | ok kvs=>obtain⟨a',vs,O,I,_⟩:=h2;cases O;rw[U]at I;cases I
theorem vH{i:Nat}{x:aC}{p:aR}{fl:G->Option (List D)}(hN:X.N.Nodup)(hi:X.N[i]?=some x)(hx:Loc X.env.scope x)(he:EL X e fl)(hs:dD e (some (.Name x p)) pos.line X.env=pure false:=by rfl)(hf:X.fn x=true\/X.env.scope.names.lookup x=some .local:=by first|exact .inl rfl|exact .inr rfl|assumption):
 SD X (.Assign [.Name x p] e pos) (vb i fl):=xa (xp hN hi hx he hs hf) λE σ H q=>zbW q
def zeF(z:List Nat)(σ q:St):Prop:=σ.length=q.length/\∀j,j∉z->q[j]?=σ[j]?
def dGs(K:aE)(q:List Nat)(f:D->G->Option G):TG:=λv σ H Q=>∃F0 H0 F Γ d g,EnvIs K F0 H0 F H σ Γ/\Is K F d v/\f d Γ=some g/\∀j,EnvIs K F0 H0 F H j g->zeF q σ j->Q j H
def GN(X:Cx)(e:aG)(j:List Nat)(f:D->G->Option G):Prop:=PG X e (dGs X.K j f)
def zr(i:Nat):D->G->Option G:=λd Γ=>some (Γ.set i (.v d))
theorem zV(J:X.N.Nodup)(hi:X.N[i]?=some x)(O:Loc X.env.scope x)(R:X.fn x=true\/X.env.scope.names.lookup x=some .local:=by first|exact .inl rfl|exact .inr rfl|assumption):GN X (.Name x pos) [i] (zr i) :=
 zbS (xR J hi O R) λv σ H Q I=>by
  obtain⟨F0,H0,F,Γ,d,g,U,r,e,q⟩:=I
  cases e
  exact q _ (U.put r) ⟨by simp,λj Y=>dX (λz=>Y (by simp[z]))⟩
def dGl(K:aE)(q:List Nat)(f:List D->G->Option G):TGs:=λvs σ H Q=>∃F0 H0 F Γ ds g,EnvIs K F0 H0 F H σ Γ/\Are K F ds vs/\f ds Γ=some g/\∀j,EnvIs K F0 H0 F H j g->zeF q σ j->Q j H
def GL(X:Cx)(es:List aG)(j:List Nat)(f:List D->G->Option G):Prop:=PGs X es (dGl X.K j f)
def xY:List D->G->Option G:=λds Γ=>match ds with
 | []=>some Γ
 | _=>none
def z9(f:D->G->Option G)(g:List D->G->Option G):List D->G->Option G:=λds Γ=>match ds with
 | d::r=>(f d Γ).bind λj=>g r j
 | []=>none
theorem Zj:GL X [] [] xY:=λpins s σ H vs us Q I r ⟨F0,H0,F,Γ,ds,g,j,z,e,q⟩=>ZX pins s σ H vs us Q I r (by
 cases ds with
 | nil=>cases e;exact⟨z.inv0,q _ j ⟨rfl,λ_ _=>rfl⟩⟩
 | cons d r=>cases e)
theorem wb(h1:GN X e Y t)(h2:GL X es Z u)(hs:(eT (e::es) X.env).map (·.2)=eS e X.env::(eT es X.env).map (·.2):=by rfl):GL X (e::es) (Y++Z) (z9 t u) :=
 λpins s σ H vs us Q I r ⟨F0,H0,F,Γ,ds,g,En,ra,e,q⟩=>wU h1 h2 hs pins s σ H vs us Q I r (by
  cases ds with
  | nil=>cases e
  | cons d rd=>
   obtain⟨g1,J,e⟩:=bind_some e
   obtain⟨v,rv,rfl,r1,r2⟩:=ra.inv
   refine⟨v,rv,rfl,F0,H0,F,Γ,d,g1,En,r1,J,λσ1 E1 O=>⟨F0,H0,F,g1,rd,g,E1,r2,e,λσ2 E2 R=>q σ2 E2 ⟨O.1.trans R.1,λj U=>?_⟩⟩⟩
   rw[R.2 j λz=>U (dH _ z),O.2 j λz=>U (eJ _ z)])
def xN(n:Nat)(u:List D->G->Option G):D->G->Option G:=λd Γ=>match d with
 | .tup ds=>if ds.length=n then u ds Γ else none
 | _=>none
theorem Yx(U:X.calm=true)(h:GL X es Y u)(Z:(eT es X.env).length=n:=by rfl)(z:(eT es X.env).findIdx? (·.1)=none:=by rfl):GN X (.Tuple es k pos) Y (xN n u) :=
 zbS (Y2 U h Z z) λv σ H Q j=>by
  obtain⟨F0,H0,F,Γ,d,g,J,r,e,q⟩:=j
  cases d with
  | tup ds=>
   have O:=r
   simp only[Is]at O
   obtain⟨a,vs,rfl,hf,R⟩:=O
   unfold xN at e
   by_cases I:ds.length=n
   ·simp only[I,if_true]at e
    exact⟨a,vs,rfl,SqT.of (J.fh _ _ hf),by rw[R.length];exact I,F0,H0,F,Γ,ds,g,J,R,e,q⟩
   ·simp only[I,if_false]at e;cases e
  | _=>cases e
def zf0(t:D->G->Option G)(f:G->Option B):G->Option Out:=λΓ=>(f Γ).bind λb=>b.asD.bind λd=>(t d Γ).map .nx
theorem zlb{tg:aG}{is:List Nat}{t:D->G->Option G}(he:EE X e f)(hg:GN X tg is t)(hs:lT [tg] e pos.line X.env=pure false:=by rfl)(hw:lU [tg] e X.env=pure none:=by rfl) 
  (h1:(eT [tg] X.env).map (·.2)=[eS tg X.env]:=by rfl):SD X (.Assign [tg] e pos) (zf0 t f):=xa (Y3 he hg hs hw h1) λE σ H ⟨F0,H0,F,Γ,o,En,e,q⟩=>by
 obtain⟨b,hb,e⟩:=bind_some e
 obtain⟨d,hd,e⟩:=bind_some e
 obtain⟨g,hg,rfl⟩:=map_some e
 have:=xU hd;subst this
 exact⟨F0,H0,F,Γ,_,En,hb,λv F1 H1 e1 r1=>⟨F0,H0,F1,Γ,d,g,En.grow e1,r1,hg,λσ' E' _=>q σ' F1 H1 E' e1.ff⟩⟩
def ZN(i:Nat)(Γ:G):G:=match Γ[i]? with
 | some (.ol ds)=>Γ.set i (.v (.lst ds))
 | some (.ok kvs)=>Γ.set i (.v (.dK (kvs.map cC) (kvs.map fO)))
 | some (.ot kvs)=>Γ.set i (.v (.dT (kvs.map cC) (kvs.map fO)))
 | _=>Γ
theorem EnvIs.frzA{K:aE}{F0 H0 F H:Hp}{σ:St}{Γ:G}{i:Nat}{a:aA}{J:HO}{s:S}{d:D}(E:EnvIs K F0 H0 F H σ Γ)(hi:Γ[i]?=some s)(own:s.own=true)(h1:σ[i]?=some (some (.ref a)))(h2:H a=some J)(h4:F a=none)(h5:H0 a=none)(hd:Is K (upd F a J) d (.ref a)):
  EnvIs K F0 H0 (upd F a J) H σ (Γ.set i (.v d)):=by
 have O:i<Γ.length:=(bE.mp hi).1
 have ex:Ext F0 H0 (upd F a J) H:=E.ext.freeze h5 h4 h2
 have sm:zw F (upd F a J):=zK h4 _
 refine⟨ex,by simpa using E.len,λj s' e=>?_,λj k s' t b aa e1 e2 o1 o2 r1 r2=>?_⟩
 ·by_cases hj:j=i
  ·subst hj
   rw[eQ O]at e
   cases e
   exact⟨_,h1,.ref a,rfl,hd⟩
  ·rw[dX (aQ hj)]at e
   obtain⟨o,q1,q2⟩:=E.val j s' e
   refine⟨o,q1,?_⟩
   have ne:∀b,s'.own=true->σ[j]?=some (some (.ref b))->b≠a:=λb so sb z=>by
    subst z
    exact E.sep j i s' _ b hj e hi so own sb h1
   cases s' with
   | un=>trivial
   | v d=>obtain⟨v,e1,q⟩:=q2;exact⟨v,e1,q.mono sm⟩
   | ol R=>obtain⟨b,I,rfl,U,p2,Y,Z⟩:=q2;exact⟨b,I,rfl,U,p2.mono sm,by rw[ze (ne b rfl q1)];exact Y,Z⟩
   | ot R=>obtain⟨b,I,rfl,U,p2,Y,Z⟩:=q2;exact⟨b,I,rfl,U,p2.mono sm,by rw[ze (ne b rfl q1)];exact Y,Z⟩
   | ok R=>obtain⟨b,I,rfl,U,p2,Y,Z⟩:=q2;exact⟨b,I,rfl,U,p2.mono sm,by rw[ze (ne b rfl q1)];exact Y,Z⟩
 ·have no:∀(k:Nat) (t:S),(Γ.set i (.v d))[k]?=some t->t.own=true->Γ[k]?=some t:=λk t e o=>by
   by_cases z:k=i
   ·subst z
    rw[eQ O]at e
    cases e;cases o
   ·rw[dX (aQ z)]at e;exact e
  exact E.sep j k s' t b aa (no j s' e1 o1) (no k t e2 o2) o1 o2 r1 r2
theorem we.keys{κ:Type}{K:aE}{F:Hp}:∀{ps:List (κ×D)} {j:List (κ×V)},we K F ps j->j.map cC=ps.map cC/\Are K F (ps.map fO) (j.map fO):=λh=>by
 induction h with
 | nil=>exact⟨rfl,.nil⟩
 | cons h r q=>
  obtain⟨a,b⟩:=h
  obtain⟨h1,h2⟩:=q
  exact⟨by rw[bI,bI,h1,a],.cons b h2⟩
theorem EnvIs.frz{K:aE}{F0 H0 F H:Hp}{σ:St}{Γ:G}{i:Nat}(E:EnvIs K F0 H0 F H σ Γ):∃F',EnvIs K F0 H0 F' H σ (ZN i Γ)/\zw F F':=by
 unfold ZN
 split
 ·rename_i ds hi
  obtain⟨o,h1,a,vs,rfl,h2,q,j,z⟩:=E.val i _ hi
  exact⟨_,E.frzA hi rfl h1 h2 j z (by simp only[Is];exact⟨a,vs,rfl,zk,q.mono (zK j _)⟩),zK j _⟩
 ·rename_i ds hi
  obtain⟨o,h1,a,vs,rfl,h2,q,j,z⟩:=E.val i _ hi
  obtain⟨I,J⟩:=we.keys (q.mono (zK j (.dK vs)))
  exact⟨_,E.frzA hi rfl h1 h2 j z (by simp only[Is];exact⟨a,vs,rfl,zk,I,J⟩),zK j _⟩
 ·rename_i ds hi
  obtain⟨o,h1,a,vs,rfl,h2,q,j,z⟩:=E.val i _ hi
  obtain⟨I,J⟩:=we.keys (q.mono (zK j (.dT vs)))
  exact⟨_,E.frzA hi rfl h1 h2 j z (by simp only[Is];exact⟨a,vs,rfl,zk,I,J⟩),zK j _⟩
 ·exact⟨F,E,zw.refl _⟩
def uH(i:Nat)(f:G->Option Out):G->Option Out:=λΓ=>f (ZN i Γ)
theorem uE{i:Nat}{st:List aM}{f:G->Option Out}(h:SDs X st f):SDs X st (uH i f):=Wx h λE σ H j=>by
 obtain⟨F0,H0,F,Γ,o,J,e,q⟩:=j
 obtain⟨F',I,z⟩:=J.frz (i:=i)
 exact⟨F0,H0,F',_,o,I,e,q.mono z⟩
end
section
variable {X:Cx} {a b c e tg iter elt:aG} {f g h:G->Option B} {pos:aR} {es:List aG} {fs:G->Option (List B)} {tf:G->Option Bool}
def zjF(K:aE)(J:It)(F:Hp)(ds:List D):Prop:=∀(i:Nat) j H2,zw F j->zw j H2->
 (∀d,ds[i]?=some d->J.go i H2/\∀x H',J.yld i H2 x H'->∃q,Ext j H2 q H'/\Is K q d x)/\(ds.length<=i->J.stop i H2)
def zlc(K:aE)(J:It)(F H:Hp)(ds:List D):Prop:=∀(i:Nat) j H2,Ext F H j H2->
 (∀d,ds[i]?=some d->J.go i H2/\∀x H',J.yld i H2 x H'->∃q,Ext j H2 q H'/\Is K q d x)/\(ds.length<=i->J.stop i H2)
def dI(K:aE)(f:G->Option (List D)):TI:=λσ H R=>∃F0 H0 F Γ ds,EnvIs K F0 H0 F H σ Γ/\f Γ=some ds/\∀J F' H',Ext F H F' H'->zjF K J F' ds->R J H'
def dIc(K:aE)(f:G->Option (List D)):TI:=λσ H R=>∃F0 H0 F Γ ds,EnvIs K F0 H0 F H σ Γ/\f Γ=some ds/\∀J F' H',Ext F H F' H'->zlc K J F' H' ds->R J H'
def EI(X:Cx)(tg iter:aG)(f:G->Option (List D)):Prop:=PI X tg iter (dI X.K f)
def EC(X:Cx)(tg iter:aG)(f:G->Option (List D)):Prop:=PI X tg iter (dIc X.K f)
theorem Z3(h:PI X tg iter t)(w:∀σ H R,t' σ H R->t σ H R):PI X tg iter t':=λpins s σ H R I q=>h pins s σ H R I (w σ H R q)
theorem wx(h:EI X tg iter fl):EC X tg iter fl:=Z3 h λσ H R ⟨F0,H0,F,Γ,ds,z,e,q⟩=>
 ⟨F0,H0,F,Γ,ds,z,e,λJ I H1 O U=>q J I H1 O λi Y H2 j=>U i Y H2 j.ff j.fh⟩
theorem zeG{K:aE}{F:Hp}{a:aA}{vs:List V}{ds:List D}(h:∀H2,zw F H2->SqL K H2 a vs)(inj:True)(r:Are K F ds vs):∀(i:Nat) j H2,zw F j->zw j H2->
  (∀d,ds[i]?=some d->(Itl K a).go i H2/\∀x H',(Itl K a).yld i H2 x H'->∃z,Ext j H2 z H'/\Is K z d x)/\(ds.length<=i->(Itl K a).stop i H2):=λi j H2 s1 s2=>by
 have q:=h H2 (s1.trans s2)
 refine⟨λd J=>?_,λO=>⟨vs,q,by rw[r.length];exact O⟩⟩
 obtain⟨v,I,hi⟩:=r.get J
 refine⟨⟨vs,v,q,I⟩,λx H' y=>?_⟩
 obtain⟨rfl,y⟩:=y
 have:=y vs q
 rw[I]at this;cases this
 exact⟨j,.refl s2,hi.mono s1⟩
theorem zjG{K:aE}{F:Hp}{a:aA}{vs:List V}{ds:List D}(h:∀H2,zw F H2->SqT K H2 a vs)(r:Are K F ds vs):∀(i:Nat) j H2,zw F j->zw j H2->
  (∀d,ds[i]?=some d->(Itt K a).go i H2/\∀x H',(Itt K a).yld i H2 x H'->∃z,Ext j H2 z H'/\Is K z d x)/\(ds.length<=i->(Itt K a).stop i H2):=λi j H2 s1 s2=>by
 have q:=h H2 (s1.trans s2)
 refine⟨λd J=>?_,λO=>⟨vs,q,by rw[r.length];exact O⟩⟩
 obtain⟨v,I,hi⟩:=r.get J
 refine⟨⟨vs,v,q,I⟩,λx H' y=>?_⟩
 obtain⟨rfl,y⟩:=y
 have:=y vs q
 rw[I]at this;cases this
 exact⟨j,.refl s2,hi.mono s1⟩
def B.fix:B->Option (List D)
 | .d (.tup ds)=>some ds
 | .d (.lst ds)=>some ds
 | .d (.scr ns)=>some (ns.map D.int)
 | _=>none
def yt(f:G->Option B):G->Option (List D):=λΓ=>(f Γ).bind B.fix
theorem xZ(U:EE X iter f):EI X tg iter (yt f):=Z3 (zjC U) λσ H R z=>by
 obtain⟨F0,H0,F,Γ,ds,Y,e,q⟩:=z
 obtain⟨b,Z,e⟩:=bind_some e
 refine⟨F0,H0,F,Γ,b,Y,Z,λv O H1 I r1=>?_⟩
 cases b with
 | d d=>
  have J:Is X.K O d v:=r1
  cases d with
  | tup xs=>
   cases e
   simp only[Is]at J
   obtain⟨a,vs,rfl,j,r⟩:=J
   exact⟨a,rfl,.inr ⟨⟨vs,SqT.of (I.fh _ _ j)⟩,q _ O H1 I (zjG (λH2 s=>SqT.of (s _ _ j)) r)⟩⟩
  | lst xs=>
   cases e
   simp only[Is]at J
   obtain⟨a,vs,rfl,j,r⟩:=J
   exact⟨a,rfl,.inl ⟨⟨vs,SqL.of (I.fh _ _ j)⟩,q _ O H1 I (zeG (λH2 s=>SqL.of (s _ _ j)) trivial r)⟩⟩
  | scr ns=>
   cases e
   simp only[Is]at J
   obtain⟨a,rfl,j⟩:=J
   exact⟨a,rfl,.inl ⟨⟨_,I.fh.seq j⟩,q _ O H1 I (zeG (λH2 s=>s.seq j) trivial (Wy ns))⟩⟩
  | _=>cases e
 | _=>cases e
def yS(lo:Int)(n:Nat):List D:=(aF n).map λ(k:Nat)=>D.int (lo+(k:Int))
theorem zjH{K:aE}{F:Hp}(lo:Int)(n:Nat):zjF K (Itr lo n) F (yS lo n):=λi I H2 s1 s2=>by
 refine⟨λd z=>?_,λJ=>by
  have j:=J
  simp only[yS,aN,cY]at j
  exact j⟩
 have q:i<n:=by
  have:=(bE.mp z).1
  simpa[yS]using this
 refine⟨q,λx H' y=>?_⟩
 obtain⟨rfl,rfl⟩:=y
 refine⟨I,.refl s2,?_⟩
 have:d=.int (lo+i):=by
  simp[yS,aY,fP q]at z
  exact z.symm
 subst this
 exact wO
def xR1(fs:G->Option (List B)):G->Option (List D):=λΓ=>(fs Γ).bind λbs=>match bs with
 | [b]=>b.int.bind λj=>if-(2^62)<=j/\j<2^62 then some (yS 0 j.toNat)else none
 | _=>none
theorem wW(J:Gl X "range")(O:X.mg "range"=none)(U:EA X [a] fs)(Y:bD [a] X.env=[(false,aW a X.env)]:=by rfl):EI X tg (.Call (.Name "range" p) [a] [] pos) (xR1 fs) :=
 Z3 (Qf J O U Y) λσ H R z=>by
  obtain⟨F0,H0,F,Γ,ds,Z,e,q⟩:=z
  obtain⟨bs,hb,e⟩:=bind_some e
  refine⟨F0,H0,F,Γ,bs,Z,hb,λvs F1 H1 e1 r1=>?_⟩
  match bs,e,r1 with
  | [b],e,r1=>
   obtain⟨v,rfl,hv⟩:=v0 r1
   obtain⟨j,hj,e⟩:=bind_some e
   have:=vD hj hv
   subst this
   by_cases I:-(2^62)<=j/\j<2^62
   ·rw[if_pos I]at e;cases e
    exact⟨j,rfl,I.1,I.2,q _ F1 H1 e1 (zjH 0 _)⟩
   ·rw[if_neg I]at e;cases e
def wI(t:D->G->Option G)(fb:G->Option Out):List D->G->Option Out
 | [],Γ=>some (.nx Γ)
 | d::r,Γ=>(t d Γ).bind λq=>(fb q).bind λo=>match o with
  | .nx j=>wI t fb r j
  | .ct j=>wI t fb r j
  | .bk j=>some (.nx j)
  | .rt d=>some (.rt d)
def wX(j:G->Option (List D))(t:D->G->Option G)(fb:G->Option Out):G->Option Out:=λΓ=>(j Γ).bind λds=>wI t fb ds Γ
theorem vn{is:List Nat}{it:G->Option (List D)}{t:D->G->Option G}{fb:G->Option Out}{body:List aM}(hp:kE (aJ X.prog X.w) X.A X.env X.xe)(hc:X.calm=true)(hi:EI X tg iter it)(hg:GN X tg is t)(hb:SDs X body fb) 
  (hs:∀x,gM iter X.env x=pure x:=by intro _;rfl):SD X (.For tg iter body [] pos) (wX it t fb):=xa (uC hp hc hi hg hb hs) λE σ H ⟨F0,H0,F,Γ,o,En,e,q⟩=>by
 obtain⟨ds,hd,e⟩:=bind_some e
 refine⟨F0,H0,F,Γ,ds,En,hd,λJ F1 H1 e1 itr=>?_⟩
 refine⟨λi m σ H=>m=ds.length-i/\i<=ds.length/\∃F2 Γ2,EnvIs X.K F0 H0 F2 H σ Γ2/\zw F1 F2/\wI t fb (ds.drop i) Γ2=some o,⟨ds.length,by simp,dJ _,F1,Γ,En.grow e1,zw.refl _,by simpa using e⟩,?_⟩
 rintro i m σ2 H2 ⟨rfl,hi,F2,Γ2,E2,s2,e2⟩
 obtain⟨go,stop⟩:=itr i F2 H2 s2 E2.fh
 by_cases hlt:i<ds.length
 ·obtain⟨g1,g2⟩:=go ds[i] (by simp[hlt])
  rw[mL hlt]at e2
  obtain⟨Γ3,h3,e2⟩:=bind_some e2
  obtain⟨o1,h4,e2⟩:=bind_some e2
  refine .inr ⟨g1,λσ' H'=>∃F3 Γ3,EnvIs X.K F0 H0 F3 H' σ' Γ3/\zw F1 F3/\wI t fb (ds.drop (i+1)) Γ3=some o,λσ' H' hh45'=>(by obtain⟨F3,Γ3,p1,p2,p3⟩:=hh45';exact⟨ds.length-(i+1),by omega,rfl,hlt,F3,Γ3,p1,p2,p3⟩),λx H' y=>?_⟩
  obtain⟨F3,ex,hx⟩:=g2 x H' y
  refine⟨F0,H0,F3,Γ2,ds[i],Γ3,E2.grow ex,hx,h3,λσ3 E3 _=>⟨F0,H0,F3,Γ3,o1,E3,h4,?_⟩⟩
  have s3:=s2.trans ex.ff
  cases o1 with
  | nx g=>exact λσ4 F4 H4 E4 z=>⟨F4,g,E4,s3.trans z,e2⟩
  | ct g=>exact λσ4 F4 H4 E4 z=>⟨F4,g,E4,s3.trans z,e2⟩
  | bk g=>cases e2;exact λσ4 F4 H4 E4 z=>q σ4 F4 H4 E4 ((e1.ff.trans s3).trans z)
  | rt d=>cases e2;exact q
 ·have:i=ds.length:=by omega
  subst this
  rw[mM]at e2
  cases e2
  exact .inl ⟨stop (aP _),q σ2 F2 H2 E2 (e1.ff.trans s2)⟩
def xP(t:G->Option Bool)(fb:G->Option Out):Nat->G->Option Out
 | 0,_=>none
 | n+1,Γ=>(t Γ).bind λx=>if x=true then(fb Γ).bind λo=>match o with
  | .nx j=>xP t fb n j
  | .ct j=>xP t fb n j
  | .bk j=>some (.nx j)
  | .rt d=>some (.rt d)else some (.nx Γ)
theorem Up(hp:kE (aJ X.prog X.w) X.A X.env X.xe)(hc:ET X c tf)(hb:SDs X J fb):SD X (.While c J [] pos) (xP tf fb n):=xa (Wv hp hc hb) λE σ H I=>by
 obtain⟨F0,H0,F,Γ,o,En,e,q⟩:=I
 refine⟨λm σ H=>∃Z O,EnvIs X.K F0 H0 Z H σ O/\zw F Z/\xP tf fb m O=some o,⟨n,F,Γ,En,zw.refl _,e⟩,?_⟩
 rintro m σ2 H2 ⟨Z,O,E2,s2,j⟩
 cases m with
 | zero=>cases j
 | succ m=>
  obtain⟨x,hx,j⟩:=bind_some j
  refine⟨F0,H0,Z,O,x,E2,hx,λR H3 e3=>?_⟩
  cases x with
  | false=>cases j;exact q σ2 R H3 (E2.grow e3) (s2.trans e3.ff)
  | true=>
   obtain⟨o1,h4,j⟩:=bind_some j
   refine⟨λσ' H'=>∃R Γ3,EnvIs X.K F0 H0 R H' σ' Γ3/\zw F R/\xP tf fb m Γ3=some o,λσ' H' z=>⟨m,iB _,z⟩,F0,H0,R,O,o1,E2.grow e3,h4,?_⟩
   have s3:=s2.trans e3.ff
   cases o1 with
   | nx g=>exact λσ4 U H4 Y z=>⟨U,g,Y,s3.trans z,j⟩
   | ct g=>exact λσ4 U H4 Y z=>⟨U,g,Y,s3.trans z,j⟩
   | bk g=>cases j;exact λσ4 U H4 Y z=>q σ4 U H4 Y (s3.trans z)
   | rt d=>cases j;exact q
def EF(X:Cx)(j:List aG)(f:G->Option Bool):Prop:=PF X j (dT X.K f)
def zI:G->Option Bool:=λ_=>some true
theorem xO:EF X [] zI:=λpins s σ H Q I j=>by obtain⟨F0,H0,F,Γ,b,z,e,q⟩:=j;exact Vb pins s σ H Q I (by cases e;exact q F H (.refl z.fh))
theorem zld(h:ET X c tf):EF X [c] tf:=zjB h
def yT(ms:List (Option Nat))(Γ:G):G:=ms.map λm=>match m with
 | none=>S.un
 | some j=>(Γ[j]?).getD S.un
theorem WA{ms:List (Option Nat)}{Γ:G}{i:Nat}{s:S}(h:(yT ms Γ)[i]?=some s):s=S.un\/∃j,ms[i]?=some (some j)/\Γ[j]?=some s:=by
 unfold yT at h
 rw[aY]at h
 cases e:ms[i]? with
 | none=>rw[e]at h;cases h
 | some m=>
  rw[e]at h
  cases m with
  | none=>cases h;exact .inl rfl
  | some j=>
   simp only[eL,ox]at h
   cases q:Γ[j]? with
   | none=>rw[q]at h;exact .inl h.symm
   | some z=>rw[q]at h;simp at h;subst h;exact .inr ⟨j,rfl,q⟩
theorem EnvIs.blk{K:aE}{F0 H0 F H:Hp}{σ:St}{Γ:G}{ms:List (Option Nat)}(E:EnvIs K F0 H0 F H σ Γ)(nd:∀(i k j:Nat),ms[i]?=some (some j)->ms[k]?=some (some j)->i=k):EnvIs K F0 H0 F H (L2.blk ms σ) (yT ms Γ):=by
 have get:∀(i j:Nat),ms[i]?=some (some j)->(L2.blk ms σ)[i]?=some ((σ[j]?).join):=λi j e=>by
  unfold L2.blk
  rw[aY,e]
  rfl
 refine⟨E.ext,by simp[L2.blk,yT],λi s e=>?_,λi k s t a hik e1 e2 o1 o2 r1 r2=>?_⟩
 ·have hlt:i<ms.length:=by
   have:=(bE.mp e).1
   simpa[yT]using this
  rcases WA e with rfl|⟨j,h1,h2⟩
  ·refine⟨((L2.blk ms σ)[i]?).join,?_,trivial⟩
   have:i<(L2.blk ms σ).length:=by simpa[L2.blk]using hlt
   rw[bK this];rfl
  ·obtain⟨o,h3,h4⟩:=E.val j s h2
   refine⟨o,?_,h4⟩
   rw[get i j h1,h3];rfl
 ·rcases WA e1 with rfl|⟨j,h1,h2⟩
  ·cases o1
  ·rcases WA e2 with rfl|⟨j',h1',h2'⟩
   ·cases o2
   ·have hjj:j≠j':=λz=>hik (nd i k j h1 (z▸h1'))
    have q1:σ[j]?=some (some (.ref a)):=by
     rw[get i j h1]at r1
     cases z:σ[j]? with
     | none=>rw[z]at r1;cases r1
     | some u=>rw[z]at r1;simp at r1;rw[r1]
    have q2:σ[j']?=some (some (.ref a)):=by
     rw[get k j' h1']at r2
     cases z:σ[j']? with
     | none=>rw[z]at r2;cases r2
     | some u=>rw[z]at r2;simp at r2;rw[r2]
    exact E.sep j j' s t a hjj h2 h2' o1 o2 q1 q2
def uS(t:D->G->Option G)(cond:G->Option Bool)(el:G->Option B)(Γ:G):List D->Option (List D)
 | []=>some []
 | d::r=>(t d Γ).bind λj=>(cond j).bind λb=>if b=true then(el j).bind λy=>y.asD.bind λz=>(uS t cond el Γ r).map λzs=>z::zs else uS t cond el Γ r
def z0(j:G->Option (List D))(ms:List (Option Nat))(t:D->G->Option G)(cond:G->Option Bool)(el:G->Option B):G->Option (List D):=λΓ=>(j Γ).bind λds=>if ds.length<=aH then uS t cond el (yT ms Γ) ds else none
structure Blk (X:Cx) (scope:cB) (N:List aC) (tg:aG) (ifs:List aG) (elt:aG) (is:List Nat) (t:D->G->Option G) (cond:G->Option Bool) (el:G->Option B):Prop where
 go:∀cl C s H ex,GN (yP X scope cl C N s H ex) tg is t/\EF (yP X scope cl C N s H ex) ifs cond/\EE (yP X scope cl C N s H ex) elt el
theorem Uq{R:G->Option (List D)}{ms:List (Option Nat)}{is:List Nat}{t:D->G->Option G}{cond:G->Option Bool}{el:G->Option B}{K:aE}{σ:St}{H:Hp}{Q:VK} 
  (nd:∀(i k j:Nat),ms[i]?=some (some j)->ms[k]?=some (some j)->i=k) (fr:∀j∈is,∀k,ms[j]?≠some (some k)):dL K (z0 R ms t cond el) σ H Q->zcU (dIc K R) (dGs K is t) (dT K cond) (dE K el) ms σ H Q:=λ⟨F0,H0,F,Γ,ys,En,e,q⟩=>by
 obtain⟨ds,hd,e⟩:=bind_some e
 by_cases hz:ds.length<=aH
 ·rw[if_pos hz]at e
  refine⟨F0,H0,F,Γ,ds,En,hd,λJ F1 H1 e1 ab=>?_⟩
  refine⟨λi m vs H2=>m=ds.length-i/\i<=ds.length/\vs.length<=i/\∃U Y rest,Ext F1 H1 U H2/\Are K U Y vs/\uS t cond el (yT ms Γ) (ds.drop i)=some rest/\ys=Y++rest,⟨ds.length,by simp,dJ _,aP _,F1,[],ys,.refl e1.fh,.nil,by simpa using e,rfl⟩,?_⟩
  rintro i m vs H2 ⟨rfl,hi,ac,U,Y,rest,O,r2,h2,rfl⟩
  obtain⟨go,Z⟩:=ab i U H2 O
  refine⟨bS ac (bS hi hz),?_⟩
  by_cases I:i<ds.length
  ·obtain⟨g1,g2⟩:=go ds[i] (by simp[I])
   rw[mL I]at h2
   obtain⟨Γ3,h3,h2⟩:=bind_some h2
   obtain⟨b,h4,h2⟩:=bind_some h2
   refine .inr ⟨g1,λx H' y=>?_⟩
   obtain⟨F3,ex,hx⟩:=g2 x H' y
   have E3:EnvIs K F0 H0 F3 H' (L2.blk ms σ) (yT ms Γ):=(((En.grow e1).grow O).grow ex).blk nd
   refine⟨F0,H0,F3,yT ms Γ,ds[i],Γ3,E3,hx,h3,λσ4 E4 bs=>⟨⟨bs.1,λj v hj=>?_⟩,F0,H0,F3,Γ3,b,E4,h4,λF5 H5 e5=>?_⟩⟩
   ·rw[bs.2 j λhm=>?_]
    ·exact hj
    ·obtain⟨k,hk,_⟩:=zbP hj
     exact fr j hm k hk
   ·have aa:=(O.trans ex).trans e5
    cases b with
    | false=>exact⟨ds.length-(i+1),by omega,rfl,I,by omega,F5,Y,rest,aa,r2.mono (ex.ff.trans e5.ff),h2,rfl⟩
    | true=>
     obtain⟨yb,h6,h2⟩:=bind_some h2
     obtain⟨z,h7,h2⟩:=bind_some h2
     obtain⟨zs,h8,rfl⟩:=map_some h2
     have:=xU h7;subst this
     refine⟨F0,H0,F5,Γ3,_,E4.grow e5,h6,λv F6 H6 e6 r6=>⟨by omega,ds.length-(i+1),by omega,rfl,I,by rw[bM,cN];omega,F6,Y++[z],zs,aa.trans e6,?_,h8,by rw[kU];rfl⟩⟩
     exact(r2.mono ((ex.ff.trans e5.ff).trans e6.ff)).append (.cons r6 .nil)
  ·have:i=ds.length:=by omega
   subst this
   rw[mM]at h2
   cases h2
   refine .inl ⟨Z (aP _),λp hp=>q p vs U _ ((e1.trans O).trans (.own O.fh hp _)) ((e1.hh.trans O.hh).free hp) (O.fh.free hp) zk ?_⟩
   rw[gB];exact r2
 ·rw[if_neg hz]at e;cases e
theorem wm{ifs:List aG}{scope:cB}{N:List aC}{src:G->Option (List D)}{ms:List (Option Nat)}{is:List Nat}{t:D->G->Option G}{cond:G->Option Bool}{el:G->Option B} 
 (hc:X.calm=true) (ok:CompOk X.env.scope X.N scope N ms) (hi:EC X tg iter src) (hb:Blk X scope N tg ifs elt is t cond el) (nd:∀(i k j:Nat),ms[i]?=some (some j)->ms[k]?=some (some j)->i=k) (fr:∀j∈is,∀k,ms[j]?≠some (some k))
 (hs:∀x,gM iter X.env x=pure x:=by intro _;rfl):EL X (.ListComp elt [⟨tg,iter,ifs,0⟩] scope pos) (z0 src ms t cond el):=yV (zbQ (g:=dGs X.K is t) (tf:=dT X.K cond) (te:=dE X.K el) hc ok hi hb.go hs) λσ H Q q=>Uq nd fr q
theorem zjI{ifs:List aG}{scope:cB}{N:List aC}{src:G->Option (List D)}{ms:List (Option Nat)}{is:List Nat}{t:D->G->Option G}{cond:G->Option Bool}{el:G->Option B}{i:Nat}{y:aC}{py spos:aR} 
  (hc:X.calm=true) (ok:CompOk X.env.scope X.N scope N ms) (hi:EC X tg iter src) (hb:Blk X scope N tg ifs elt is t cond el) (nd:∀(i k j:Nat),ms[i]?=some (some j)->ms[k]?=some (some j)->i=k) (fr:∀j∈is,∀k,ms[j]?≠some (some k))
  (hN:X.N.Nodup) (hy:X.N[i]?=some y) (hx:Loc X.env.scope y) (hsw:dD (.ListComp elt [⟨tg,iter,ifs,0⟩] scope pos) (some (.Name y py)) spos.line X.env=pure true)
  (hf:X.fn y=true\/X.env.scope.names.lookup y=some .local:=by first|exact .inl rfl|exact .inr rfl|assumption)
  (hs:∀x,gM iter X.env x=pure x:=by intro _;rfl):SD X (.Assign [.Name y py] (.ListComp elt [⟨tg,iter,ifs,0⟩] scope pos) spos) (vb i (z0 src ms t cond el)) :=
 xa (XM (g:=dGs X.K is t) (tf:=dT X.K cond) (te:=dE X.K el) hc ok hi hb.go hN hy hx hsw hf hs) λE σ H q=>by
  have q':=zbW (X:=X) q
  exact Uq nd fr q'
end
end DD
namespace DD
open PySem PySem.Spec L2
open PyProof.Rows hiding St
open PySem.SeqAt (shaped compareEq_shaped compareNe_shaped canLay_of_shaped room_of_shaped eqAt_reads)
section
variable {X:Cx} {pins:List (aA×aL)} {σ:St} {F H:Hp} {s:aD}
def zf1:aC:=⟨#[2000000]⟩
theorem zbX:eD zf1=false:=by decide+kernel
mutual
def toP:D->eU
 | .non=>.none
 | .bl b=>.bool b
 | .int i=>.int i
 | .str x=>.str x
 | .scr ns=>.list (ns.map PyData.int)
 | .tup xs=>.tuple (toPs xs)
 | .lst xs=>.list (toPs xs)
 | .dK _ _=>.str zf1
 | .dT _ _=>.str zf1
def toPs:List D->List eU
 | []=>[]
 | x::xs=>toP x::toPs xs
end
theorem Yy:∀xs:List D,toPs xs=xs.map toP
 | []=>rfl
 | x::xs=>by rw[toPs,Yy xs,bI]
theorem Vl{h:aK}:∀{ns:List Int} {us:List aB},zO (ns.map V.int) us->∃as,iU h us (ns.map PyData.int) as
 | [],_,.nil=>⟨_,.nil⟩
 | n::r,_,.cons ⟨t,e⟩ q=>by
  subst e
  obtain⟨as,j⟩:=Vl q
  exact⟨_,.cons (.int n t) j⟩
mutual
theorem Ur(I:Inv X pins σ H s)(j:zw F H):∀(d:D) {v:V} {u:aB},Is X.K F d v->zQ v u->(toP d).canLay0=true->∃as,iV s.heap u (toP d) as
 | .non,_,_,h,r,_=>by simp only[Is]at h;subst h;cases r;exact⟨_,.none⟩
 | .bl b,_,_,h,r,_=>by simp only[Is]at h;subst h;cases r;exact⟨_,.bool b⟩
 | .int i,_,_,h,r,_=>by simp only[Is]at h;subst h;obtain⟨t,rfl⟩:=r;exact⟨_,.int i t⟩
 | .str i,_,_,h,r,_=>by simp only[Is]at h;subst h;obtain⟨t,rfl⟩:=r;exact⟨_,.str i t⟩
 | .scr ns,_,_,h,r,_=>by
  simp only[Is]at h
  obtain⟨a,rfl,Y⟩:=h
  cases r
  obtain⟨its,q,⟨o,n,e,z,_,J⟩,_⟩:=I.list (j.seq Y)
  obtain⟨as,O⟩:=Vl (h:=s.heap) q
  exact⟨_,.list e z J (by simpa using O)⟩
 | .tup ds,_,_,h,r,c=>by
  simp only[Is]at h
  obtain⟨a,vs,rfl,R,U⟩:=h
  cases r
  obtain⟨its,q,⟨o,e,z,n,J⟩,_⟩:=I.tuple (SqT.of (K:=X.K) (j _ _ R))
  obtain⟨as,O⟩:=reads_Ds I j ds U q (by simpa[toP,eM]using c)
  exact⟨_,.tuple e z J (by simpa using O)⟩
 | .dK _ _,_,_,_,_,c=>by rw[toP,eM,zbX]at c;cases c
 | .dT _ _,_,_,_,_,c=>by rw[toP,eM,zbX]at c;cases c
 | .lst ds,_,_,h,r,c=>by
  simp only[Is]at h
  obtain⟨a,vs,rfl,R,U⟩:=h
  cases r
  obtain⟨its,q,⟨o,n,e,z,_,J⟩,_⟩:=I.list (SqL.of (K:=X.K) (j _ _ R))
  obtain⟨as,O⟩:=reads_Ds I j ds U q (by simpa[toP,eM]using c)
  exact⟨_,.list e z J (by simpa using O)⟩
theorem reads_Ds(I:Inv X pins σ H s)(j:zw F H):∀(ds:List D) {vs:List V} {us:List aB},Are X.K F ds vs->zO vs us->gI (toPs ds)=true->∃as,iU s.heap us (toPs ds) as
 | [],_,_,h,r,_=>by rw[h.inv0]at r;cases r;exact⟨_,.nil⟩
 | d::ds,_,_,h,r,c=>by
  have q:(toP d).canLay0=true/\gI (toPs ds)=true:=by simpa[toPs,gI]using c
  obtain⟨v,vs,rfl,h1,h2⟩:=h.inv
  cases r with
  | cons r1 r2=>
   obtain⟨as,z⟩:=Ur I j d h1 r1 q.1
   obtain⟨bs,J⟩:=reads_Ds I j ds h2 r2 q.2
   exact⟨_,.cons z J⟩
end
def ZO:B->Option eU
 | .d d=>some (toP d)
 | .l ds=>some (.list (toPs ds))
 | .c ds=>some (.tuple (toPs ds))
 | _=>none
theorem ui(I:Inv X pins σ H s)(j:zw F H)(e:ZO b=some p)(h:BIs X.K F H b v)(r:zQ v u)(c:p.canLay0=true):∃as,iV s.heap u p as:=by
 cases b with
 | d d=>cases e;exact Ur I j d h r c
 | l ds=>
  cases e
  obtain⟨a,vs,rfl,q,z⟩:=h
  cases r
  obtain⟨its,J,⟨o,n,e,O,_,R⟩,_⟩:=I.list (SqL.of (K:=X.K) q)
  obtain⟨as,U⟩:=reads_Ds I j ds z J (by simpa[eM]using c)
  exact⟨_,.list e O R (by simpa using U)⟩
 | c ds=>
  cases e
  obtain⟨a,vs,rfl,q,z⟩:=h
  cases r
  obtain⟨its,J,⟨o,e,O,n,R⟩,_⟩:=I.tuple q
  obtain⟨as,U⟩:=reads_Ds I j ds z J (by simpa[eM]using c)
  exact⟨_,.tuple e O R (by simpa using U)⟩
 | _=>cases e
theorem Us:∀{ps:List eU},(∀p∈ps,bZ p=true)->gI ps=true
 | [],_=>rfl
 | p::r,h=>by
  have h1:=eE (h p bN)
  have h2:=Us λq j=>h q (bO _ j)
  simp[gI,h1,h2]
def RP(K:aE)(H:Hp)(v:V)(p:eU):Prop:=∃F b,zw F H/\ZO b=some p/\BIs K F H b v
def zf2(K:aE)(j:Bool):R2:=λx y H Q=>∃p q,RP K H x p/\RP K H y q/\bZ p=true/\bZ q=true/\Q (.bl (if j then !PyData.eqv p q else bL p q)) H
theorem wP(J:X.A.units+64<bV):OpR X (cP .Eq) (zf2 X.K false):=by
 rintro pins s σ H x y v u Q I O R ⟨p,q,⟨F,b,U,e,h⟩,⟨F',b',j,Y,h'⟩,sp,z,Z⟩
 obtain⟨as,ra⟩:=ui I U e h O (eE sp)
 obtain⟨bs,rb⟩:=ui I j Y h' R (eE z)
 exact compareEq_shaped ra rb sp z J ⟨.bl _,H,I,rfl,Z⟩
theorem JN(J:X.A.units+64<bV):OpR X (cP .NotEq) (zf2 X.K true):=by
 rintro pins s σ H x y v u Q I O R ⟨p,q,⟨F,b,U,e,h⟩,⟨F',b',j,Y,h'⟩,sp,z,Z⟩
 obtain⟨as,ra⟩:=ui I U e h O (eE sp)
 obtain⟨bs,rb⟩:=ui I j Y h' R (eE z)
 exact compareNe_shaped ra rb sp z J ⟨.bl _,H,I,rfl,Z⟩
def mEq(j:Bool):B->B->Option D:=λx y=>(ZO x).bind λp=>(ZO y).bind λq=>if bZ p=true/\bZ q=true then some (.bl (if j then !PyData.eqv p q else bL p q))else none
theorem wM{K:aE}{j:Bool}:OpB K (zf2 K j) (mEq j):=λF H x y v u d Q I R U e q=>by
 obtain⟨p,Y,e⟩:=bind_some e
 obtain⟨O,J,e⟩:=bind_some e
 by_cases z:bZ p=true/\bZ O=true
 ·rw[if_pos z]at e;cases e
  exact⟨p,O,⟨F,x,I,Y,R⟩,⟨F,y,I,J,U⟩,z.1,z.2,q _ F H (.refl I) vZ⟩
 ·rw[if_neg z]at e;cases e
open Classical in
noncomputable def eqR (h:aK) (q:eU) (u:aB):Bool:=if z:∃p,(∃as,iV h u p as)/\p.canLay0=true then bL z.choose q else false
theorem JO(r:iV h u p as)(c:p.canLay0=true):eqR h q u=bL p q:=by
 have z:∃p,(∃as,iV h u p as)/\p.canLay0=true:=⟨p,⟨as,r⟩,c⟩
 unfold eqR
 rw[dif_pos z]
 obtain⟨⟨bs,r2⟩,j⟩:=z.choose_spec
 rw[qY _ _ _ _ _ j r2 r]
theorem Z4:∀{ps:List eU} {us:List aB} {as:List aA},iU h us ps as->(∀p∈ps,bZ p=true)->us.any (eqR h q)=ps.any λp=>bL p q:=λ{ps}=>by
 induction ps with
 | nil=>intro us as r _;cases r;rfl
 | cons p ps j=>
  intro us as r c
  cases r with
  | cons r t=>rw[fQ,fQ,JO r (eE (c p bN)),j t λz I=>c z (bO _ I)]
theorem Z5(z:iV s.heap v q bs)(I:bZ q=true)(J:A.units+64<bV):∀{ps:List eU} {us:List aB} {as:List aA},iU s.heap us ps as->(∀p∈ps,bZ p=true)->∀u∈us,SeqAt.EqAt A s u v (eqR s.heap q u):=λ{ps}=>by
 induction ps with
 | nil=>intro us as r _ u j;cases r;exact nomatch j
 | cons p ps O=>
  intro us as r c u j
  cases r with
  | cons r t=>
   rcases aU.mp j with rfl|j
   ·have sp:=c p bN
    rw[JO r (eE sp)]
    exact eqAt_reads _ _ _ _ _ _ _ _ r z (eE sp) (eE I) (room_of_shaped sp J)
   ·exact O t (λR U=>c R (bO _ U)) u j
def RPs(K:aE)(H:Hp)(a:aA)(ps:List eU):Prop:=∃F ds vs,zw F H/\(SqL K H a vs\/SqT K H a vs)/\Are K F ds vs/\ps=toPs ds
def zf3(K:aE)(j:Bool):R2:=λx y H Q=>∃q a ps,RP K H x q/\y=.ref a/\RPs K H a ps/\bZ q=true/\(∀p∈ps,bZ p=true)/\Q (.bl (if j then !ps.any (λp=>bL p q)else ps.any λp=>bL p q)) H
theorem JP(hu:X.A.units+128<bV):OpR X (cP .In) (zf3 X.K false):=by
 rintro pins s σ H x y v u Q I rx ry ⟨q,a,ps,⟨F,b,sm,e,h⟩,ey,⟨F',ds,vs,sm',hs,ra,eps⟩,sq,sp,hq⟩
 subst ey
 subst eps
 cases ry
 have hu1:X.A.in1.units+64<bV:=by show X.A.units+1+64<bV;omega
 obtain⟨bs,rb⟩:=ui I sm e h rx (eE sq)
 rcases hs with hs|hs
 ·obtain⟨its,rv,pl,hz⟩:=I.list hs
  obtain⟨as,rs⟩:=reads_Ds I sm' ds ra rv (Us sp)
  refine SeqAt.in_listAt (eqR s.heap q) pl.isList (λw hw=>Z5 rb sq hu1 rs sp w (by simpa using hw)) ⟨.bl _,H,I,rfl,?_⟩
  rw[show its.toArray.any (eqR s.heap q)=its.any (eqR s.heap q) by simp,Z4 rs sp]
  exact hq
 ·obtain⟨its,rv,pl,hz⟩:=I.tuple hs
  obtain⟨as,rs⟩:=reads_Ds I sm' ds ra rv (Us sp)
  refine oP (eqR s.heap q) pl (λw hw=>Z5 rb sq hu1 rs sp w (by simpa using hw)) ⟨.bl _,H,I,rfl,?_⟩
  rw[show its.toArray.any (eqR s.heap q)=its.any (eqR s.heap q) by simp,Z4 rs sp]
  exact hq
theorem zij(hu:X.A.units+128<bV):OpR X (cP .NotIn) (zf3 X.K true):=by
 rintro pins s σ H x y v u Q I rx ry ⟨q,a,ps,⟨F,b,sm,e,h⟩,ey,⟨F',ds,vs,sm',hs,ra,eps⟩,sq,sp,hq⟩
 subst ey
 subst eps
 cases ry
 have hu1:X.A.in1.units+64<bV:=by show X.A.units+1+64<bV;omega
 obtain⟨bs,rb⟩:=ui I sm e h rx (eE sq)
 rcases hs with hs|hs
 ·obtain⟨its,rv,pl,hz⟩:=I.list hs
  obtain⟨as,rs⟩:=reads_Ds I sm' ds ra rv (Us sp)
  refine SeqAt.notIn_listAt (eqR s.heap q) pl.isList (λw hw=>Z5 rb sq hu1 rs sp w (by simpa using hw)) ⟨.bl _,H,I,rfl,?_⟩
  rw[show its.toArray.any (eqR s.heap q)=its.any (eqR s.heap q) by simp,Z4 rs sp]
  exact hq
 ·obtain⟨its,rv,pl,hz⟩:=I.tuple hs
  obtain⟨as,rs⟩:=reads_Ds I sm' ds ra rv (Us sp)
  refine SeqAt.notIn_tupleAt (eqR s.heap q) pl (λw hw=>Z5 rb sq hu1 rs sp w (by simpa using hw)) ⟨.bl _,H,I,rfl,?_⟩
  rw[show its.toArray.any (eqR s.heap q)=its.any (eqR s.heap q) by simp,Z4 rs sp]
  exact hq
def mIn(j:Bool):B->B->Option D:=λx y=>(ZO x).bind λq=>y.seq.bind λds=>if bZ q=true/\(toPs ds).all bZ=true then some (.bl (if j then !(toPs ds).any (λp=>bL p q)else(toPs ds).any λp=>bL p q))else none
theorem Jg{K:aE}{j:Bool}:OpB K (zf3 K j) (mIn j):=λF H x y v u d Q z O R e q=>by
 obtain⟨p,J,e⟩:=bind_some e
 obtain⟨ds,U,e⟩:=bind_some e
 by_cases I:bZ p=true/\(toPs ds).all bZ=true
 ·rw[if_pos I]at e;cases e
  obtain⟨a,vs,rfl,Y,Z⟩:=JI z U R
  exact⟨p,a,toPs ds,⟨F,x,z,J,O⟩,rfl,⟨F,ds,vs,z,Y,Z,rfl⟩,I.1,λp J=>dG.mp I.2 p J,q _ F H (.refl z) vZ⟩
 ·rw[if_neg I]at e;cases e
theorem vE(U:X.calm=true):wo X (.builtin "all") (λxs H Q=>∃p bs,xs=[.ref p]/\SqL X.K H p ((bs:List Bool).map V.bl)/\Q (.bl (bs.all id)) H):=by
 intro pins s σ H xs us Q I r h
 obtain⟨p,bs,rfl,Y,q⟩:=h
 obtain⟨u,rfl,Z⟩:=uR r
 cases Z
 obtain⟨its,O,pl,hz⟩:=I.list Y
 have R:its.length=bs.length:=by rw[<-O.length,aN]
 have get:∀(i:Nat) (b:Bool),bs[i]?=some b->its[i]?=some (.bool b):=λi b e=>by
  obtain⟨u,h1,h2⟩:=O.get (i:=i) (x:=.bl b) (by rw[aY,e];rfl)
  cases h2
  exact h1
 have hp:p<s.heap.objs.size:=by obtain⟨o,n,e,_⟩:=pl;exact bF e
 refine call_all_walk (kG pl.isList ?_)
 refine⟨s.heap.objs.size,_,_,its.toArray.size,_,_,λi=>bs.getD i true,rfl,Walks.list (A:=X.A.in1) (I.ok.hd U) s.heap.objs.size p (bT hp) its.toArray,⟨⟨_,cK _ rfl,rfl,rfl⟩,pl.isList.push _⟩,λi v s' Q' E' hP hQ=>?_,λh' tk hk=>?_⟩
 ·have j:its[i]?=some v:=by simpa using hP
  have J:i<bs.length:=by rw[<-R];exact(bE.mp j).1
  have:=get i bs[i] (by simp[J])
  rw[j]at this;cases this
  have e:bs.getD i true=bs[i]:=by simp[fR,J]
  refine iK ?_
  rw[<-e];exact hQ
 ·have I':Inv X pins σ H {s with heap:=h',toks:=tk}:=I.kept λb o e=>hk b o (by simpa using bT (bF e)) (bB _ e)
  have e:(aF its.toArray.size).all (λi=>bs.getD i true)=bs.all id:=by
   rw[cF,R,gO]
   simp only[dG,bR,id]
   constructor
   ·intro z b hb
    obtain⟨i,hi,rfl⟩:=cS.mp hb
    have:=z i hi
    simpa[fR,hi]using this
   ·intro z i hi
    have:=z bs[i] (bY hi)
    simpa[fR,hi]using this
  rw[e]
  exact⟨.bl _,H,I',rfl,q⟩
def v4:List D->Option (List Bool)
 | []=>some []
 | .bl b::r=>(v4 r).map λbs=>b::bs
 | _::_=>none
theorem Qo{K:aE}{F:Hp}:∀{ds:List D} {bs:List Bool} {vs:List V},v4 ds=some bs->Are K F ds vs->vs=bs.map V.bl
 | [],_,_,e,h=>by cases e;rw[h.inv0];rfl
 | d::r,_,_,e,h=>by
  obtain⟨v,vs,rfl,h1,h2⟩:=h.inv
  cases d with
  | bl b=>
   obtain⟨bs,j,rfl⟩:=map_some (show(v4 r).map _=some _ from e)
   simp only[Is]at h1
   rw[h1,Qo j h2];rfl
  | _=>cases e
def WB:List B->Option D
 | [b]=>b.lst.bind λds=>(v4 ds).map λbs=>.bl (bs.all id)
 | _=>none
theorem Xd{K:aE}:Zx K (λxs H Q=>∃p bs,xs=[.ref p]/\SqL K H p ((bs:List Bool).map V.bl)/\Q (.bl (bs.all id)) H) WB:=λF H bs vs d Q z h e q=>by
 match bs,e,h with
 | [b],e,h=>
  obtain⟨v,rfl,I⟩:=v0 h
  obtain⟨ds,J,e⟩:=bind_some e
  obtain⟨bs,j,rfl⟩:=map_some e
  obtain⟨a,ys,rfl,O,r⟩:=Zg z J I
  have:=Qo j r
  subst this
  exact⟨a,bs,rfl,SqL.of O,q _ F H (.refl z) vZ⟩
end
end DD
namespace DD
open PySem PySem.Spec L2
open PyProof.Rows hiding St
section
variable {X:Cx} {pins:List (aA×aL)} {σ:St} {F H:Hp} {s:aD} {a b c e tg iter elt:aG} {f g h:G->Option B} {pos:aR} {es:List aG} {fs:G->Option (List B)} {tf:G->Option Bool}
def isi(t c:Ty):Bool:=decide (t=c) || (decide (t=.bl) && decide (c=.int))
theorem zik(K:aE)(t c:Ty):nN K (.type t.name) (.type c.name)=some (isi t c):=by
 cases t <;>cases c <;>rfl
def D.tyOf:D->Option Ty
 | .non=>some .non
 | .bl _=>some .bl
 | .int _=>some .int
 | .str _=>some .str
 | .tup _=>some .tup
 | .lst _=>some .lst
 | .scr _=>none
 | .dK _ _=>none
 | .dT _ _=>none
theorem zil{K:aE}{d:D}{t:Ty}{v:V}(q:zw F H)(e:d.tyOf=some t)(h:Is K F d v):TyOf K H v (.type t.name):=by
 cases d with
 | non=>cases e;simp only[Is]at h;subst h;exact .non
 | bl b=>cases e;simp only[Is]at h;subst h;exact .bl b
 | int b=>cases e;simp only[Is]at h;subst h;exact .int b
 | str b=>cases e;simp only[Is]at h;subst h;exact .str b
 | scr ns=>cases e
 | dK _ _=>cases e
 | dT _ _=>cases e
 | tup ds=>cases e;simp only[Is]at h;obtain⟨p,vs,rfl,j,_⟩:=h;exact .tup (q _ _ j)
 | lst ds=>cases e;simp only[Is]at h;obtain⟨p,vs,rfl,j,_⟩:=h;exact .lst (q _ _ j)
theorem xD:wo X (.builtin "isinstance") (λxs H Q=>∃x t c,xs=[x,.ty (Ty.name c)]/\TyOf X.K H x (.type (Ty.name t))/\Q (.bl (isi t c)) H):=by
 intro pins s σ H xs us Q I r h
 obtain⟨x,t,c,rfl,ty,q⟩:=h
 cases r with
 | cons r1 r2=>
  cases r2 with
  | cons r2 j=>
   cases j
   cases r2
   exact zew I r1 ty (zik _ _ _) λtk=>⟨.bl _,H,I.tok tk,rfl,q⟩
def vc:List B->Option D
 | [.d x,.ty c]=>x.tyOf.map λt=>.bl (isi t c)
 | [.l _,.ty c]=>some (.bl (isi .lst c))
 | _=>none
theorem wF{K:aE}:Zx K (λxs H Q=>∃x t c,xs=[x,.ty (Ty.name c)]/\TyOf K H x (.type (Ty.name t))/\Q (.bl (isi t c)) H) vc:=λF H bs vs d Q j h e q=>by
 match bs,e,h with
 | [.d x,.ty c],e,h=>
  obtain⟨t,I,rfl⟩:=map_some e
  cases h with
  | cons h1 h2=>
   cases h2 with
   | cons h2 z=>
    cases z
    cases h2
    exact⟨_,t,c,rfl,zil j I h1,q _ F H (.refl j) vZ⟩
 | [.l ds,.ty c],e,h=>
  cases e
  cases h with
  | cons h1 h2=>
   cases h2 with
   | cons h2 z=>
    cases z
    cases h2
    obtain⟨p,ws,rfl,J,_⟩:=h1
    exact⟨_,.lst,c,rfl,.lst J,q _ F H (.refl j) vZ⟩
def xTy(c:Ty):G->Option B:=λ_=>some (.ty c)
theorem v5(c:Ty)(j:Gl X x)(I:X.mg x=none)(J:fV x=some (.type c.name))(O:x≠"__name__":=by decide)(R:(x==("__debug__":aC))=false:=by decide):EE X (.Name x p) (xTy c) :=
 yV (zh8 (v:=.ty c.name) j I J rfl O R) λσ H Q ⟨F0,H0,F,Γ,z,E,e,q⟩=>by cases e;exact q _ F H (.refl E.fh) rfl
theorem EnvIs.change{K:aE}{F0 H0 F H:Hp}{σ:St}{Γ:G}{i:Nat}{s1 s0:S}{p:aA}{o:HO}(E:EnvIs K F0 H0 F H σ Γ)(hi:Γ[i]?=some s1)(ho:s1.own=true)(hs:σ[i]?=some (some (.ref p)))(h0:H0 p=none)(hf:F p=none) 
  (h:SIs K H0 F (upd H p o) s0 (some (.ref p))):EnvIs K F0 H0 F (upd H p o) σ (Γ.set i s0):=by
 have Z:i<Γ.length:=(bE.mp hi).1
 have U:∀(j:Nat) s,Γ[j]?=some s->s.own=true->∃q,σ[j]?=some (some (.ref q)):=λj s e Y=>by
  obtain⟨o',h1,h2⟩:=E.val j s e
  cases s with
  | un=>cases Y
  | v d=>cases Y
  | ol ds=>obtain⟨q,_,rfl,_⟩:=h2;exact⟨q,h1⟩
  | ot ds=>obtain⟨q,_,rfl,_⟩:=h2;exact⟨q,h1⟩
  | ok ds=>obtain⟨q,_,rfl,_⟩:=h2;exact⟨q,h1⟩
 refine⟨E.ext.turn h0 hf o,by simpa using E.len,λj s e=>?_,λj k s t b aa e1 e2 o1 o2 r1 r2=>?_⟩
 ·by_cases hj:j=i
  ·subst hj
   rw[eQ Z]at e
   cases e
   exact⟨_,hs,h⟩
  ·rw[dX (aQ hj)]at e
   obtain⟨o',h1,h2⟩:=E.val j s e
   refine⟨o',h1,?_⟩
   have ne:∀q,s.own=true->σ[j]?=some (some (.ref q))->q≠p:=λq Y sq z=>by
    subst z
    exact E.sep j i s s1 q hj e hi Y ho sq hs
   cases s with
   | un=>trivial
   | v d=>exact h2
   | ol ds=>obtain⟨q,vs,rfl,I,p2,J,O⟩:=h2;exact⟨q,vs,rfl,by rw[ze (ne q rfl h1)];exact I,p2,J,O⟩
   | ot ds=>obtain⟨q,vs,rfl,I,p2,J,O⟩:=h2;exact⟨q,vs,rfl,by rw[ze (ne q rfl h1)];exact I,p2,J,O⟩
   | ok ds=>obtain⟨q,vs,rfl,I,p2,J,O⟩:=h2;exact⟨q,vs,rfl,by rw[ze (ne q rfl h1)];exact I,p2,J,O⟩
 ·have R:∀(k:Nat) (t:S),(Γ.set i s0)[k]?=some t->t.own=true->∃t',Γ[k]?=some t'/\t'.own=true:=λk t e o=>by
   by_cases z:k=i
   ·subst z;exact⟨s1,hi,ho⟩
   ·rw[dX (aQ z)]at e;exact⟨t,e,o⟩
  obtain⟨s',ab,ac⟩:=R j s e1 o1
  obtain⟨t',ad,ae⟩:=R k t e2 o2
  exact E.sep j k s' t' b aa ab ad ac ae r1 r2
def wJ(Γ:G)(i:Nat):Option (List D):=match Γ[i]? with
 | some (.ol ds)=>some ds
 | _=>none
theorem Xe(e:wJ Γ i=some ds):Γ[i]?=some (.ol ds):=by
 unfold wJ at e
 split at e
 ·rename_i q;cases e;exact q
 ·cases e
def vx(i:Nat)(f:G->Option B):G->Option Out:=λΓ=>(wJ Γ i).bind λds=>(f Γ).bind λb=>b.asD.bind λd=>if ds.length<aH then some (.nx (Γ.set i (.ol (ds++[d]))))else none
theorem vI{i:Nat}{x:aC}{px apos cpos:aR} 
  (hsw:dD (.Call (.Attribute (.Name x px) "append" apos) [e] [] cpos) none pos.line X.env=pure false:=by rfl)
  (h1:PE X (.Call (.Attribute (.Name x px) "append" apos) [e] [] cpos) (tBM X.K "list" zbM (vN i) (uw (dE X.K f) Yu))) :
  SD X (.Expr (.Call (.Attribute (.Name x px) "append" apos) [e] [] cpos) pos) (vx i f):=xa (y0 h1 hsw) λE σ H ⟨F0,H0,F,Γ,o,En,e,q⟩=>by
 obtain⟨ds,hd,e⟩:=bind_some e
 obtain⟨b,hb,e⟩:=bind_some e
 obtain⟨d,hd2,e3⟩:=bind_some e
 have:=xU hd2;subst this
 have hi:=Xe hd
 by_cases hz:ds.length<aH
 ·rw[if_pos hz]at e3;cases e3
  obtain⟨o,h1,p,vs,rfl,h2,h3,h4,h5⟩:=En.val i _ hi
  refine⟨.ref p,h1,.inl ⟨rfl,vs,SqL.of h2⟩,F0,H0,F,Γ,_,En,hb,λv F1 H1 e1 r1=>⟨p,vs,v,rfl,rfl,e1.hh _ _ h2,by rw[h3.length];exact hz,?_⟩⟩
  have hf1:F1 p=none:=e1.freed h4 (by rw[h2];simp)
  refine q σ F1 _ ((En.grow e1).change (s1:=.ol ds) hi rfl h1 h5 hf1 ⟨p,vs++[v],rfl,zk,(h3.mono e1.ff).append (.cons r1 .nil),hf1,h5⟩) e1.ff
 ·rw[if_neg hz]at e3;cases e3
def JQ(i:Nat)(f:G->Option B):G->Option Out:=λΓ=>(wJ Γ i).bind λds=>(f Γ).bind λb=>b.lst.bind λes=>if ds.length+es.length<=aH then some (.nx (Γ.set i (.ol (ds++es))))else none
theorem zhO{i:Nat}{x:aC}{px apos cpos:aR} 
  (hsw:dD (.Call (.Attribute (.Name x px) "extend" apos) [e] [] cpos) none pos.line X.env=pure false:=by rfl)
  (h1:PE X (.Call (.Attribute (.Name x px) "extend" apos) [e] [] cpos) (tBM X.K "list" zbN (vN i) (uw (dE X.K f) Yu))) :
  SD X (.Expr (.Call (.Attribute (.Name x px) "extend" apos) [e] [] cpos) pos) (JQ i f):=xa (y0 h1 hsw) λE σ H ⟨F0,H0,F,Γ,o,En,e,q⟩=>by
 obtain⟨ds,hd,e⟩:=bind_some e
 obtain⟨b,hb,e⟩:=bind_some e
 obtain⟨es,he,e⟩:=bind_some e
 have hi:=Xe hd
 by_cases hz:ds.length+es.length<=aH
 ·rw[if_pos hz]at e;cases e
  obtain⟨o,h1,p,vs,rfl,h2,h3,h4,h5⟩:=En.val i _ hi
  refine⟨.ref p,h1,.inl ⟨rfl,vs,SqL.of h2⟩,F0,H0,F,Γ,_,En,hb,λv F1 H1 e1 r1=>?_⟩
  obtain⟨l,us,rfl,hl,ru⟩:=Zg e1.fh he r1
  refine⟨p,l,vs,us,rfl,rfl,e1.hh _ _ h2,hl,by rw[h3.length,ru.length];exact hz,?_⟩
  have hf1:F1 p=none:=e1.freed h4 (by rw[h2];simp)
  refine q σ F1 _ ((En.grow e1).change (s1:=.ol ds) hi rfl h1 h5 hf1 ⟨p,vs++us,rfl,zk,(h3.mono e1.ff).append ru,hf1,h5⟩) e1.ff
 ·rw[if_neg hz]at e;cases e
def zC(n:Nat)(ds:List D):G:=ds.map S.v++aZ (n-ds.length) S.un
def mir(j n:Nat)(f:G->Option Out):List D->Option D:=λds=>if ds.length=j then match f (zC n ds)with
 | some (.rt d)=>some d
 | some (.nx _)=>some .non
 | _=>none else none
theorem JR{K:aE}{F H:Hp}{N:List aC}{ds:List D}{vs:List V}(sm:zw F H)(r:Are K F ds vs):EnvIs K F H F H (L2.start N vs) (zC N.length ds):=by
 have hl:=r.length
 refine⟨.refl sm,by simp[L2.start,zC,hl],λi s e=>?_,λi j s t p hij e1 e2 o1 o2 _ _=>?_⟩
 ·unfold zC at e
  unfold L2.start
  by_cases hi:i<ds.length
  ·rw[dF (by simpa using hi),aY]at e
   rw[dF (by simpa[hl]using hi),aY]
   obtain⟨d,hd,rfl⟩:=map_some e
   obtain⟨v,hv,hq⟩:=r.get hd
   exact⟨some v,by rw[hv];rfl,v,rfl,hq⟩
  ·rw[fF (by simpa using hi),l9]at e
   rw[fF (by simpa[hl]using hi),l9]
   simp only[aN]at e ⊢
   split at e
   ·rename_i hlt
    cases e
    exact⟨none,by rw[if_pos (by rw[hl];exact hlt)],trivial⟩
   ·cases e
 ·have no:∀(k:Nat) (t:S),(zC N.length ds)[k]?=some t->t.own=false:=λk t e=>by
   have hm:=cE e
   unfold zC at hm
   rcases bX.mp hm with hm|hm
   ·obtain⟨d,_,rfl⟩:=bA.mp hm;rfl
   ·rw[(List.mem_replicate.mp hm).2];rfl
  rw[no i s e1]at o1;cases o1
structure Callee (P:aS) (w:aO) (K:aE) (mg:aC->Option aB) (base:aK) (k:Nat) (x:aC) (m:List D->Option D):Prop where
 ex:∃fa fd ps,FnOk P w K mg base CX0 k fa fd ps (spD K m)/\mg x=some (.ref fa)/\gA K (.ref fa)=true/\xk K fd ps []
theorem zJ{P:aS}{w:aO}{K:aE}{mg:aC->Option aB}{base:aK}{k:Nat}{x:aC}{st:aM}{fa:aA}{fd:bQ}{N ps:List aC}{f:G->Option Out}(J:Fun K x x st fa fd)(R:mg x=some (.ref fa))(S:FnScope N ps (zq st))(U:xk K fd ps []) 
  (j:∀(cdv:aB) (A:bG) (outer:List cA) (s:aD) (H:Hp) (E:XK),Room k (A.deeper (fE x (zq st) s.heap.objs.size fa cdv))->SDs (Y7 CX0 P w K mg base N x (zq st) fa cdv A outer s H E).nox (vT st) f) :
  Callee P w K mg base (k+1) x (mir ps.length N.length f):=by
 refine⟨fa,fd,ps,J.ok S (λvs H Q E ⟨F,ds,d,O,r,e,q⟩=>?_) (λcdv A outer s H vs Q E Y ⟨F,ds,d,O,r,e,q⟩=>⟨_,j cdv A outer s H E Y,?_⟩),R,J.kp,U⟩
 ·unfold mir at e
  split at e
  ·rename_i h;rw[r.length];exact h
  ·cases e
 ·unfold mir at e
  split at e
  ·cases I:f (zC N.length ds)with
   | none=>rw[I]at e;cases e
   | some o=>
    rw[I]at e
    refine⟨F,H,F,zC N.length ds,o,JR O r,I,?_⟩
    cases o with
    | rt d'=>cases e;exact λv F' H' ex Z=>q v F' H' ex Z
    | nx g=>cases e;exact λσ' F' H' En z=>q _ F' H' En.ext (by simp[Is])
    | bk g=>cases e
    | ct g=>cases e
  ·cases e
theorem zx{k I:Nat}{x:aC}{p:aR}{m:List D->Option D}(C:Callee X.prog X.w X.K X.mg X.base k x m)(J:Room I X.A)(O:k<=I)(R:Gl X x) 
  (U:EA X (e::es) fs) (j:(x==("__debug__":aC))=false:=by decide) (Y:bD (e::es) X.env=(false,aW e X.env)::bD es X.env:=by rfl) (q:(cX pos (bD es X.env)).any (·.1)=false:=by rfl) :
  EE X (.Call (.Name x p) (e::es) [] pos) (xFn m fs):=by
 obtain⟨fa,fd,ps,Z,hm,z,hb⟩:=C.ex
 exact zjE Z (J.mono O) R hm z hb U j Y q
def ya(ds:List D):List D:=(aF ds.length).map λ(k:Nat)=>D.tup [.int (k:Int),ds.getD k .non]
def xEn(fs:G->Option (List B)):G->Option (List D):=λΓ=>(fs Γ).bind λbs=>match bs with
 | [.d (.tup ds)]=>some (ya ds)
 | _=>none
theorem zbY{p tp:aR}{z:List aG}{k:Nat}(hg:Gl X "enumerate")(hm:X.mg "enumerate"=none)(ha:EA X [a] fs)(hs:bD [a] X.env=[(false,aW a X.env)]:=by rfl):
  EI X (.Tuple z k tp) (.Call (.Name "enumerate" p) [a] [] pos) (xEn fs):=Z3 (JG hg hm ha hs) λσ H R ⟨F0,H0,F,Γ,ds,En,e,q⟩=>by
 obtain⟨bs,hb,e⟩:=bind_some e
 refine⟨F0,H0,F,Γ,bs,En,hb,λvs Y H1 Z r1=>?_⟩
 match bs,e,r1 with
 | [.d (.tup ds)],e,r1=>
  cases e
  obtain⟨v,rfl,hv⟩:=v0 r1
  have I:Is X.K Y (.tup ds) v:=hv
  simp only[Is]at I
  obtain⟨l,us,rfl,hf,ra⟩:=I
  refine⟨l,rfl,⟨us,SqT.of (Z.fh _ _ hf)⟩,q _ Y H1 Z λi F2 H2 s1 s2=>?_⟩
  have J:SqT X.K H2 l us:=SqT.of (s2 _ _ (s1 _ _ hf))
  refine⟨λd O=>?_,λhl=>⟨us,J,by rw[ra.length];simpa[ya]using hl⟩⟩
  have j:i<ds.length:=by
   have:=(bE.mp O).1
   simpa[ya]using this
  obtain⟨u,hu,hi⟩:=ra.get (i:=i) (d:=ds[i]) (by simp[j])
  have U:d=.tup [.int (i:Int),ds[i]]:=by
   have:(ya ds)[i]?=some (.tup [.int (i:Int),ds[i]]):=by
    simp[ya,aY,fP j,fR,j]
   rw[this]at O;cases O;rfl
  subst U
  refine⟨⟨us,u,J,hu⟩,λx H' y=>?_⟩
  obtain⟨T,v,hT,rfl,rfl,y⟩:=y
  have:=y us J
  rw[hu]at this;cases this
  refine⟨upd F2 T (.tup [.int i,u]),.fix s2 hT _,?_⟩
  simp only[Is]
  exact⟨T,_,rfl,zk,.cons wO (.cons (hi.mono (s1.trans (zK (s2.free hT) _))) .nil)⟩
end
section
variable {X:Cx} {pins:List (aA×aL)} {σ:St} {F H:Hp} {s:aD} {a b c e tg iter elt:aG} {f g h:G->Option B} {pos:aR} {es:List aG} {fs:G->Option (List B)} {tf:G->Option Bool}
theorem zjJ{K:aE}{fl:G->Option (List D)}{σ:St}{H:Hp}{Q:VK}:dE K (xL fl) σ H Q->dL K fl σ H Q:=λj=>by
 obtain⟨F0,H0,F,Γ,z,E,e,q⟩:=j
 unfold xL at e
 cases I:fl Γ with
 | none=>rw[I]at e;cases e
 | some ds=>
  rw[I]at e;cases e
  refine⟨F0,H0,F,Γ,ds,E,I,λa vs O H1 R U J Y r1=>q _ (upd O a (.lst vs)) H1 ?_ ?_⟩
  ·exact(Ext.freeze R U J Y)
  ·show Is _ _ (.lst ds) _
   simp only[Is]
   exact⟨a,vs,rfl,zk,r1.mono (zK J _)⟩
theorem Z6{ifs:List aG}{scope:cB}{N:List aC}{src:G->Option (List D)}{ms:List (Option Nat)}{is:List Nat}{t:D->G->Option G}{cond:G->Option Bool}{el:G->Option B}{i:Nat}{y:aC}{py spos:aR} 
  (hc:X.calm=true) (ok:CompOk X.env.scope X.N scope N ms) (hi:EC X tg iter src) (hb:Blk X scope N tg ifs elt is t cond el) (nd:∀(i k j:Nat),ms[i]?=some (some j)->ms[k]?=some (some j)->i=k) (fr:∀j∈is,∀k,ms[j]?≠some (some k))
  (hN:X.N.Nodup) (hy:X.N[i]?=some y) (hx:Loc X.env.scope y) (hsw:dD (.ListComp elt [⟨tg,iter,ifs,0⟩] scope pos) (some (.Name y py)) spos.line X.env=pure true:=by rfl)
  (hf:X.fn y=true\/X.env.scope.names.lookup y=some .local:=by first|exact .inl rfl|exact .inr rfl|assumption)
  (hs:∀x,gM iter X.env x=pure x:=by intro _;rfl):SD X (.Assign [.Name y py] (.ListComp elt [⟨tg,iter,ifs,0⟩] scope pos) spos) (zY i (xL (z0 src ms t cond el))) :=
 xa (XM (g:=dGs X.K is t) (tf:=dT X.K cond) (te:=dE X.K el) hc ok hi hb.go hN hy hx hsw hf hs) λE σ H q=>by
  have q':=zbV (X:=X) q
  exact Uq nd fr (zjJ q')
def zle(ms:List (Option Nat)):Bool:=(aF ms.length).all λi=>(aF ms.length).all λk=>decide (i=k) || decide (ms[i]?=some none) || decide (ms[i]?≠ms[k]?)
theorem xE(h:zle ms=true)(i k j:Nat)(z:ms[i]?=some (some j))(I:ms[k]?=some (some j)):i=k:=by
 have l1:=(bE.mp z).1
 have l2:=(bE.mp I).1
 have q:=dG.mp (dG.mp h i (bR.mpr l1)) k (bR.mpr l2)
 simp only[mF,decide_eq_true_eq]at q
 rcases q with(q|q)|q
 ·exact q
 ·rw[z]at q;cases q
 ·exact absurd (z.trans I.symm) q
def zlf(q:List Nat)(ms:List (Option Nat)):Bool:=q.all λj=>decide (ms[j]?=some none)
theorem xF(h:zlf z ms=true)(j:Nat)(I:j∈z)(k:Nat):ms[j]?≠some (some k):=λe=>by
 have q:=of_decide_eq_true (dG.mp h j I)
 rw[e]at q;cases q
theorem zjK{P:aS}{w:aO}{K:aE}{mg:aC->Option aB}{base:aK}{k:Nat}{x:aC}{st:aM}{fa:aA}{fd:bQ}{N ps:List aC}{f:G->Option Out}(O:Fun K x x st fa fd)(S:FnScope N ps (zq st)) 
  (j:∀(cdv:aB) (A:bG) (outer:List cA) (s:aD) (H:Hp) (E:XK),Room k (A.deeper (fE x (zq st) s.heap.objs.size fa cdv))->SDs (Y7 CX0 P w K mg base N x (zq st) fa cdv A outer s H E).nox (vT st) f) :
  FnOk P w K mg base CX0 (k+1) fa fd ps (spD K (mir ps.length N.length f)):=by
 refine O.ok S (λvs H Q E ⟨F,ds,d,J,r,e,q⟩=>?_) (λcdv A outer s H vs Q E R ⟨F,ds,d,J,r,e,q⟩=>⟨_,j cdv A outer s H E R,?_⟩)
 ·unfold mir at e
  split at e
  ·rename_i h;rw[r.length];exact h
  ·cases e
 ·unfold mir at e
  split at e
  ·cases I:f (zC N.length ds)with
   | none=>rw[I]at e;cases e
   | some o=>
    rw[I]at e
    refine⟨F,H,F,zC N.length ds,o,JR J r,I,?_⟩
    cases o with
    | rt d'=>cases e;exact λv F' H' ex U=>q v F' H' ex U
    | nx g=>cases e;exact λZ F' H' Y z=>q _ F' H' Y.ext (by simp[Is])
    | bk g=>cases e
    | ct g=>cases e
  ·cases e
theorem zjL{K:aE}{m:List D->Option D}{H:Hp}{p:aA}{ns:List Int}(j:SqL K H p (ns.map V.int))(h:m [.scr ns]=some (.bl true)):spD K m [.ref p] H (λv _=>v=.bl true) λ_ _ _=>False :=
 ⟨H,[.scr ns],.bl true,zw.refl _,.cons (by simp only[Is];exact⟨p,rfl,j⟩) .nil,h,λv F' H' _ r=>by simpa[Is]using r⟩
structure GlobT (K:aE) (mg:aC->Option aB) (x:aC) (ds:List D):Prop where
 ex:∃p vs,mg x=some (.ref p)/\(∀H,SqT K H p vs)/\∀F,Are K F ds vs
theorem Vm{K:aE}{mg:aC->Option aB}{x:aC}{p:aA}{q:Option aA}{its:Array aB}{n:Nat}{z:Array (Option aB)}(xs:List aC)(I:mg x=some (.ref p))(J:K.lookup p=some ⟨.type "tuple",q,.seq its n,z⟩)(O:its.size<=aH)(R:zO (xs.map V.str) its.toList):GlobT K mg x (xs.map D.str) :=
 ⟨p,xs.map V.str,I,λH=>.inr ⟨_,its,n,J,rfl,rfl,O,R⟩,λF=>by
  induction xs with
  | nil=>exact .nil
  | cons y r U=>exact .cons (by simp[Is]) (by
   have:∀zs:List aC,Are K F (zs.map D.str) (zs.map V.str):=λzs=>by
    induction zs with
    | nil=>exact .nil
    | cons a b j=>exact .cons (by simp[Is]) j
   exact this r)⟩
def xG(ds:List D):G->Option B:=λ_=>some (.c ds)
theorem zbZ(T:GlobT X.K X.mg x ds)(j:Gl X x)(I:(x==("__debug__":aC))=false:=by decide):EE X (.Name x p) (xG ds):=by
 obtain⟨q,vs,J,h1,h2⟩:=T.ex
 exact yV (Ui (v:=.ref q) j J rfl I) λσ H Q ⟨F0,H0,F,Γ,z,E,e,k⟩=>by cases e;exact k _ F H (.refl E.fh) ⟨q,vs,rfl,h1 H,h2 F⟩
theorem uj(r:Room k A):A.units+128<bV:=by have:=r.un;omega
def vy(f:G->Option B):G->Option B:=λΓ=>(f Γ).bind λb=>b.int.map λi=>.d (.int (-i))
theorem uy(J:EE X a f):EE X (.UnaryOp .USub a pos) (vy f):=yV (zk1 zjt J) λσ H Q j=>by
 obtain⟨F0,H0,F,Γ,z,E,e,q⟩:=j
 obtain⟨x,O,e⟩:=bind_some e
 obtain⟨i,hi,rfl⟩:=map_some e
 exact⟨F0,H0,F,Γ,x,E,O,λv I H1 R r1=>⟨i,vD hi r1,q _ I H1 R (wO (K:=X.K) (F:=I))⟩⟩
theorem zf4:OpR X (dM .Add) (λx y H Q=>∃p q ys,x=.ref p/\y=.ref q/\SqT X.K H p []/\SqT X.K H q ys/\Q (.ref q) H):=by
 intro pins s σ H x y v u Q I rx ry h
 obtain⟨p,q,ys,rfl,rfl,hp,hq,k⟩:=h
 cases rx
 cases ry
 obtain⟨its,r1,p1,_⟩:=I.tuple hp
 obtain⟨j,r2,p2,_⟩:=I.tuple hq
 cases r1
 obtain⟨⟨cls,dd,data,sl⟩,Y,Z,n,hd⟩:=id p1
 obtain⟨⟨aa,R,data2,U⟩,z,J,n2,O⟩:=id p2
 simp only at Z hd J O
 subst Z hd J O
 exact md ⟨_,Y,rfl⟩ ⟨_,z,rfl⟩ mf mh mi mj (mq _ _)
  (tuple_addW0 p q #[] j.toArray n n2 dd R sl U rfl) ⟨Y,z,⟨.ref q,H,I,rfl,k⟩⟩
def Vn(K:aE):R2:=λx y H Q=>zhK K x y H Q\/(∃p q ys,x=.ref p/\y=.ref q/\SqT K H p []/\SqT K H q ys/\Q (.ref q) H)
theorem zf5:OpR X (dM .Add) (Vn X.K):=zid.or zf4
theorem zim{K:aE}:OpB K (Vn K) XO:=λF H x y v u d Q j hx hy e q=>by
 have key:∃a b,x=.d (.tup a)/\y=.d (.tup b):=by
  cases x with
  | d w=>
   cases w with
   | tup a=>
    cases y with
    | d w=>cases w with
     | tup b=>exact⟨a,b,rfl,rfl⟩
     | _=>cases e
    | _=>cases e
   | _=>cases e
  | _=>cases e
 obtain⟨a,b,rfl,rfl⟩:=key
 ·unfold XO at e
  simp only at e
  by_cases R:a.length+b.length<=aH
  ·rw[if_pos R]at e;cases e
   have I:Is K F (.tup a) v:=hx
   have J:Is K F (.tup b) u:=hy
   have U:=I
   have Y:=J
   simp only[Is]at I J
   obtain⟨p,vs,rfl,Z,r1⟩:=I
   obtain⟨p2,us,rfl,O,r2⟩:=J
   by_cases ha:a=[]
   ·subst ha
    have:=r1.inv0;subst this
    exact .inr ⟨p,p2,us,rfl,rfl,SqT.of (j _ _ Z),SqT.of (j _ _ O),q _ F H (.refl j) Y⟩
   ·have hv:vs≠[]:=λz=>ha (by have:=r1.length;rw[z]at this;exact gJ.mp this.symm)
    refine .inl ⟨p,p2,vs,us,rfl,rfl,SqT.of (j _ _ Z),SqT.of (j _ _ O),hv,by rw[r1.length,r2.length];exact R,λz=>?_,λz l hl=>q _ (upd F l (.tup (vs++us))) _ (.fix j hl _) ?_⟩
    ·subst z
     have hb:b=[]:=gJ.mp (by rw[<-r2.length];rfl)
     subst hb
     rw[gB]at q
     exact q _ F H (.refl j) U
    ·simp only[Is]
     exact⟨l,_,rfl,zk,(r1.append r2).mono (zK (j.free hl) _)⟩
  ·rw[if_neg R]at e;cases e
def yi:=mOr Vi (mOr XO Vk)
theorem zD:OpR X (dM .Add) (λx y H Q=>rI0 (λi j=>.int (i+j)) x y H Q\/(Vn X.K x y H Q\/zcQ x y H Q)):=zeq.or (zf5.or zjA)
theorem zE{K:aE}:OpB K (λx y H Q=>rI0 (λi j=>.int (i+j)) x y H Q\/(Vn K x y H Q\/zcQ x y H Q)) yi:=zih.or (zim.or zii)
end
end DD
namespace L2
open PySem PySem.Spec PyProof.Rows
section
variable {κ:Type} [DecidableEq κ]
def xH(kvs:List (κ×V))(k:κ):Option V:=(kvs.find? λj=>decide (j.1=k)).map (·.2)
def wf(kvs:List (κ×V))(k:κ)(v:V):List (κ×V) :=
 if(kvs.any λj=>decide (j.1=k))=true then kvs.map (λj=>if j.1=k then(j.1,v)else j)else kvs++[(k,v)]
def vo(kvs:List (κ×V))(k:κ):List (κ×V):=kvs.filter λj=>decide (j.1≠k)
theorem vO{p:κ×V}{r:List (κ×V)}{k:κ}(e:p.1=k):xH (p::r) k=some p.2:=by simp[xH,eF,e]
theorem vh{p:κ×V}{r:List (κ×V)}{k:κ}(e:¬p.1=k):xH (p::r) k=xH r k:=by simp[xH,eF,e]
theorem WC(k:κ):∀kvs:List (κ×V),(kvs.any λj=>decide (j.1=k))=(xH kvs k).isSome
 | []=>rfl
 | p::r=>by
  rw[fQ]
  by_cases e:p.1=k
  ·simp only[vO e,decide_eq_true e,Bool.true_or,Option.isSome_some]
  ·rw[vh e,decide_eq_false e,Bool.false_or];exact WC k r
theorem ZP(kvs:List (κ×V))(k:κ)(v:V):(wf kvs k v).length<=kvs.length+1:=by
 unfold wf
 split
 ·rw[aN];omega
 ·rw[bM,cD,jF];omega
theorem WD{kvs:List (κ×V)}{k:κ}(v:V)(h:xH kvs k=none):wf kvs k v=kvs++[(k,v)]:=by
 unfold wf
 rw[WC,h]
 exact if_neg (by decide)
theorem vg.isSome_eq(r:vg o u):o.isSome=u.isSome:=by
 cases o with
 | none=>cases u with
  | none=>rfl
  | some _=>exact(show False from r).elim
 | some _=>cases u with
  | none=>exact(show False from r).elim
  | some _=>rfl
theorem KV.val{kvs:List (κ×V)}{vs:List (κ×aB)}(r:KV kvs vs)(k:κ):vg (xH kvs k) (gU vs k):=by
 unfold KV at r
 induction r with
 | nil=>exact True.intro
 | @cons p q ps j h t J=>
  obtain⟨h1,h2⟩:=h
  by_cases e:p.1=k
  ·have I:q.1=k:=h1.symm.trans e
   have b:gU (q::j) k=some q.2:=by simp[gU,eF,I]
   rw[vO e,b];exact h2
  ·have I:¬q.1=k:=λz=>e (h1.trans z)
   have b:gU (q::j) k=gU j k:=by simp[gU,eF,I]
   rw[vh e,b];exact J
theorem KV.any(r:KV kvs vs)(k:κ):(kvs.any λj=>decide (j.1=k))=vs.any λj=>decide (j.1=k):=by
 unfold KV at r
 induction r with
 | nil=>rfl
 | cons h t q=>rw[fQ,fQ,q,h.1]
theorem KV.repl(r:KV kvs vs)(k:κ)(I:zQ y u):
  KV (kvs.map λj=>if j.1=k then(j.1,y)else j) (vs.map λj=>if j.1=k then(j.1,u)else j):=by
 unfold KV at r ⊢
 induction r with
 | nil=>exact .nil
 | @cons p q ps O h t J=>
  rw[bI,bI]
  refine .cons ?_ J
  obtain⟨h1,h2⟩:=h
  by_cases e:p.1=k
  ·rw[if_pos e,if_pos (h1.symm.trans e)];exact⟨h1,I⟩
  ·rw[if_neg e,if_neg (λz=>e (h1.trans z))];exact⟨h1,h2⟩
theorem KV.put(r:KV kvs vs)(k:κ)(j:zQ y u):KV (wf kvs k y) (k7 vs k u):=by
 unfold wf k7
 rw[r.any k]
 by_cases e:(vs.any λq=>decide (q.1=k))=true
 ·rw[if_pos e,if_pos e];exact r.repl k j
 ·rw[if_neg e,if_neg e];exact Paired.snoc r ⟨rfl,j⟩
theorem KV.drop(r:KV kvs vs)(k:κ):KV (vo kvs k) (without vs k):=by
 unfold KV at r ⊢
 unfold vo without
 induction r with
 | nil=>exact .nil
 | @cons p q ps J h t j=>
  obtain⟨h1,h2⟩:=h
  rw[iW,iW]
  by_cases e:p.1=k
  ·have a:¬decide (p.1≠k)=true:=by simp[e]
   have b:¬decide (q.1≠k)=true:=by simp[h1.symm.trans e]
   rw[if_neg a,if_neg b];exact j
  ·have I:¬q.1=k:=λz=>e (h1.trans z)
   have a:decide (p.1≠k)=true:=by simp[e]
   have b:decide (q.1≠k)=true:=by simp[I]
   rw[if_pos a,if_pos b];exact .cons ⟨h1,h2⟩ j
theorem KV.length(r:KV kvs vs):kvs.length=vs.length:=Paired.length r
theorem zf6(kvs:List (κ×V))(k:κ):(vo kvs k).length<=kvs.length:=la _ _
end
theorem Yz(r:zQ (kV k) u):(yg P w).is k u=true:=by
 cases k with
 | inl i=>obtain⟨t,e⟩:=(show ∃t,u=Value.int i t from r);subst e;exact zbr P w i t
 | inr x=>obtain⟨t,e⟩:=(show ∃t,u=Value.str x t from r);subst e;exact zbs P w x t
theorem Qp:∀{ks:List Key} {us:List aB},zO (ks.map kV) us->ItemsAre (yg P w) ks us
 | [],_,r=>by rw[mC]at r;cases r;exact .nil
 | k::ks,_,r=>by
  rw[bI]at r
  cases r with
  | cons h t=>exact .cons (Yz h) (Qp t)
abbrev KT(H:Hp):List (List Key×V)->List (List Key×aA×aB)->Prop:=Paired λp q=>p.1=q.1/\H q.2.1=some (.tup (p.1.map kV))/\zQ p.2 q.2.2
theorem KT.val{H:Hp}{kvs:List (List Key×V)}{xs:List (List Key×aA×aB)}(r:KT H kvs xs)(k:List Key):vg (xH kvs k) ((gK xs k).map (·.2)):=by
 induction r with
 | nil=>exact True.intro
 | @cons p q ps j h t J=>
  obtain⟨h1,_,h2⟩:=h
  by_cases e:p.1=k
  ·have I:q.1=k:=h1.symm.trans e
   have b:gK (q::j) k=some q.2:=by simp[gK,eF,I]
   rw[vO e,b];exact h2
  ·have I:¬q.1=k:=λz=>e (h1.trans z)
   have b:gK (q::j) k=gK j k:=by simp[gK,eF,I]
   rw[vh e,b];exact J
theorem KT.repl(r:KT H kvs xs)(k:List Key)(I:zQ y u):
  KT H (kvs.map λj=>if j.1=k then(j.1,y)else j) (xs.map (putAt k u)):=by
 induction r with
 | nil=>exact .nil
 | @cons p q ps R h t J=>
  rw[bI,bI]
  refine .cons ?_ J
  obtain⟨h1,h2,O⟩:=h
  unfold putAt
  by_cases e:p.1=k
  ·rw[if_pos e,if_pos (h1.symm.trans e)];exact⟨h1,h2,I⟩
  ·rw[if_neg e,if_neg (λz=>e (h1.trans z))];exact⟨h1,h2,O⟩
theorem KT.put(r:KT H kvs xs)(k:List Key)(z:H b=some (.tup (k.map kV)))(j:zQ y u):
  KT H (wf kvs k y) (storedH xs k b u):=by
 have e:(kvs.any λI=>decide (I.1=k))=(gK xs k).isSome:=by
  rw[WC,(r.val k).isSome_eq,oQ]
 unfold wf storedH
 rw[e]
 by_cases q:(gK xs k).isSome=true
 ·rw[if_pos q,if_pos q];exact r.repl k j
 ·rw[if_neg q,if_neg q];exact Paired.snoc r ⟨rfl,z,j⟩
theorem KT.keeps(r:KT H kvs xs)(j:∀b ys,H b=some (.tup ys)->H' b=some (.tup ys)):KT H' kvs xs :=
 Paired.mapP r λ_ _ z=>⟨z.1,j _ _ z.2.1,z.2.2⟩
section
variable {P:aS} {w:aO} {H:Hp} {h:aK} {a:aA}
theorem zhP(ok:HOk P w H h)(e:Rd H a u):yK P w H h a u:=e.ok ok
theorem XQ(ok:HOk P w H h)(e:Rd H a (.dK kvs)):kvs.length<=aH/\(a==eY)=false/\∃vs,KV kvs vs/\h.DictOf (yg P w) a vs :=
 show yK P w H h a (.dK kvs)from zhP ok e
theorem Vo(ok:HOk P w H h)(e:H a=some (.dK kvs)):kvs.length<=aH/\(a==eY)=false/\∃vs,KV kvs vs/\h.DictOf (yg P w) a vs:=XQ ok (.inl e)
theorem Xf(ok:HOk P w H h)(e:H a=some (.tup (ks.map kV))):(iH (yg P w)).is h ks a:=by
 obtain⟨_,its,r,o,h1,h2,n,j⟩:=(show yK P w H h a (.tup (ks.map kV))from ok a _ e)
 exact⟨o,its.toArray,n,h1,h2,j,by simpa using Qp r⟩
theorem Vp(ok:HOk P w H h)(e:Rd H a (.dT kvs)):kvs.length<=aH/\(a==eY)=false/\
  ∃xs,KT H kvs xs/\h.DictOfH (iH (yg P w)) a xs:=by
 obtain⟨z,y,xs,r,o,es,ep,h1,h2,I,J,O⟩:=(show yK P w H h a (.dT kvs)from zhP ok e)
 refine⟨z,y,xs,r,o,es,ep,h1,h2,I,J,λx hx=>?_,O⟩
 have all:∀{l:List (List Key×V)} {m:List (List Key×aA×aB)},KT H l m->∀x∈m,(iH (yg P w)).is h x.1 x.2.1:=by
  intro l m q
  induction q with
  | nil=>intro x hx;exact nomatch hx
  | @cons p q ps U j t R=>
   intro x hx
   rcases aU.mp hx with e|hx
   ·subst e
    exact Xf ok (by rw[<-j.1];exact j.2.1)
   ·exact R x hx
 exact all r x hx
theorem zhQ(ok:HOk P w H h)(e:H a=some (.dT kvs)):kvs.length<=aH/\(a==eY)=false/\
 ∃xs,KT H kvs xs/\h.DictOfH (iH (yg P w)) a xs:=Vp ok (.inl e)
end
def wh(H:Hp)(a:aA)(y:V)(r:Option V):Prop :=
 (∃kvs k,Rd H a (.dK kvs)/\y=kV k/\r=xH kvs k)\/∃kvs k b,Rd H a (.dT kvs)/\y=.ref b/\H b=some (.tup (k.map kV))/\r=xH kvs k
def uI(H:Hp)(a:aA)(y v:V)(H':Hp):Prop :=
 (∃kvs k,H a=some (.dK kvs)/\y=kV k/\kvs.length<aH/\H'=upd H a (.dK (wf kvs k v)))\/
 ∃kvs k b,H a=some (.dT kvs)/\y=.ref b/\H b=some (.tup (k.map kV))/\kvs.length<aH/\H'=upd H a (.dT (wf kvs k v))
theorem wh.k{H:Hp}{a:aA}{kvs:List (Key×V)}{k:Key}(e:H a=some (.dK kvs)):wh H a (kV k) (xH kvs k):=.inl ⟨kvs,k,.inl e,rfl,rfl⟩
theorem wh.t{H:Hp}{a b:aA}{kvs:List (List Key×V)}{k:List Key}(e:H a=some (.dT kvs))(j:H b=some (.tup (k.map kV))):wh H a (.ref b) (xH kvs k):=.inr ⟨kvs,k,b,.inl e,rfl,j,rfl⟩
theorem uI.k{H:Hp}{a:aA}{kvs:List (Key×V)}{k:Key}{v:V}(e:H a=some (.dK kvs))(j:kvs.length<aH):uI H a (kV k) v (upd H a (.dK (wf kvs k v))):=.inl ⟨kvs,k,e,rfl,j,rfl⟩
theorem uI.t{H:Hp}{a b:aA}{kvs:List (List Key×V)}{k:List Key}{v:V}(e:H a=some (.dT kvs))(j:H b=some (.tup (k.map kV)))(q:kvs.length<aH):
 uI H a (.ref b) v (upd H a (.dT (wf kvs k v))):=.inr ⟨kvs,k,b,e,rfl,j,q,rfl⟩
section
variable {X:Cx} {pins:List (aA×aL)} {σ:St} {H:Hp} {s:aD} {a:aA} {y v:V} {u r:aB} {o:Option V} {A:bG} {E:aB->aD->Prop}
theorem Inv.big(I:Inv X pins σ H s):eY<s.heap.objs.size:=by
 have h:aT<s.heap.objs.size:=(I.mod.glob.keeps I.bk).lt
 exact dP (by decide) h
theorem Qq{Q:aB->aD->Prop}(hu:A.units+1<bV)(I:Inv X pins σ H s)(g:wh H a y (some v))(Z:zQ y u)(h:∀J s',Inv X pins σ H s'->zQ v J->Q J s'):
  wpAny (aJ X.prog X.w) A (jK (.ref a) u) Q E s:=by
 rcases g with⟨kvs,k,e,O,l⟩|⟨kvs,k,b,e,O,eb,l⟩
 ·subst O
  obtain⟨z,hd,vs,j,R⟩:=XQ I.hok e
  obtain⟨J,U,q⟩:=vg.some_of (v:=v) (o:=gU vs k) (by rw[l];exact j.val k)
  exact wpAny_getItem_of (Yz Z) R.mapOf U (h J _ (I.tok _) q)
 ·subst O
  cases (show u=Value.ref b from Z)
  obtain⟨z,hd,xs,j,R⟩:=Vp I.hok e
  obtain⟨J,U,q⟩:=vg.some_of (v:=v) (o:=(gK xs k).map (·.2)) (by rw[l];exact j.val k)
  obtain⟨p,hp,Y⟩:=eV.mp U
  refine wpAny_getItem_heap (mN hu) (Xf I.hok eb) R hp ?_
  rw[Y]
  exact h J _ (I.tok _) q
theorem zb0{Q:aB->aD->Prop}(Y:A.units+1<bV)(I:Inv X pins σ H s)(g:wh H a y o)(U:zQ y u)(h:∀s',Inv X pins σ H s'->Q (.bool (!o.isSome)) s'):
  wpAny (aJ X.prog X.w) A (cP .NotIn u (.ref a)) Q E s:=by
 rcases g with⟨kvs,k,e,J,l⟩|⟨kvs,k,b,e,J,Z,l⟩
 ·subst J
  obtain⟨z,O,vs,j,R⟩:=XQ I.hok e
  refine wpAny_notIn_of (Yz U) O R.mapOf ?_
  rw[<-(j.val k).isSome_eq,<-l]
  exact h _ (I.tok _)
 ·subst J
  cases (show u=Value.ref b from U)
  obtain⟨z,O,xs,j,R⟩:=Vp I.hok e
  refine wpAny_notIn_heap (mN Y) (Xf I.hok Z) O R ?_
  have q:=(j.val k).isSome_eq
  rw[oQ]at q
  rw[<-q,<-l]
  exact h _ (I.tok _)
theorem Z7{h':aK}{t':Nat}{j:HO}(I:Inv X pins σ H s)(J:Mut (H a))(O:jB a s.heap h')(R:∃q,h'.get? a=some q)(new:yK X.prog X.w (upd H a j) h' a j):
  Inv X pins σ (upd H a j) {s with heap:=h',toks:=t'} :=
 I.write (x:=a) (e:=a) J (.inl rfl) (λb q U z=>(O.2 b U).trans z) R new
theorem Vq{P:aS}{w:aO}{H':Hp}{h':aK}{kvs:List (Key×V)}{vs:List (Key×aB)}(z:kvs.length<=aH)(q:(a==eY)=false)(j:KV kvs vs)(I:h'.DictOf (yg P w) a vs):
 yK P w H' h' a (.dK kvs):=⟨z,q,vs,j,I⟩
theorem zeH{Q:Unit->aD->Prop}(hu:A.units+1<bV)(I:Inv X pins σ H s)(g:uI H a y v H')(ry:zQ y u)(rv:zQ v r)(h:∀s',Inv X pins σ H' s'->Q () s'):
  wpAny (aJ X.prog X.w) A (kD (.ref a) u r) Q E s:=by
 rcases g with⟨kvs,k,e,R,l,U⟩|⟨kvs,k,b,e,R,eb,l,U⟩
 ·subst R U
  obtain⟨z,Y,vs,j,Z⟩:=Vo I.hok e
  have hz:vs.length<=aH:=by rw[<-j.length];exact z
  have hl:(wf kvs k v).length<=aH:=by have:=ZP kvs k v;omega
  refine wpAny_setItem_pairs (hsz:=hz) (Yz ry) Z λh' J hs=>h _ ?_
  have he:∃q,h'.get? a=some q:=(by obtain⟨q,_,_,O,_⟩:=J;exact⟨q,O⟩)
  exact Z7 I (by rw[e];exact True.intro) hs he (Vq hl Y (j.put k rv) J)
 ·subst R U
  cases (show u=Value.ref b from ry)
  obtain⟨z,Y,xs,j,Z⟩:=zhQ I.hok e
  have hz:xs.length<=aH:=by rw[<-Paired.length j];exact z
  have hl:(wf kvs k v).length<=aH:=by have:=ZP kvs k v;omega
  refine wpAny_setItem_heap (hsz:=hz) (mN hu) (Xf I.hok eb) Z λh' J hs=>h _ ?_
  obtain⟨q,es,ep,O,h2,h3,h4,_,h5⟩:=J
  refine Z7 I (by rw[e];exact True.intro) hs ⟨q,O⟩ ⟨hl,Y,_,(j.put k eb rv).keeps λc ys ec=>?_,q,es,ep,O,h2,h3,h4,h5⟩
  rw[ze (vX ec e (λz=>nomatch z))]
  exact ec
end
section
variable {X:Cx} {pins:List (aA×aL)} {σ:St} {H:Hp} {s:aD} {a:aA} {kvs:List (Key×V)} {k:Key} {u:aB} {A:bG} {E:aB->aD->Prop}
theorem zlg{v:V}{j:List aB}{Q:aB->aD->Prop}(I:Inv X pins σ H s)(e:H a=some (.dK kvs))(U:zQ (kV k) u)(l:xH kvs k=some v)(Z:j=[]\/∃x,j=[x]) 
  (h:∀O s',Inv X pins σ (upd H a (.dK (vo kvs k))) s'->zQ v O->Q O s'):wpAny (aJ X.prog X.w) A (call (.builtin "dict.pop") (.ref a::u::j)) Q E s:=by
 obtain⟨z,hd,vs,J,dd⟩:=Vo I.hok e
 obtain⟨O,hw,Y⟩:=vg.some_of (v:=v) (o:=gU vs k) (by rw[<-l];exact J.val k)
 have hp:(keyPart u).isSome=true:=by
  cases k with
  | inl i=>obtain⟨t,q⟩:=(show ∃t,u=Value.int i t from U);subst q;rfl
  | inr x=>obtain⟨t,q⟩:=(show ∃t,u=Value.str x t from U);subst q;rfl
 have ha:argsOk "dict.pop" ⟨.ref a::u::j,[]⟩:=by
  rcases Z with q|⟨x,q⟩
  ·subst q;exact PySem.F.args_dict_pop_2 _ _
  ·subst q;exact PySem.F.args_dict_pop_3 _ _ _
 refine call_meetsIn oR dd.typeIs PySem.F.entry_dict_pop ha (meets_dict_pop_there (yg X.prog X.w) a (Yz U) j Z hp)
  ⟨vs,O,dd,by rw[<-J.length];exact z,hw,λh' R hs=>h O _ ?_ Y⟩
 have he:∃q,h'.get? a=some q:=(by obtain⟨q,_,_,hq,_⟩:=R;exact⟨q,hq⟩)
 exact Z7 I (by rw[e];exact True.intro) hs he (Vq (bS (zf6 kvs k) z) hd (J.drop k) R)
theorem zlh{Q:aB->aD->Prop}(I:Inv X pins σ H s)(e:Rd H a (.dK kvs))(h:∀t s',Inv X pins σ H s'->Q (.int kvs.length t) s'):wpAny (aJ X.prog X.w) A (call (.builtin "len") [.ref a]) Q E s:=by
 obtain⟨z,q,vs,j,J⟩:=XQ I.hok e
 refine call_len_dict q J (by rw[<-j.length];rw[fB]at z;omega) ?_
 rw[<-j.length]
 exact h _ _ (I.tok _)
end
def zf7(i:aG):Prop:=∀j q,jJ i false j q=operate [j,q] (jK j q)
theorem zin{prog:aS}{w:aO}{A:bG}{E:aB->aD->Prop}{s:aD}{env:cA}{value slice:aG}{pos:aR}{T id:String}{Q:aB->aD->Prop} 
  (hl:lb (.type T) "__getitem__"=pure (some (.builtin id))) (hs:zf7 slice)
  (h:wpAny (aJ prog w) A (aW value env) (λo s₁=>wpAny (aJ prog w) A (aW slice env) (λi s₂=>s₂.TypeIs o T/\wpAny (aJ prog w) A (jK o i) Q E s₂) E s₁) E s) :
  wpAny (aJ prog w) A (aW (.Subscript value slice pos) env) Q E s:=by
 refine Subscript_ (eB h (λo s₁ h₁=>eB h₁ (λi s₂ h₂=>?_) λ_ _ x=>x) λ_ _ x=>x)
 obtain⟨hT,h₂⟩:=h₂
 unfold my
 refine aI ?_
 rw[oS hT.not_modules]
 refine aI (oT hT hl ?_)
 have fin:wpAny (aJ prog w) A (jJ slice false o i) (λr s₃=>wpAny (aJ prog w) A (oU value o r>>=λ_=>pure r) Q E s₃) E s₂:=by
  rw[hs o i]
  exact oV (eB h₂ (λr s₃ h₃=>aI (oW (bJ h₃))) λ_ _ x=>x)
 first
  | exact bJ (aI fin)
  | exact aI (bJ (aI fin))
  | exact aI fin
theorem Wr(I:Inv X pins σ H s)(g:wh H a y o):s.TypeIs (.ref a) "dict":=by
 rcases g with⟨kvs,k,e,_,_⟩|⟨kvs,k,b,e,_,_,_⟩
 ·obtain⟨_,_,vs,_,j⟩:=XQ I.hok e
  exact j.typeIs
 ·obtain⟨_,_,xs,_,j⟩:=Vp I.hok e
  exact j.typeIs
def zli(td ty:TE):TE:=λσ H Q=>td σ H λx H1=>ty σ H1 λy H2=>∃a v,x=.ref a/\wh H2 a y (some v)/\Q v H2
def zio(ty td:TE):TE:=λσ H Q=>ty σ H λy H1=>td σ H1 λx H2=>∃a o,x=.ref a/\wh H2 a y o/\Q (.bl (!o.isSome)) H2
def zlj(td ty tv:TE):TS:=λD σ H=>tv σ H λv H1=>td σ H1 λx H2=>ty σ H2 λy q=>∃a j,x=.ref a/\uI q a y v j/\D.nx σ j
section
variable {X:Cx} {o i e value:aG} {pos pos' tpos:aR} {td ty tv:TE}
theorem Ut(z:X.A.units+1<bV)(J:PE X o td)(hi:PE X i ty)(O:zf7 i):PE X (.Subscript o i pos) (zli td ty):=by
 intro pins s σ H Q I h
 refine zin oX.lookup O (thn (J pins s σ H _ I h) λu s1 ⟨x,H1,R,U,Y⟩=>thn (hi pins s1 σ H1 _ R Y) λiv s2 ⟨y,H2,q,Z,a,v,ex,g,q2⟩=>?_)
 subst ex
 obtain rfl:u=Value.ref a:=U
 exact⟨Wr q g,Qq z q g Z λw' s3 I3 j=>⟨v,H2,I3,j,q2⟩⟩
theorem Qr(j:X.A.units+1<bV)(hi:PE X i ty)(q:PE X o td):PC X .NotIn i o (zio ty td):=by
 intro pins s σ H Q I h
 refine thn (hi pins s σ H _ I h) λiv s1 ⟨y,H1,z,J,O⟩=>thn (q pins s1 σ H1 _ z O) λu s2 ⟨x,H2,R,U,a,ov,ex,g,Y⟩=>?_
 subst ex
 obtain rfl:u=Value.ref a:=U
 exact zb0 j R g J λs3 Z=>⟨.bl (!ov.isSome),H2,Z,rfl,Y⟩
theorem Z8(hu:X.A.units+1<bV)(ho:PE X o td)(hi:PE X i ty)(hv:PE X value tv)(hs:dD value (some (.Subscript o i pos')) pos.line X.env=pure false):
  PS X (.Assign [.Subscript o i pos'] value pos) (zlj td ty tv):=by
 intro pins s σ H D I h
 refine wpAny_Assign_Subscript (thn (hv pins s σ H _ I h) λr s1 ⟨v,H1,I1,rv,q1⟩=>thn (ho pins s1 σ H1 _ I1 q1) λu s2 ⟨x,H2,I2,rx,q2⟩=>thn (hi pins s2 σ H2 _ I2 q2) λiv s3 ⟨y,H3,I3,ry,a,H4,ex,g,q3⟩=>?_) hs
 subst ex
 obtain rfl:u=Value.ref a:=rx
 exact zeH hu I3 g ry rv λs4 I4=>⟨σ,H4,I4,q3⟩
end
theorem JS(h:aK)(j:eY<h.objs.size):yK P w H (h.push {cls:=.type "dict",data:=.dict #[]}) h.objs.size (.dK []) :=
 ⟨dJ _,beq_eq_false_iff_ne.mpr (aQ (bT j)),[],.nil,oY h⟩
theorem zf8(h:aK)(j:eY<h.objs.size):yK P w H (h.push {cls:=.type "dict",data:=.dict #[]}) h.objs.size (.dT []) :=
 ⟨dJ _,beq_eq_false_iff_ne.mpr (aQ (bT j)),[],.nil,_,#[],0,cK _ rfl,⟨rfl,rfl,rfl⟩,rfl,rfl,mO⟩
def zjM:TE:=λ_ H Q=>∀p,H p=none->Q (.ref p) (upd H p (.dK []))
section
variable {X:Cx} {pos:aR}
theorem uk:PE X (.Dict [] [] pos) zjM:=λpins s σ H Q I h=>
 wpAny_Dict_empty ⟨.ref s.heap.objs.size,_,I.laid (a:=s.heap.objs.size) (o:=.dK []) (t':=s.toks) (λ_ _ q=>bB _ q) (aP _) (JS s.heap I.big),rfl,h _ (I.hok.fresh (aP _))⟩
end
def Vr:List (TE×TE)->St->Hp->(List (V×V)->Hp->Prop)->Prop
 | [],_,H,Q=>Q [] H
 | (tk,tv)::r,σ,H,Q=>tk σ H λx H1=>tv σ H1 λy H2=>Vr r σ H2 λps j=>Q ((x,y)::ps) j
abbrev VV:List (V×V)->List (aB×aB)->Prop:=Paired λp q=>zQ p.1 q.1/\zQ p.2 q.2
def PPs(X:Cx)(pos:aR)(keys:List (Option aG))(j:List aG)(trs:List (TE×TE)):Prop :=
 ∀(pins:List (aA×aL)) (s:aD) (σ:St) (H:Hp) (Q:List (V×V)->Hp->Prop),Inv X pins σ H s->Vr trs σ H Q->
  wpAny (aJ X.prog X.w) X.A (evalPairs (pairTrees keys j X.env pos)) (λvs s'=>∃ps H',Inv X pins σ H' s'/\VV ps vs/\Q ps H') X.xe s
theorem zb1:PPs X pos [] [] []:=λpins s σ H Q I h=>pairTrees_nil_walk ⟨[],H,I,.nil,h⟩
theorem JT(z:PE X k tk)(J:PE X v tv)(O:PPs X pos ks vs trs):
  PPs X pos (some k::ks) (v::vs) ((tk,tv)::trs):=λpins s σ H Q I h=>
 pairTrees_cons_walk (thn (z pins s σ H _ I h) λu s1 ⟨x,H1,R,U,Y⟩=>thn (J pins s1 σ H1 _ R Y) λw2 s2 ⟨y,H2,Z,ry,q2⟩=>
  thn (O pins s2 σ H2 _ Z q2) λws s3 j=>(by obtain⟨ps,H3,I3,q,q3⟩:=j;exact⟨(x,y)::ps,H3,I3,.cons ⟨U,ry⟩ q,q3⟩))
def vi(kvs j:List (Key×V)):List (Key×V):=j.foldl (λacc q=>wf acc q.1 q.2) kvs
theorem KV.merge:∀{j:List (Key×V)} {rs:List (Key×aB)} {kvs:List (Key×V)} {vs:List (Key×aB)},KV j rs->KV kvs vs->KV (vi kvs j) (merged vs rs):=by
 intro j rs kvs vs r
 unfold KV at r
 induction r generalizing kvs vs with
 | nil=>intro q;exact q
 | @cons p q ps J h t z=>
  intro I
  have e:KV (wf kvs p.1 p.2) (k7 vs q.1 q.2):=by
   have:=I.put p.1 h.2
   rw[<-h.1];exact this
  exact z e
theorem uJ:∀(j kvs:List (Key×V)),(vi kvs j).length<=kvs.length+j.length
 | [],kvs=>by show kvs.length<=kvs.length+0;omega
 | p::r,kvs=>by
  have h1:=uJ r (wf kvs p.1 p.2)
  have h2:=ZP kvs p.1 p.2
  show(vi (wf kvs p.1 p.2) r).length<=_
  rw[cD];omega
theorem Vs:∀{kvs:List (Key×V)} {ws:List (aB×aB)},VV (kvs.map λj=>(kV j.1,j.2)) ws->∃rs,Carries (yg P w) ws rs/\KV kvs rs
 | [],_,r=>by rw[mC]at r;cases r;exact⟨[],True.intro,.nil⟩
 | p::kvs,_,r=>by
  rw[bI]at r
  cases r with
  | @cons a b as bs h t=>
   obtain⟨rs,c,q⟩:=Vs (P:=P) (w:=w) t
   obtain⟨I,z⟩:=b
   exact⟨(p.1,z)::rs,⟨Yz h.1,rfl,c⟩,.cons ⟨rfl,h.2⟩ q⟩
def zlk(trs:List (TE×TE)):TE:=λσ H Q=>∀p,H p=none->Vr trs σ (upd H p (.dK [])) λps H2=>H2 p=some (.dK [])/\∃kvs:List (Key×V),ps=kvs.map (λj=>(kV j.1,j.2))/\kvs.length<=15/\Q (.ref p) (upd H2 p (.dK (vi [] kvs)))
theorem ziq(h:PPs X pos keys j trs)(J:keys.all (·.isSome)=true)(Z:keys.length=j.length)(h0:keys≠[]) 
  (R:keys.length<=15):PE X (.Dict keys j pos) (zlk trs):=by
 intro pins s σ H Q I q
 have hn:=I.hok.fresh (aP s.heap.objs.size)
 have I1:=I.laid (a:=s.heap.objs.size) (o:=.dK []) (h':=s.heap.push {cls:=.type "dict",data:=.dict #[]}) (t':=s.toks) (λ_ _ q=>bB _ q) (aP _) (JS s.heap I.big)
 refine wpAny_Dict_walk (knd:=yg X.prog X.w) J Z h0 R (thn (h pins _ σ _ _ I1 (q _ hn)) λws s2 ⟨ps,H2,Y,U,e,kvs,ep,lk,q2⟩=>?_)
 subst ep
 obtain⟨rs,c,rk⟩:=Vs (P:=X.prog) (w:=X.w) U
 obtain⟨z,hd,aa,r0,dd⟩:=Vo Y.hok e
 cases r0
 refine⟨rs,c,dd,λh' O hs=>⟨.ref s.heap.objs.size,_,?_,rfl,q2⟩⟩
 have hz:(vi [] kvs).length<=aH:=by
  have h1:=uJ kvs []
  rw[jF]at h1
  rw[fB];omega
 have he:∃q,h'.get? s.heap.objs.size=some q:=(by obtain⟨q,_,_,hq,_⟩:=O;exact⟨q,hq⟩)
 exact Z7 Y (by rw[e];exact True.intro) hs he (Vq hz hd (rk.merge .nil) O)
structure M1 (X:Cx) (o:aG) (m:aC) (apos:aR) (e:aG) (cpos:aR):Prop where
 base:iN o m X.env (aW o X.env)=aW o X.env
 few:((cX cpos (bD [e] X.env)).all (λx=>!x.1) && (kP cpos (kQ [] X.env)).all (λx=>x.1.isSome)
  && decide (([e]:List aG).length+([]:List jH).length+(if([]:List jH).isEmpty then 0 else 1)<30))=true
 line:(apos.endLine==cpos.line)=true
 trees:cX cpos (bD [e] X.env)=[(false,aW e X.env)]
def IsD(H:Hp)(a:aA):Prop:=(∃kvs,Rd H a (.dK kvs))\/∃kvs,Rd H a (.dT kvs)
theorem zjN(I:Inv X pins σ H s)(d:IsD H a):
  s.TypeIs (.ref a) "dict"/\(∀b,Value.ref a=.ref b->∃j,s.heap.get? b=some j/\j.dict=none)/\(a==eY)=false:=by
 rcases d with⟨kvs,e⟩|⟨kvs,e⟩
 ·obtain⟨_,J,vs,_,z⟩:=XQ I.hok e
  refine⟨z.typeIs,λb q=>?_,J⟩
  cases q
  obtain⟨j,_,_,h1,h2,_⟩:=z
  exact⟨j,h1,h2.2.1⟩
 ·obtain⟨_,J,xs,_,z⟩:=Vp I.hok e
  refine⟨z.typeIs,λb q=>?_,J⟩
  cases q
  obtain⟨j,_,_,h1,h2,_⟩:=z
  exact⟨j,h1,h2.2.1⟩
section
variable {X:Cx} {pins:List (aA×aL)} {σ:St} {H:Hp} {s:aD} {a:aA} {y d:V} {u r:aB} {o:Option V} {A:bG} {E:aB->aD->Prop}
end
def zjO(td ty:TE):TE:=λσ H Q=>td σ H λx H1=>∃a,x=.ref a/\IsD H1 a/\ty σ H1 λy H2=>∃kvs k v,H2 a=some (.dK kvs)/\y=kV k/\xH kvs k=some v/\Q v (upd H2 a (.dK (vo kvs k)))
section
variable {X:Cx} {o e f:aG} {apos cpos:aR} {td ty tx:TE}
theorem zf9(ho:PE X o td)(he:PE X e ty)(m:M1 X o "pop" apos e cpos):PE X (.Call (.Attribute o "pop" apos) [e] [] cpos) (zjO td ty):=by
 intro pins s σ H Q I h
 refine wpAny_Call_method m.base m.few m.line oZ oR PySem.F.type_dict_pop (thn (ho pins s σ H _ I h) λu s1 ⟨x,H1,I1,rx,a,ex,d,q1⟩=>?_)
 subst ex
 obtain rfl:u=Value.ref a:=rx
 obtain⟨t1,t2,_⟩:=zjN I1 d
 refine⟨t1,t2,?_⟩
 rw[m.trees]
 refine kS rfl (oj (nT (thn (he pins s1 σ H1 _ I1 q1) λiv s2 ⟨y,H2,I2,ry,kvs,k,v,ea,ey,l,q2⟩=>nS ?_)))
 subst ey
 exact zlg I2 ea ry l (.inl rfl) λw' s3 I3 rw'=>⟨v,_,I3,rw',q2⟩
end
section
variable {X:Cx} {pins:List (aA×aL)} {σ:St} {H:Hp} {s:aD} {a:aA} {kvs:List (Key×V)} {A:bG} {E:aB->aD->Prop}
end
section
variable {X:Cx} {pins:List (aA×aL)} {σ:St} {H:Hp} {s:aD} {a:aA} {y:V} {u:aB} {A:bG} {E:aB->aD->Prop}
end
end L2
namespace L2
open PySem PySem.Spec PyProof.Rows
section
variable {X:Cx}
theorem Qs:wo X (.builtin "len") (λxs H Q=>∃a kvs,xs=[V.ref a]/\H a=some (.dK kvs)/\Q (.int kvs.length) H):=by
 intro pins s σ H xs us Q I r h
 obtain⟨a,kvs,rfl,j,q⟩:=h
 obtain⟨u,rfl,z⟩:=uR r
 cases z
 exact zlh I (.inl j) λt s' J=>⟨.int kvs.length,H,J,⟨t,rfl⟩,q⟩
end
section
variable {κ:Type} [DecidableEq κ]
theorem zeI{p:κ×V}{r:List (κ×V)}{k:κ}(e:p.1=k):vo (p::r) k=vo r k:=by
 unfold vo
 rw[iW,if_neg (by simp[e])]
theorem zeJ{p:κ×V}{r:List (κ×V)}{k:κ}(e:¬p.1=k):vo (p::r) k=p::vo r k:=by
 unfold vo
 rw[iW,if_pos (by simp[e])]
end
end L2
namespace DD
open PySem PySem.Spec L2
open PyProof.Rows hiding St
def Xg:D->Option Key
 | .int i=>some (.inl i)
 | .str x=>some (.inr x)
 | _=>none
def wp:List D->Option (List Key)
 | []=>some []
 | d::r=>(Xg d).bind λk=>(wp r).map λks=>k::ks
def Zk:D->Option (List Key)
 | .tup ds=>wp ds
 | _=>none
def y8{κ:Type} [DecidableEq κ] (kvs:List (κ×D)) (k:κ):Option D:=(kvs.find? λj=>decide (j.1=k)).map (·.2)
def vj{κ:Type} [DecidableEq κ] (kvs:List (κ×D)) (k:κ) (v:D):List (κ×D) :=
 if(kvs.any λj=>decide (j.1=k))=true then kvs.map (λj=>if j.1=k then(j.1,v)else j)else kvs++[(k,v)]
def B.dget:B->D->Option (Option D)
 | .t kvs,z=>(Zk z).map λq=>y8 kvs q
 | .k kvs,z=>(Xg z).map λq=>y8 kvs q
 | .d (.dK ks vs),z=>(Xg z).map λq=>y8 (ks.zip vs) q
 | .d (.dT ks vs),z=>(Zk z).map λq=>y8 (ks.zip vs) q
 | _,_=>none
def Xh(j:Bool):B->B->Option D:=λx y=>x.asD.bind λd=>(y.dget d).map λo=>.bl (if j then !o.isSome else o.isSome)
def Zz:B->B->Option D:=λx y=>y.asD.bind λd=>(x.dget d).bind id
def zcY(i:Nat):G->Option Out:=λΓ=>some (.nx (Γ.set i (.ok [])))
def WE:S->D->D->Option S
 | .ot kvs,k,v=>(Zk k).bind λk=>if kvs.length<aH then some (.ot (vj kvs k v))else none
 | .ok kvs,k,v=>(Xg k).bind λk=>if kvs.length<aH then some (.ok (vj kvs k v))else none
 | _,_,_=>none
def Z9(i:Nat)(j q:G->Option B):G->Option Out:=λΓ=>(q Γ).bind λz=>z.asD.bind λv=>(j Γ).bind λbk=>bk.asD.bind λk=>(Γ[i]?).bind λs=>(WE s k v).map λs'=>.nx (Γ.set i s')
section
variable {K:aE} {F H:Hp}
theorem Ya(e:Xg d=some k)(h:Is K F d v):v=kV k:=by
 cases d with
 | int i=>cases e;show v=V.int i;simpa[Is]using h
 | str x=>cases e;show v=V.str x;simpa[Is]using h
 | _=>cases e
theorem JU:∀{ds:List D} {ks:List Key} {vs:List V},wp ds=some ks->Are K F ds vs->vs=ks.map kV
 | [],_,_,e,h=>by cases e;rw[h.inv0];rfl
 | d::r,_,_,e,h=>by
  obtain⟨k,q,e⟩:=bind_some e
  obtain⟨ks,j,rfl⟩:=map_some e
  obtain⟨v,vs,rfl,h1,h2⟩:=h.inv
  rw[Ya q h1,JU j h2];rfl
theorem XR{κ:Type} [DecidableEq κ] {k:κ}:∀{kvs:List (κ×D)} {ws:List (κ×V)},we K F kvs ws->match y8 kvs k with
  | none=>xH ws k=none
  | some d=>∃v,xH ws k=some v/\Is K F d v:=λh=>by
 induction h with
 | nil=>exact rfl
 | @cons p q ps J h r I=>
  obtain⟨e,h⟩:=h
  by_cases z:p.1=k
  ·have j:y8 (p::ps) k=some p.2:=by simp[y8,eF,z]
   rw[j]
   exact⟨q.2,vO (by rw[<-e];exact z),h⟩
  ·have j:y8 (p::ps) k=y8 ps k:=by simp[y8,eF,z]
   rw[j,vh (by rw[<-e];exact z)]
   exact I
theorem JV{κ:Type} [DecidableEq κ] {k:κ}:∀{kvs:List (κ×D)} {ws:List (κ×V)},we K F kvs ws->(kvs.any λj=>decide (j.1=k))=ws.any λj=>decide (j.1=k)
 | _,_,.nil=>rfl
 | _,_,.cons ⟨e,_⟩ r=>by rw[fQ,fQ,e,JV r]
theorem JW{κ:Type} [DecidableEq κ] {k:κ} {d:D} {v:V} (I:Is K F d v):∀{kvs:List (κ×D)} {ws:List (κ×V)},we K F kvs ws->we K F (kvs.map λj=>if j.1=k then(j.1,d)else j) (ws.map λj=>if j.1=k then(j.1,v)else j)
 | _,_,.nil=>.nil
 | _,_,@Paired.cons _ _ _ p q ps J ⟨e,h⟩ r=>by
  rw[bI,bI]
  refine .cons ?_ (JW I r)
  by_cases z:p.1=k
  ·rw[if_pos z,if_pos (by rw[<-e];exact z)];exact⟨e,I⟩
  ·rw[if_neg z,if_neg (by rw[<-e];exact z)];exact⟨e,h⟩
theorem zeK{κ:Type}{p:κ×D}{q:κ×V}(j:p.1=q.1/\Is K F p.2 q.2):∀{kvs:List (κ×D)} {ws:List (κ×V)},we K F kvs ws->we K F (kvs++[p]) (ws++[q]):=λh=>by
 induction h with
 | nil=>exact .cons j .nil
 | cons h r z=>exact .cons h z
theorem Uu{κ:Type} [DecidableEq κ] {k:κ} {d:D} {v:V} {kvs:List (κ×D)} {ws:List (κ×V)} (h:we K F kvs ws) (j:Is K F d v):we K F (vj kvs k d) (wf ws k v):=by
 unfold vj wf
 rw[JV h]
 split
 ·exact JW j h
 ·exact zeK ⟨rfl,j⟩ h
theorem WG{κ:Type}{kvs:List (κ×D)}{ws:List (κ×V)}(h:we K F kvs ws):ws.length=kvs.length:=(Paired.length h).symm
theorem XS(j:zw F H)(e:Zk d=some ks)(h:Is K F d v):∃b,v=.ref b/\H b=some (.tup (ks.map kV)):=by
 cases d with
 | tup ds=>
  have h':=h
  simp only[Is]at h'
  obtain⟨b,vs,rfl,q,z⟩:=h'
  have:=JU e z
  subst this
  exact⟨b,rfl,j _ _ q⟩
 | _=>cases e
def OIs(K:aE)(F:Hp)(o:Option D)(r:Option V):Prop:=match o with
 | none=>r=none
 | some z=>∃v,r=some v/\Is K F z v
theorem WH{κ:Type}:∀{ws:List (κ×V)} {ds:List D},Are K F ds (ws.map fO)->we K F ((ws.map cC).zip ds) ws
 | [],ds,h=>by
  cases ds with
  | nil=>exact .nil
  | cons d r=>obtain⟨_,_,e,_⟩:=h.inv;cases e
 | w::ws,ds,h=>by
  cases ds with
  | nil=>have:=h.inv0;cases this
  | cons d r=>
   obtain⟨v,q,e,h1,h2⟩:=h.inv
   rw[bI]at e
   cases e
   exact .cons ⟨rfl,h1⟩ (WH h2)
theorem Uv{b:B}{d:D}{o:Option D}{x y:V}(R:zw F H)(I:BIs K F H b x)(U:Is K F d y)(e:b.dget d=some o):∃a r,x=.ref a/\wh H a y r/\OIs K F o r:=by
 cases b with
 | t kvs=>
  obtain⟨ks,J,rfl⟩:=map_some e
  obtain⟨a,ws,rfl,O,Y⟩:=I
  obtain⟨b,rfl,I⟩:=XS R J U
  refine⟨a,xH ws ks,rfl,wh.t O I,?_⟩
  have:=XR (k:=ks) Y
  cases q:y8 kvs ks with
  | none=>rw[q]at this;exact this
  | some z=>rw[q]at this;exact this
 | k kvs=>
  obtain⟨ks,J,rfl⟩:=map_some e
  obtain⟨a,ws,rfl,O,Y⟩:=I
  have:=Ya J U
  subst this
  refine⟨a,xH ws ks,rfl,wh.k O,?_⟩
  have:=XR (k:=ks) Y
  cases q:y8 kvs ks with
  | none=>rw[q]at this;exact this
  | some z=>rw[q]at this;exact this
 | d b=>
  cases b with
  | dK ks ds=>
   obtain⟨k,J,rfl⟩:=map_some e
   have j:Is K F (.dK ks ds) x:=I
   simp only[Is]at j
   obtain⟨a,ws,rfl,O,rfl,Z⟩:=j
   have:=Ya J U
   subst this
   refine⟨a,xH ws k,rfl,wh.k (R _ _ O),?_⟩
   have:=XR (k:=k) (WH Z)
   cases q:y8 ((ws.map cC).zip ds) k with
   | none=>rw[q]at this;exact this
   | some z=>rw[q]at this;exact this
  | dT ks ds=>
   obtain⟨k,J,rfl⟩:=map_some e
   have j:Is K F (.dT ks ds) x:=I
   simp only[Is]at j
   obtain⟨a,ws,rfl,O,rfl,Z⟩:=j
   obtain⟨b,rfl,I⟩:=XS R J U
   refine⟨a,xH ws k,rfl,wh.t (R _ _ O) I,?_⟩
   have:=XR (k:=k) (WH Z)
   cases q:y8 ((ws.map cC).zip ds) k with
   | none=>rw[q]at this;exact this
   | some z=>rw[q]at this;exact this
  | _=>cases e
 | _=>cases e
end
section
variable {X:Cx} {a b c e:aG} {f g h:G->Option B} {pos:aR} {es:List aG} {fs:G->Option (List B)}
def zjP(j:Bool):R2:=λx y H Q=>∃a o,y=.ref a/\wh H a x o/\Q (.bl (if j then !o.isSome else o.isSome)) H
theorem WI(j:X.A.units+1<bV):OpR X (cP .NotIn) (zjP true):=by
 rintro pins s σ H x y v u Q I z J ⟨a,o,O,g,q⟩
 subst O
 cases J
 exact zb0 j I g z λs' R=>⟨.bl _,H,R,rfl,q⟩
theorem JX{K:aE}{j:Bool}:OpB K (zjP j) (Xh j):=λF H x y v u d Q I O R e q=>by
 obtain⟨z,U,e⟩:=bind_some e
 obtain⟨o,Y,rfl⟩:=map_some e
 have:=xU U;subst this
 obtain⟨a,r,rfl,g,J⟩:=Uv I R O Y
 refine⟨a,r,rfl,g,?_⟩
 have:r.isSome=o.isSome:=by
  cases o with
  | none=>rw[J];rfl
  | some z=>obtain⟨v,rfl,_⟩:=J;rfl
 rw[this]
 exact q _ F H (.refl I) vZ
theorem zeL(Y:X.A.units+1<bV)(Z:EE X a f)(hb:EE X b g)(hs:zf7 b):EE X (.Subscript a b pos) (x2 Zz f g) :=
 yV (Ut Y Z hb hs) λσ H Q j=>by
  obtain⟨F0,H0,F,Γ,z,E,e,q⟩:=j
  obtain⟨x,y,d,hx,hy,hd,rfl⟩:=uh e
  refine⟨F0,H0,F,Γ,x,E,hx,λv F1 H1 U r1=>⟨F0,H0,F1,Γ,y,E.grow U,hy,λu F2 H2 I r2=>?_⟩⟩
  obtain⟨k,hk,J⟩:=bind_some hd
  obtain⟨o,ho,O⟩:=bind_some J
  have:=xU hk;subst this
  have R:o=some d:=O
  subst R
  obtain⟨a,r,rfl,g,w,rfl,hw⟩:=Uv I.fh (r1.ext I) r2 ho
  exact⟨a,w,rfl,g,q w F2 H2 (U.trans I) hw⟩
theorem Qt(Y:∀F H a,zw F H->H a=some o->F a=none->∀H0,H0 a=none->SIs X.K H0 F H s0 (some (.ref a))):dS X.K (λΓ=>some (.nx (Γ.set i s0))) E σ H->Uj (λ_ H Q=>∀p,H p=none->Q (.ref p) (upd H p o)) (vm i) E σ H:=λJ=>by
 obtain⟨F0,H0,F,Γ,z,R,e,q⟩:=J
 cases e
 intro p O
 have ex:Ext F H F (upd H p o):=.own R.fh O o
 refine q _ F _ ((R.grow ex).putOwn (Y F _ p ex.fh zk (R.fh.free O) H0 (R.ext.hh.free O)) λj s hj Y Z z=>?_) ex.ff
 obtain⟨o',h1,h2⟩:=R.val j s Y
 rw[z]at h1;cases h1
 cases s with
 | un=>cases Z
 | v d=>cases Z
 | ol ds=>obtain⟨a',vs,U,I,_⟩:=h2;cases U;rw[O]at I;cases I
 | ot kvs=>obtain⟨a',vs,U,I,_⟩:=h2;cases U;rw[O]at I;cases I
 | ok kvs=>obtain⟨a',vs,U,I,_⟩:=h2;cases U;rw[O]at I;cases I
theorem zjQ{i:Nat}{x:aC}{p dp:aR}(hN:X.N.Nodup)(hi:X.N[i]?=some x)(hx:Loc X.env.scope x)(hs:dD (.Dict [] [] dp) (some (.Name x p)) pos.line X.env=pure false:=by rfl)(hf:X.fn x=true\/X.env.scope.names.lookup x=some .local:=by first|exact .inl rfl|exact .inr rfl|assumption):
 SD X (.Assign [.Name x p] (.Dict [] [] dp) pos) (zcY i):=xa (xp hN hi hx uk hs hf) λE σ H q=>Qt (o:=.dK []) (s0:=.ok []) (λF H a _ h1 h2 H0 h3=>⟨a,[],rfl,h1,.nil,h2,h3⟩) q
theorem JY{i:Nat}{x:aC}{key value:aG}{fk fv:G->Option B}{px ppos:aR}(hu:X.A.units+1<bV)(ho:PE X (.Name x px) (vN i))(hk:EE X key fk)(hv:EE X value fv)(hs:dD value (some (.Subscript (.Name x px) key ppos)) pos.line X.env=pure false:=by rfl):
  SD X (.Assign [.Subscript (.Name x px) key ppos] value pos) (Z9 i fk fv):=xa (Z8 hu ho hk hv hs) λE σ H ⟨F0,H0,F,Γ,z,En,e,q⟩=>by
 obtain⟨bv,hbv,e⟩:=bind_some e
 obtain⟨v,hv,e⟩:=bind_some e
 obtain⟨bk,hbk,e⟩:=bind_some e
 obtain⟨k,hk,e⟩:=bind_some e
 obtain⟨s,hs,e⟩:=bind_some e
 obtain⟨s',hs',rfl⟩:=map_some e
 have:=xU hv;subst this
 have:=xU hk;subst this
 refine⟨F0,H0,F,Γ,_,En,hbv,λvv F1 H1 e1 r1=>?_⟩
 have E1:=En.grow e1
 obtain⟨o,ho,hso⟩:=E1.val i s hs
 cases s with
 | ot kvs=>
  obtain⟨ks,hks,hs'⟩:=bind_some hs'
  by_cases hz:kvs.length<aH
  ·rw[if_pos hz]at hs';cases hs'
   obtain⟨a,ws,rfl,ha,hp,hfa,h0a⟩:=hso
   refine⟨.ref a,ho,F0,H0,F1,Γ,_,E1,hbk,λkk F2 H2 e2 r2=>?_⟩
   have ha2:=e2.hh _ _ ha
   have hf2:F2 a=none:=e2.freed hfa (by rw[ha];simp)
   obtain⟨b,rfl,hb⟩:=XS e2.fh hks r2
   have hp2:=hp.mono e2.ff
   refine⟨a,_,rfl,uI.t (v:=vv) ha2 hb (by rw[WG hp2];exact hz),?_⟩
   exact q σ F2 _ ((E1.grow e2).change (s1:=.ot kvs) hs rfl ho h0a hf2 ⟨a,_,rfl,zk,Uu hp2 (r1.mono e2.ff),hf2,h0a⟩) (e1.ff.trans e2.ff)
  ·rw[if_neg hz]at hs';cases hs'
 | ok kvs=>
  obtain⟨ks,hks,hs'⟩:=bind_some hs'
  by_cases hz:kvs.length<aH
  ·rw[if_pos hz]at hs';cases hs'
   obtain⟨a,ws,rfl,ha,hp,hfa,h0a⟩:=hso
   refine⟨.ref a,ho,F0,H0,F1,Γ,_,E1,hbk,λkk F2 H2 e2 r2=>?_⟩
   have ha2:=e2.hh _ _ ha
   have hf2:F2 a=none:=e2.freed hfa (by rw[ha];simp)
   have:=Ya hks r2
   subst this
   have hp2:=hp.mono e2.ff
   refine⟨a,_,rfl,uI.k (v:=vv) ha2 (by rw[WG hp2];exact hz),?_⟩
   exact q σ F2 _ ((E1.grow e2).change (s1:=.ok kvs) hs rfl ho h0a hf2 ⟨a,_,rfl,zk,Uu hp2 (r1.mono e2.ff),hf2,h0a⟩) (e1.ff.trans e2.ff)
  ·rw[if_neg hz]at hs';cases hs'
 | _=>cases hs'
end
end DD
namespace DD
open PySem PySem.Spec L2
open PyProof.Rows hiding St
open PySem.SeqAt (shaped compareEq_shaped compareNe_shaped canLay_of_shaped room_of_shaped eqAt_reads)
section
variable {X:Cx} {a b c e:aG} {f g h:G->Option B} {pos:aR} {es:List aG} {fs:G->Option (List B)}
def Yb:B->B->Option D:=λx y=>x.lst.bind λds=>(ZO y).bind λq=>if bZ q=true/\(toPs ds).all bZ=true then((toPs ds).findIdx? λp=>bL p q).map λ(j:Nat)=>.int (j:Int)else none
def zeM(K:aE):V->List V->Hp->VK->Prop:=λx vs H Q=>∃F l ds ws y q j,x=.ref l/\vs=[y]/\zw F H/\H l=some (.lst ws)/\Are K F ds ws/\RP K H y q/\bZ q=true/\(∀p∈toPs ds,bZ p=true)/\(toPs ds).findIdx? (λp=>bL p q)=some j/\Q (.int (j:Nat)) H
theorem zb2{h:aK}{q:eU}:∀{ps:List eU} {us:List aB} {as:List aA},iU h us ps as->(∀p∈ps,bZ p=true)->us.length=ps.length/\∀(i:Nat) (h1:i<us.length) (h2:i<ps.length),eqR h q us[i]=bL ps[i] q
 | [],_,_,.nil,_=>⟨rfl,λi h1=>absurd h1 (by simp)⟩
 | p::ps,_,_,.cons r t,c=>by
  obtain⟨h1,h2⟩:=zb2 (q:=q) t λj z=>c j (bO _ z)
  refine⟨by simp[h1],λi a b=>?_⟩
  cases i with
  | zero=>exact JO r (eE (c p bN))
  | succ i=>exact h2 i (by simpa using a) (by simpa using b)
theorem JZ(hu:X.A.units+128<bV):MtM X "list.index" (zeM X.K):=by
 rintro pins s σ H x vs v us Q I rx rv ⟨F,l,ds,ws,y,q,j,ex,ey,sm,hl,ra,⟨F',b,sm',e,hb⟩,sq,sp,hj,hq⟩
 subst ex
 subst ey
 cases rx
 obtain⟨u,rfl,ru⟩:=rv.one
 have hu1:X.A.in1.units+64<bV:=by show X.A.units+1+64<bV;omega
 obtain⟨z,its,n,r,hlen,eo⟩:=I.lstM hl
 obtain⟨bs,rb⟩:=ui I sm' e hb ru (eE sq)
 obtain⟨as,rs⟩:=reads_Ds I sm ds ra r (Us sp)
 obtain⟨g1,g2⟩:=zb2 (q:=q) rs sp
 obtain⟨hjlt,hjt,hjn⟩:=List.findIdx?_eq_some_iff_getElem.mp hj
 have hjl:j<its.length:=by omega
 rw[fB]at z
 refine gD mP ⟨_,eo,rfl⟩ PySem.F.entry_list_index (PySem.F.args_list_index_2 _ _)
  (SeqAt.list_indexAt l its.toArray n none #[] u (eqR s.heap q) j (by simpa using hjl) (by omega) (by simp;rw[g2 j hjl hjlt];exact hjt) (λm hm hlt=>by
   have hm':m<its.length:=by simpa using hm
   simp
   rw[g2 m hm' (by omega)]
   have:=hjn m hlt
   simpa using this)) ⟨eo,λy hy=>?_,?_⟩
 ·exact Z5 rb sq hu1 rs sp y (by simpa using hy)
 ·exact⟨.int j,H,I.tok _,⟨_,rfl⟩,hq⟩
theorem zb3(h1:PE X (.Call (.Attribute a "index" apos) [e] [] cpos) (tBM X.K "list" (zeM X.K) (dE X.K f) (uw (dE X.K g) Yu))):EE X (.Call (.Attribute a "index" apos) [e] [] cpos) (x2 Yb f g) :=
 yV h1 λσ H Q J=>by
  obtain⟨F0,H0,F,Γ,z,E,e,q⟩:=J
  obtain⟨x,y,d,hx,hy,hd,rfl⟩:=uh e
  obtain⟨ds,Y,Z⟩:=bind_some hd
  obtain⟨p,hp,I⟩:=bind_some Z
  by_cases R:bZ p=true/\(toPs ds).all bZ=true
  ·rw[if_pos R]at I
   obtain⟨j,hj,rfl⟩:=map_some I
   refine⟨F0,H0,F,Γ,x,E,hx,λv F1 H1 e1 r1=>?_⟩
   obtain⟨l,ws,rfl,hl,ra⟩:=Zg e1.fh Y r1
   refine⟨.inl ⟨rfl,ws,SqL.of hl⟩,F0,H0,F1,Γ,y,E.grow e1,hy,λu U H2 O r2=>?_⟩
   exact⟨U,l,ds,ws,u,p,j,rfl,rfl,O.fh,O.hh _ _ hl,ra.mono O.ff,⟨U,y,O.fh,hp,r2⟩,R.1,λp hp=>dG.mp R.2 p hp,hj,q _ U H2 (e1.trans O) (wO (K:=X.K) (F:=U))⟩
  ·rw[if_neg R]at I;cases I
end
end DD
namespace HT
open PySem PyProof.Rows
open PySem.SeqAt
open PySem.AutoSeq1 (wpAny_loadPart')
open PySem.MeetsSeq PySem.MeetsSeq2 PySem.MeetsSeq3
def Jh(op:iJ)(m n:Nat):Bool:=match op with
 | .LtE=>decide (m<=n)
 | .Gt=>decide (n<m)
 | _=>false
inductive OrdL (A:bG) (s:aD) (op:iJ):List aB->List aB->Bool->Prop where
 | fin {r:Bool} (vs ws:List aB) (h:vs=[]\/ws=[]) (hr:r=Jh op vs.length ws.length):OrdL A s op vs ws r
 | eq {vs ws:List aB} {r:Bool} (v u:aB) (h:EqAt A s v u true) (t:OrdL A s op vs ws r):OrdL A s op (v::vs) (u::ws) r
 | ne {vs ws:List aB} {r:Bool} (v u:aB) (h:EqAt A s v u false) (hc:∀(prog:aS) (w:aO) (E:aB->aD->Prop) (Q:aB->aD->Prop),Q (.bool r) s->wpAny (aJ prog w) A (richCompare op v u) Q E s):OrdL A s op (v::vs) (u::ws) r
theorem J0(l b:aA)(items items2:Array aB)(n n2:Nat)(dd dd2:Option aA)(sl sl2:Array (Option aB))(r:Bool):
  iT (fN.«tuple.__le__» ⟨[.ref l,.ref b],[]⟩)
   (λA R s=>s.heap.get? l=some {cls:=.type "tuple",dict:=dd,data:=.seq items n,slots:=sl}/\s.heap.get? b=some {cls:=.type "tuple",dict:=dd2,data:=.seq items2 n2,slots:=sl2}/\
    OrdL A.in1 s .LtE items.toList items2.toList r/\R (.ok (.ret (.bool r))) s) :=
 .of_wp λprog w A R s h=>by
  obtain⟨hp,g,d,tk,os⟩:=s;obtain⟨hl,hb,ho,h⟩:=h
  have f2:=AutoSeq1.sub_tuple_tuple
  wp_walk using wpAny_loadPart' hl,wpAny_loadPart' hb,wpAny_forIn_list _ (λrest b s'=>b.1=none/\s'=⟨hp,g,d,tk,os⟩/\∃(vs ws:List aB),rest=vs.zip ws/\
   OrdL A.in1 ⟨hp,g,d,tk,os⟩ .LtE vs ws r/\vs.length+items2.size=ws.length+items.size) _
  case turn=>
   rintro⟨y,x⟩ rest b s' ⟨hb',rfl,vs,ws,hz,ho',hlen⟩
   cases ho' with
   | fin vs ws he hr=>
    rcases he with rfl|rfl
    ·rw[List.zip_nil_left]at hz;cases hz
    ·rw[List.zip_nil_right]at hz;cases hz
   | eq v u he hrest'=>
    rw[lg]at hz
    injection hz with hyx hrest
    injection hyx with hy hx
    subst hy hx
    refine aI (he prog w _ _ ?_)
    simp only[cD]at hlen
    wp_walk
    exact⟨rfl,rfl,_,_,hrest,hrest',by omega⟩
   | ne v u he hc=>
    rw[lg]at hz
    injection hz with hyx hrest
    injection hyx with hy hx
    subst hy hx
    refine aI (he prog w _ _ ?_)
    have hc':=hc prog w
    wp_walk using hc'
    exact⟨_,rfl,by simpa using h⟩
  case fin=>
   rintro⟨b1,b2⟩ s' ⟨hb',rfl,vs,ws,hz,ho',hlen⟩
   simp only at hb'
   subst hb'
   cases ho' with
   | fin vs ws he hr=>
    have hv:r=Jh .LtE items.size items2.size:=by
     rw[hr]
     unfold Jh
     simp only
     rw[gO]
     simp only[decide_eq_true_eq]
     omega
    rw[hv]at h
    wp_walk
    exact⟨_,rfl,by simpa[qZ,Jh]using h⟩
   | eq v u he hrest'=>rw[lg]at hz;cases hz
   | ne v u he hc=>rw[lg]at hz;cases hz
  case h=>
   exact⟨rfl,rfl,items.toList,items2.toList,rfl,ho,by simp[jO]⟩
theorem zeN{prog:aS}{w:aO}{A:bG}{E:aB->aD->Prop}{s:aD}{l b:aA}{items j:Array aB}{r:Bool}{Q:aB->aD->Prop}(Y:fH s.heap l items)(Z:fH s.heap b j) 
  (ho:OrdL A.in1 s .LtE items.toList j.toList r) (hu:A.units<bV) (h:Q (.bool r) s):wpAny (aJ prog w) A (richCompare .LtE (.ref l) (.ref b)) Q E s:=by
 obtain⟨⟨cls,dd,data,sl⟩,h1,O,n,R⟩:=id Y
 obtain⟨⟨U,I,data2,J⟩,h2,q,n2,z⟩:=id Z
 simp only at O R q z
 subst O R q z
 exact richCompare_meets_room (op:=.LtE) ⟨_,h1,rfl⟩ ⟨_,h2,rfl⟩ PySem.F.slot_tuple_le PySem.F.entry_tuple_le (PySem.F.args_tuple_le_2 _ _) (J0 l b items j n n2 dd I sl J r)
  ⟨h1,h2,ho,show Value.bool r≠Value.notImplemented/\Q (.bool r) s from⟨(λx=>nomatch x),h⟩⟩ hu
end HT
namespace L2
open PySem PySem.Spec PyProof.Rows
theorem zcZ{P:aS}{w:aO}{K:aE}{elts:List aG}{k:Nat}{tp:aR}(a it e:aA)(hei:e≠it):
  Turn P w K (.Tuple elts k tp) (Ite λH xs=>SqL K H a xs) [e,it] e (λi h=>(∃old,kZ h e it i old)/\h.IsListIter it a i) where
 mem:=by simp
 obj:=λi h st b hb=>by
  obtain⟨⟨old,he⟩,o,e1,c,d⟩:=st
  rcases aU.mp hb with q|hb
  ·subst q
   exact⟨_,he,λv z=>by
    have z':Data.fields _=Data.cell v:=z
    cases z'⟩
  ·rw[bW.mp hb]
   exact⟨o,e1,λv z=>by rw[d]at z;cases z⟩
 keep:=λi h h' st k=>⟨let ⟨old,he⟩:=st.1;⟨old,k e (by simp) _ he⟩,st.2.at λo q=>k it (by simp) o q⟩
 item:=by
  intro X hP hw hK hc i pins s σ H E I hf st hg
  subst hP hw hK
  obtain⟨xs,x,hq,hx⟩:=hg
  obtain⟨its,rv,p,hz⟩:=I.list hq
  obtain⟨u,hu,ru⟩:=rv.get hx
  obtain⟨⟨old,he⟩,hit⟩:=st
  have fe:=hf e (by simp)
  have fi:=hf it (by simp)
  have hai:a≠it:=λz=>by
   obtain⟨o,e1,c,_⟩:=p.isList
   obtain⟨o2,e2,c2,_⟩:=hit
   rw[z,e2]at e1;cases e1;rw[c2]at c;exact absurd c (by simp)
  have hae:e∉ [it,a]:=λhm=>by
   rcases aU.mp hm with q|hm
   ·exact hei q
   ·have q:=bW.mp hm
    obtain⟨o,e1,c,_⟩:=p.isList
    rw[<-q,he]at e1
    cases e1;simp at c
  refine oH (Draws.list (A:=X.A.in1) (I.ok.hd hc) it a hai its.toArray) he ⟨hit,p.isList⟩ (by rw[cF];exact(bE.mp hu).1) hei hae λx' h' tk hP ho hs' hT hsz hk=>?_
  have hx':x'=u:=by
   have hP':its[i]?=some x':=by simpa using hP
   rw[hu]at hP';cases hP';rfl
  subst hx'
  refine⟨_,rfl,oI ho λh2 he2 hs2=>?_⟩
  have hk2:∀b o,b≠e->b≠it->s.heap.get? b=some o->h2.get? b=some o:=λb o n1 n2 q=>(hs2.2 b n1).trans (hk b o n1 n2 q)
  have hel:e≠s.heap.objs.size:=bT (bF he)
  have hit2:h2.IsListIter it a (i+1):=hs'.1.at λo q=>(hs2.2 it (aQ hei)).trans q
  have I2:=Qn (tk':=tk+1) (i:=i) (tk:=tk) (h':=h2) I fe fi ru ((hs2.2 _ (aQ hel)).trans hT) hk2 (λb o q=>by
   by_cases n1:b=e
   ·subst n1;exact⟨_,he2⟩
   ·by_cases n2:b=it
    ·subst n2;obtain⟨o',q',_⟩:=hit2;exact⟨o',q'⟩
    ·exact⟨o,hk2 b o n1 n2 q⟩)
  refine⟨.ref s.heap.objs.size,_,I2,rfl,⟨_,x,I.hok.fresh (aP _),rfl,rfl,λys hy=>by rw[I.list_inj hy hq];exact hx⟩,⟨⟨x',by simpa using he2⟩,hit2⟩,λb hb=>?_⟩
  have hb':wH X pins H b:=hf b hb
  rw[ze (λz=>?_)]
  ·exact hb'.1
  ·rcases aU.mp hb with q|hb
   ·exact hel (q.symm.trans z)
   ·have q:=bW.mp hb
    obtain⟨o,e1,_⟩:=hit
    exact bT (bF e1) (q.symm.trans z)
 done:=by
  intro X hP hw hK hc i pins s σ H E I hf st hg
  subst hP hw hK
  obtain⟨xs,hq,hx⟩:=hg
  obtain⟨its,rv,p,hz⟩:=I.list hq
  obtain⟨⟨old,he⟩,hit⟩:=st
  obtain⟨f0,f1,f2,f3,f4,f5⟩:=hf it (by simp)
  have hl:=rv.length
  have hai:a≠it:=λz=>by
   obtain⟨o,e1,c,_⟩:=p.isList
   obtain⟨o2,e2,c2,_⟩:=hit
   rw[z,e2]at e1;cases e1;rw[c2]at c;exact absurd c (by simp)
  have hT:s.TypeIs (.ref e) "enumerate":=⟨_,he,rfl⟩
  unfold fA
  refine aI (jR (iR (name:=gF "__next__") hT k3
   (iS k3 hT oJ ?_ (oK _))))
  show wpAny _ _ (fM (.ref e) 2>>=_) _ _ _
  refine aI (eC he rfl (x:=.ref it) rfl ?_)
  refine aI (wpAny_nextOf_list_end (A:=X.A.in1) (I.ok.hd hc) hit p.isList (by simp;omega) λh' ex hx' ⟨o,ho,hcl⟩=>?_)
  refine aI (k4 (T:="StopIteration") (b:=true) ⟨o,ho,hcl⟩ mK ?_)
  exact bJ ⟨rfl,I.turned (t':=s.toks) (λb o hb q=>hx' b o hb q) f0 f1 f3 f4 f5⟩
 self:=λ_ _ _ _ _ st h=>let ⟨_,he⟩:=st.1;k6 he h
section
variable {X:Cx}
def zmG(K:aE)(ta:TA):TI:=λσ H R=>ta σ H λvs H1=>∃a,vs=[.ref a]/\(∃xs,SqL K H1 a xs)/\R (Ite λH xs=>SqL K H a xs) H1
theorem J1{a:aG}{ta:TA}{p pos tp:aR}{j:List aG}{k:Nat}(hg:Gl X "enumerate")(hm:X.mg "enumerate"=none)(ha:PA X [a] ta)(hs:bD [a] X.env=[(false,aW a X.env)]:=by rfl):
  PI X (.Tuple j k tp) (.Call (.Name "enumerate" p) [a] [] pos) (zmG X.K ta):=by
 intro pins s σ H R I h
 refine Call_ (Zb I hg hm oM (jE (thn (ha pos pins s σ H _ I h) λus s1 ⟨vs,H1,O,r1,q1⟩=>?_) hs rfl))
 obtain⟨l,e,⟨xs,hq⟩,q⟩:=q1
 subst e
 cases r1 with
 | cons r rr=>
  cases rr
  cases r
  obtain⟨its,rv,pt,hz⟩:=O.list hq
  refine call_enumerate_list (items:=its.toArray) pt.isList λh' Z U hsz hk=>?_
  refine k6 Z ?_
  have I2:Inv X pins σ H1 {s1 with heap:=h'}:=O.kept (t':=s1.toks) hk
  refine⟨s1.heap.objs.size+1,[s1.heap.objs.size+1,s1.heap.objs.size],_,_,H1,rfl,I2,zcZ l s1.heap.objs.size (s1.heap.objs.size+1) (oO _),⟨⟨_,Z⟩,U⟩,λb Y=>?_,q⟩
  have J:s1.heap.objs.size<=b:=by
   rcases aU.mp Y with z|Y
   ·rw[z];exact kR _
   ·rw[bW.mp Y];exact aP _
  exact O.fpOk J (O.hok.fresh J)
end
end L2
namespace DD
open PySem PySem.Spec L2
open PyProof.Rows hiding St
open PySem.SeqAt (shaped compareEq_shaped compareNe_shaped canLay_of_shaped room_of_shaped eqAt_reads)
section
variable {X:Cx} {pins:List (aA×aL)} {σ:St} {F H:Hp} {s:aD}
end
def J2:List D->Option (List Int)
 | []=>some []
 | .int i::r=>(J2 r).map λns=>i::ns
 | _::_=>none
def zno(res:Int->Int->List Int->List Int->Bool):B->B->Option D
 | .d (.tup [.int i,.tup as]),.d (.tup [.int j,.tup bs])=>(J2 as).bind λns=>(J2 bs).map λms=>.bl (res i j ns ms)
 | _,_=>none
section
variable {X:Cx} {a b c e f':aG} {f g h:G->Option B} {pos:aR} {es:List aG} {fs:G->Option (List B)}
def Xi(fs:G->Option (List B)):G->Option (List D):=λΓ=>(fs Γ).bind λbs=>match bs with
 | [.d (.lst ds)]=>some (ya ds)
 | _=>none
theorem XT{p tp:aR}{z:List aG}{k:Nat}(hg:Gl X "enumerate")(hm:X.mg "enumerate"=none)(ha:EA X [a] fs)(hs:bD [a] X.env=[(false,aW a X.env)]:=by rfl):
  EI X (.Tuple z k tp) (.Call (.Name "enumerate" p) [a] [] pos) (Xi fs):=Z3 (J1 hg hm ha hs) λσ H R ⟨F0,H0,F,Γ,ds,En,e,q⟩=>by
 obtain⟨bs,hb,e⟩:=bind_some e
 refine⟨F0,H0,F,Γ,bs,En,hb,λvs Y H1 Z r1=>?_⟩
 match bs,e,r1 with
 | [.d (.lst ds)],e,r1=>
  cases e
  obtain⟨v,rfl,hv⟩:=v0 r1
  have I:Is X.K Y (.lst ds) v:=hv
  simp only[Is]at I
  obtain⟨l,us,rfl,hf,ra⟩:=I
  refine⟨l,rfl,⟨us,SqL.of (Z.fh _ _ hf)⟩,q _ Y H1 Z λi F2 H2 s1 s2=>?_⟩
  have J:SqL X.K H2 l us:=SqL.of (s2 _ _ (s1 _ _ hf))
  refine⟨λd O=>?_,λhl=>⟨us,J,by rw[ra.length];simpa[ya]using hl⟩⟩
  have j:i<ds.length:=by
   have:=(bE.mp O).1
   simpa[ya]using this
  obtain⟨u,hu,hi⟩:=ra.get (i:=i) (d:=ds[i]) (by simp[j])
  have U:d=.tup [.int (i:Int),ds[i]]:=by
   have:(ya ds)[i]?=some (.tup [.int (i:Int),ds[i]]):=by
    simp[ya,aY,fP j,fR,j]
   rw[this]at O;cases O;rfl
  subst U
  refine⟨⟨us,u,J,hu⟩,λx H' y=>?_⟩
  obtain⟨T,v,hT,rfl,rfl,y⟩:=y
  have:=y us J
  rw[hu]at this;cases this
  refine⟨upd F2 T (.tup [.int i,u]),.fix s2 hT _,?_⟩
  simp only[Is]
  exact⟨T,_,rfl,zk,.cons wO (.cons (hi.mono (s1.trans (zK (s2.free hT) _))) .nil)⟩
def zjR(tk tv:TE):TE:=λσ H Q=>∀p,H p=none->Vr [(tk,tv)] σ (upd H p (.dT [])) λps H2=>∃(x y:V) (ks:List Key) (b:aA),ps=[(x,y)]/\x=.ref b/\H2 b=some (.tup (ks.map kV))/\H2 p=some (.dT [])/\Q (.ref p) (upd H2 p (.dT [(ks,y)]))
theorem zga(hu:X.A.units+1<bV)(hk:PE X a tk)(hv:PE X b tv):PE X (.Dict [some a] [b] pos) (zjR tk tv):=by
 intro pins s σ H Q I q
 have hn:=I.hok.fresh (aP s.heap.objs.size)
 have I1:=I.laid (a:=s.heap.objs.size) (o:=.dT []) (h':=s.heap.push {cls:=.type "dict",data:=.dict #[]}) (t':=s.toks) (λ_ _ q=>bB _ q) (aP _) (zf8 s.heap I.big)
 refine wpAny_Dict_any rfl rfl (by simp) (by simp) (thn ((JT hk hv zb1:PPs X pos _ _ _) pins _ σ _ _ I1 (q _ hn)) λws s2 ⟨ps,H2,O,j,x,y,ks,R,e1,ex,hb,U,hq⟩=>?_)
 ·subst e1 ex
  cases j with
  | @cons pq uv _ _ r1 r2=>
   cases r2
   obtain⟨u,r⟩:=uv
   obtain⟨ru,rr⟩:=r1
   cases (show u=Value.ref R from ru)
   obtain⟨z,hd,xs,j,dd⟩:=zhQ O.hok U
   have Y:xs=[]:=by cases j;rfl
   subst Y
   show wpAny _ _ (storeAll _ [(Value.ref R,r)]) _ _ _
   unfold storeAll
   simp only[jQ,mQ]
   refine aI (aI (wpAny_dictSet_heap (hsz:=by simp) (show(iH (yg X.prog X.w)).room X.A from Nat.lt_of_succ_lt hu) (Xf O.hok hb) dd λh' Z hs=>bJ (bJ ?_)))
   obtain⟨qo,es,ep,J,h2,h3,h4,_,h5⟩:=Z
   refine⟨.ref s.heap.objs.size,_,?_,rfl,hq⟩
   have hl:([(ks,y)]:List (List Key×V)).length<=aH:=by show 1<=aH;decide
   refine Z7 O (by rw[U];exact True.intro) hs ⟨qo,J⟩ ⟨hl,hd,_,?_,qo,es,ep,J,h2,h3,h4,h5⟩
   have kt:KT H2 [(ks,y)] (storedH [] ks R r):=KT.put (kvs:=[]) (xs:=[]) .nil ks hb rr
   exact kt.keeps λc ys ec=>by
    rw[ze (vX ec U (λz=>nomatch z))]
    exact ec
def Vt(i:Nat)(j q:G->Option B):G->Option Out:=λΓ=>(j Γ).bind λbk=>bk.asD.bind λk=>(q Γ).bind λz=>z.asD.bind λv=>(Zk k).map λks=>.nx (Γ.set i (.ot [(ks,v)]))
theorem zir{i:Nat}{x:aC}{p dp:aR}{key value:aG}{fk fv:G->Option B}(hu:X.A.units+1<bV)(hN:X.N.Nodup)(hi:X.N[i]?=some x)(hx:Loc X.env.scope x)(hk:EE X key fk)(hv:EE X value fv)(hs:dD (.Dict [some key] [value] dp) (some (.Name x p)) pos.line X.env=pure false:=by rfl)(hf:X.fn x=true\/X.env.scope.names.lookup x=some .local:=by first|exact .inl rfl|exact .inr rfl|assumption):
  SD X (.Assign [.Name x p] (.Dict [some key] [value] dp) pos) (Vt i fk fv):=xa (xp hN hi hx (zga hu hk hv) hs hf) λE σ H ⟨F0,H0,F,Γ,z,En,e,q⟩=>by
 obtain⟨bk,hbk,e⟩:=bind_some e
 obtain⟨k,hk,e⟩:=bind_some e
 obtain⟨bv,hbv,e⟩:=bind_some e
 obtain⟨v,hv,e⟩:=bind_some e
 obtain⟨ks,hks,rfl⟩:=map_some e
 have:=xU hk;subst this
 have:=xU hv;subst this
 intro p hp
 have ex:Ext F H F (upd H p (.dT [])):=.own En.fh hp _
 have E0:=En.grow ex
 refine⟨F0,H0,F,Γ,_,E0,hbk,λkk F1 H1 e1 r1=>⟨F0,H0,F1,Γ,_,E0.grow e1,hbv,λvv F2 H2 e2 r2=>?_⟩⟩
 obtain⟨b,rfl,hb⟩:=XS e2.fh hks (r1.mono e2.ff)
 have hp2:H2 p=some (.dT []):=e2.hh _ _ (e1.hh _ _ zk)
 refine⟨_,vv,ks,b,rfl,rfl,hb,hp2,?_⟩
 have hfp:F p=none:=En.fh.free hp
 have hf1:F1 p=none:=e1.freed hfp (by rw[zk];simp)
 have hf2:F2 p=none:=e2.freed hf1 (by rw[e1.hh _ _ zk];simp)
 have h0p:H0 p=none:=En.ext.hh.free hp
 have E2:=(E0.grow e1).grow e2
 have ext2:Ext F0 H0 F2 (upd H2 p (.dT [(ks,vv)])):=E2.ext.turn h0p hf2 _
 refine q _ F2 _ ?_ ((e1.ff).trans e2.ff)
 have keepE:EnvIs X.K F0 H0 F2 (upd H2 p (.dT [(ks,vv)])) σ Γ:=by
  refine⟨ext2,E2.len,λj s hs=>?_,E2.sep⟩
  obtain⟨o,h1,h2⟩:=E2.val j s hs
  refine⟨o,h1,?_⟩
  have ne:∀c,s.own=true->σ[j]?=some (some (.ref c))->c≠p:=λc so sc z=>by
   subst z
   obtain⟨o',h1',h2'⟩:=En.val j s hs
   rw[sc]at h1';cases h1'
   cases s with
   | un=>cases so
   | v d=>cases so
   | ol ds=>obtain⟨a',vs,e',q1,_⟩:=h2';cases e';rw[hp]at q1;cases q1
   | ot kvs=>obtain⟨a',vs,e',q1,_⟩:=h2';cases e';rw[hp]at q1;cases q1
   | ok kvs=>obtain⟨a',vs,e',q1,_⟩:=h2';cases e';rw[hp]at q1;cases q1
  cases s with
  | un=>trivial
  | v d=>exact h2
  | ol ds=>obtain⟨c,vs,rfl,p1,p2,p3,p4⟩:=h2;exact⟨c,vs,rfl,by rw[ze (ne c rfl h1)];exact p1,p2,p3,p4⟩
  | ot ds=>obtain⟨c,vs,rfl,p1,p2,p3,p4⟩:=h2;exact⟨c,vs,rfl,by rw[ze (ne c rfl h1)];exact p1,p2,p3,p4⟩
  | ok ds=>obtain⟨c,vs,rfl,p1,p2,p3,p4⟩:=h2;exact⟨c,vs,rfl,by rw[ze (ne c rfl h1)];exact p1,p2,p3,p4⟩
 refine keepE.putOwn ⟨p,[(ks,vv)],rfl,zk,.cons ⟨rfl,r2⟩ .nil,hf2,h0p⟩ λj s hj hs ho z=>?_
 obtain⟨o',h1,h2⟩:=En.val j s hs
 rw[z]at h1;cases h1
 cases s with
 | un=>cases ho
 | v d=>cases ho
 | ol ds=>obtain⟨a',vs,e',q1,_⟩:=h2;cases e';rw[hp]at q1;cases q1
 | ot kvs=>obtain⟨a',vs,e',q1,_⟩:=h2;cases e';rw[hp]at q1;cases q1
 | ok kvs=>obtain⟨a',vs,e',q1,_⟩:=h2;cases e';rw[hp]at q1;cases q1
end
end DD
namespace L2
open PySem PySem.Spec PyProof.Rows
section
variable {P:aS} {w:aO} {K:aE} {mg:aC->Option aB} {base:aK} {N:List aC} {qual:aC} {scope:cB} {f C:aA} {cdv:aB} {A:bG} {outer:List cA} {s₀:aD} {H₀:Hp} {E:XK}
end
section
variable {X:Cx} {pins:List (aA×aL)} {σ:St} {H:Hp} {s s':aD} {C a:aA} {e:aB} {H':Hp} {B h:aK} {a0:aB}
end
end L2
namespace L2
open PySem PySem.Spec PyProof.Rows
section
variable {P:aS} {w:aO} {K:aE} {mg:aC->Option aB} {base:aK} {N:List aC} {qual:aC} {scope:cB} {f C:aA} {cdv:aB} {A:bG} {outer:List cA} {s₀:aD} {H₀:Hp} {E:XK}
end
section
variable {X:Cx} {pins:List (aA×aL)} {σ:St} {H:Hp} {s:aD}
end
end L2
namespace DD
open PySem PySem.Spec L2
open PyProof.Rows hiding St
section
variable {X:Cx}
end
end DD
namespace L2
open PySem PySem.Spec PyProof.Rows PySem.W
section
variable {prog:aS} {w:aO} {A:bG} {E:aB->aD->Prop} {K:aE} {h:aK} {g:Array lO} {d:Drawn} {t:Nat} {os:OsState} {a C:aA} {oe:aL}
end
section
variable {X:Cx}
end
end L2
namespace L2
open PySem PySem.Spec PyProof.Rows
theorem zc0(l:aA)(items:Array aB)(n:Nat)(dd:Option aA)(sl:Array (Option aB))(x:Int)(u:cU)(h1:¬items.isEmpty=true)(h2:2<=x)(h3:x<2^63)(h4:items.size*x.toNat<=aH):
  iT (fN.«tuple.__mul__» ⟨[.ref l,.int x u],[]⟩) (λ_ R s=>s.heap.get? l=some {cls:=.type "tuple",dict:=dd,data:=.seq items n,slots:=sl}/\R (.ok (.ret (Value.ref s.heap.objs.size))) {s with heap:=s.heap.push {cls:=Value.type "tuple",data:=Data.seq (kT (λx1 x2=>x1++x2) #[] (aZ x.toNat items))},toks:=s.toks}) :=
 .of_wp λprog w A R s h=>by
  obtain⟨hp,g,d,tk,os⟩:=s;obtain⟨hl,h⟩:=h
  have f1:=o8
  have c1:(decide (x< -(2^63)) || decide (x>=2^63))=false:=by simp;omega
  have c2:(items.isEmpty|| x==1)=false:=by
   have:(x==1)=false:=by simp;omega
   rw[this];simpa using h1
  have c3:(decide (x<=0) || items.isEmpty)=false:=by
   have:decide (x<=0)=false:=by simp;omega
   rw[this];simpa using h1
  have hx:((items.size:Int)*x)=((items.size*x.toNat:Nat):Int):=by
   rw[Int.natCast_mul,lh (by omega)]
  have hle:(aH:Nat)<=(2^63-1)/8:=by decide
  have c4:¬((items.size:Int)*x>(2^63-1)/8):=by rw[hx];omega
  wp_walk using wpAny_loadPart' hl
  rw[if_neg (by rw[c1];exact cJ)]
  wp_walk using wpAny_loadPart' hl
  rw[if_neg (by rw[c2];exact cJ)]
  wp_walk using wpAny_loadPart' hl
  rw[if_neg (by rw[c3];exact cJ)]
  wp_walk using wpAny_loadPart' hl
  rw[if_neg c4]
  have c5:pb (items.size*x)=false:=by
   unfold pb
   rw[hx]
   exact decide_eq_false (by omega)
  have hsz:(kT (λx1 x2=>x1++x2) #[] (aZ x.toNat items)).size<=aH:=by
   rw[AutoListH.size_joined,gW];simpa using h4
  wp_walk using wpAny_loadPart' hl
  rw[if_neg (by rw[c5];exact cJ)]
  wp_walk using wpAny_loadPart' hl
  exact⟨_,rfl,h⟩
theorem Zl:fillsNumberSlot (.type "tuple") "mul"=pure false :=
 PySem.fillsNumberSlot_seq (id:="tuple.__mul__") (r:=some (.builtin "tuple.__rmul__")) lj.lookup (by decide+kernel) pd.lookup (by decide+kernel)
theorem Xj:seqRepeat? (.type "tuple")=pure (some (.builtin "tuple.__mul__")):=by
 unfold seqRepeat?
 rw[pe (T:="tuple") (name:="__mul__") (id:="tuple.__mul__") lj.lookup (by decide+kernel),pe (T:="tuple") (name:="__rmul__") (id:="tuple.__rmul__") pd.lookup (by decide+kernel)]
 rfl
theorem Yc(a:Int)(t:cU)(l:aA)(items:Array aB)(n:Nat)(dd:Option aA)(sl:Array (Option aB)):
  iT (fN.«int.__rmul__» ⟨[.int a t,.ref l],[]⟩) (λ_ R s=>s.heap.get? l=some {cls:=.type "tuple",dict:=dd,data:=.seq items n,slots:=sl}/\R (.ok (.ret Value.notImplemented)) s) :=
 .of_wp λprog w A R s h=>by obtain⟨hp,g,d,tk,os⟩:=s;obtain⟨hl,h⟩:=h;wp_walk using wpAny_loadPart' hl;exact⟨_,rfl,h⟩
section
variable {X:Cx}
def Ji(K:aE):R2:=λx y H Q=>∃l k xs,x=.ref l/\y=.int k/\SqT K H l xs/\xs≠[]/\2<=k/\k<2^63/\xs.length*k.toNat<=aH/\
 ∀p,H p=none->Q (.ref p) (upd H p (.tup (aZ k.toNat xs).flatten))
theorem zis:OpR X (dM .Mult) (Ji X.K):=by
 intro pins s σ H x y v u Q I rx ry h
 obtain⟨l,k,xs,rfl,rfl,hH,R,h1,h2,hz,q⟩:=h
 cases rx
 obtain⟨t,rfl⟩:=ry
 obtain⟨its,r,p1,_⟩:=I.tuple hH
 have j:=r.length
 obtain⟨⟨cls,dd,data,sl⟩,e,hc,n,hd⟩:=id p1
 simp only at hc hd
 subst hc hd
 have J:¬its.toArray.isEmpty=true:=λz=>R (by
  have:its=[]:=by simpa using z
  rw[this]at j;exact gJ.mp j)
 have Y:its.toArray.size*k.toNat<=aH:=by rw[cF,<-j];exact hz
 have O:kT (λx1 x2=>x1++x2) #[] (aZ k.toNat its.toArray)=(aZ k.toNat its).flatten.toArray:=by
  have:=Qk its k.toNat []
  rw[List.nil_append]at this
  exact this
 refine pf (T:="tuple") (U:="int") (by decide) ⟨_,e,rfl⟩ (λs'=>jM s' k t) Zl ph ll Xj pj.lookup
  (gD ll (jM s k t) pw (pz _ _) (Yc k t l its.toArray n dd sl)
   ⟨e,rfl,⟨_,e,rfl⟩,gD lj ⟨_,e,rfl⟩ pA (pB _ _) (zc0 l its.toArray n dd sl k t J h1 h2 Y) ⟨e,?_⟩⟩)
 rw[O]
 have Z:(aZ k.toNat xs).flatten.length<=aH:=by rw[zie,gW];exact hz
 have I2:Inv X pins σ (upd H s.heap.objs.size (.tup (aZ k.toNat xs).flatten)) {s with heap:=s.heap.push {cls:=.type "tuple",data:=.seq (aZ k.toNat its).flatten.toArray}} :=
  I.laid (t':=s.toks) (λb o e=>bB _ e) (aP _) (show yK X.prog X.w _ _ _ (.tup _)from⟨Z,_,r.rep k.toNat,mu _ _⟩)
 exact⟨.ref s.heap.objs.size,_,I2,rfl,q _ (I.hok.fresh (aP _))⟩
end
end L2
namespace DD
open PySem PySem.Spec L2
open PyProof.Rows hiding St
section
variable {K:aE} {F H:Hp} {X:Cx}
theorem zb4(r:Are K F ds vs):∀n:Nat,Are K F (aZ n ds).flatten (aZ n vs).flatten
 | 0=>.nil
 | n+1=>by
  rw[fL,gR,fL,gR]
  exact r.append (zb4 r n)
def Jj:B->B->Option D
 | .d (.tup ds),.d (.int k)=>if ds≠[]/\2<=k/\k<2^62/\ds.length*k.toNat<=aH then some (.tup (aZ k.toNat ds).flatten)else none
 | _,_=>none
theorem zit:OpB K (Ji K) Jj:=λF H x y v u d Q J O R e q=>by
 match x,y,e,O,R with
 | .d (.tup a),.d (.int k),e,O,R=>
  unfold Jj at e
  simp only at e
  by_cases U:a≠[]/\2<=k/\k<2^62/\a.length*k.toNat<=aH
  ·rw[if_pos U]at e;cases e
   obtain⟨h1,h2,h3,Z⟩:=U
   have j:Is K F (.tup a) v:=O
   have I:Is K F (.int k) u:=R
   simp only[Is]at j I
   obtain⟨p,vs,rfl,hp,r1⟩:=j
   subst I
   refine⟨p,k,vs,rfl,rfl,SqT.of (J _ _ hp),λz=>h1 ?_,h2,by omega,by rw[r1.length];exact Z,λl Y=>q _ (upd F l (.tup (aZ k.toNat vs).flatten)) _ (.fix J Y _) ?_⟩
   ·have:=r1.length;rw[z]at this;exact gJ.mp this.symm
   ·simp only[Is]
    exact⟨l,_,rfl,zk,(zb4 r1 _).mono (zK (J.free Y) _)⟩
  ·rw[if_neg U]at e;cases e
end
end DD
namespace DD
open PySem PySem.Spec L2
open PyProof.Rows hiding St
section
variable {X:Cx}
end
end DD
namespace L2
open PySem PySem.Spec PyProof.Rows
section
variable {X:Cx}
end
end L2
namespace DD
open PySem PySem.Spec L2
open PyProof.Rows hiding St
section
variable {X:Cx} {K:aE} {a e:aG} {f g:G->Option B}
def zhR:List D->Option (List aC)
 | []=>some []
 | .str x::r=>(zhR r).map (x::·)
 | _=>none
def zjS(j:aC)(xs:List aC):Bool:=decide (j.length<=16) && decide ((xs.map (·.length)).sum+xs.length<=1048576)
def uz:B->B->Option D
 | .d (.str sep),b=>b.seq.bind λds=>(zhR ds).bind λxs=>if zjS sep xs=true then some (.str (Txt.join sep xs))else none
 | _,_=>none
end
end DD
namespace L2
open PySem PySem.Spec PyProof.Rows
section
variable {X:Cx}
end
end L2
namespace DD
open PySem PySem.Spec L2
open PyProof.Rows hiding St
section
variable {X:Cx} {K:aE} {a e:aG} {f g:G->Option B}
end
end DD
namespace L2
open PySem PySem.Spec PyProof.Rows
theorem zbv(l:aA)(items:Array aB)(n:Nat)(dd:Option aA)(sl:Array (Option aB))(u:cU):
  iT (fN.«tuple.__mul__» ⟨[.ref l,.int 1 u],[]⟩) (λ_ R s=>s.heap.get? l=some {cls:=.type "tuple",dict:=dd,data:=.seq items n,slots:=sl}/\R (.ok (.ret (Value.ref l))) s) :=
 .of_wp λprog w A R s h=>by
  obtain⟨hp,g,d,tk,os⟩:=s;obtain⟨hl,h⟩:=h
  have f1:=o8
  have c1:(decide ((1:Int)< -(2^63)) || decide ((1:Int)>=2^63))=false:=by decide
  have c2:(items.isEmpty|| (1:Int)==1)=true:=by simp
  wp_walk using wpAny_loadPart' hl
  first
   | rw[if_neg (by rw[c1];exact cJ)]
   | skip
  wp_walk using wpAny_loadPart' hl
  first
   | rw[if_pos c2]
   | skip
  wp_walk using wpAny_loadPart' hl
  exact⟨_,rfl,h⟩
section
variable {X:Cx}
def Vu(K:aE):R2:=λx y H Q=>∃l xs,x=.ref l/\y=.int 1/\SqT K H l xs/\Q (.ref l) H
theorem zgb:OpR X (dM .Mult) (Vu X.K):=by
 intro pins s σ H x y v u Q I R Y h
 obtain⟨l,xs,rfl,rfl,Z,q⟩:=h
 cases R
 obtain⟨t,rfl⟩:=Y
 obtain⟨its,r,p1,_⟩:=I.tuple Z
 obtain⟨⟨cls,j,data,z⟩,e,J,n,O⟩:=id p1
 simp only at J O
 subst J O
 refine pf (T:="tuple") (U:="int") (by decide) ⟨_,e,rfl⟩ (λs'=>jM s' 1 t) Zl ph ll Xj pj.lookup
  (gD ll (jM s 1 t) pw (pz _ _) (Yc 1 t l its.toArray n j z)
   ⟨e,rfl,⟨_,e,rfl⟩,gD lj ⟨_,e,rfl⟩ pA (pB _ _) (zbv l its.toArray n j z t) ⟨e,?_⟩⟩)
 exact⟨.ref l,H,I,rfl,q⟩
end
end L2
namespace DD
open PySem PySem.Spec L2
open PyProof.Rows hiding St
section
variable {K:aE} {F H:Hp} {X:Cx}
def Yd:B->B->Option D
 | .d (.tup ds),.d (.int k)=>if k=1 then some (.tup ds)else none
 | _,_=>none
theorem zgc:OpB K (Vu K) Yd:=λF H x y v u d Q U I J e q=>by
 match x,y,e,I,J with
 | .d (.tup a),.d (.int k),e,I,J=>
  unfold Yd at e
  simp only at e
  by_cases O:k=1
  ·rw[if_pos O]at e;cases e
   have j:Is K F (.tup a) v:=I
   have R:=j
   have z:Is K F (.int k) u:=J
   simp only[Is]at j z
   obtain⟨p,vs,rfl,Y,r1⟩:=j
   subst z O
   exact⟨p,vs,rfl,rfl,SqT.of (U _ _ Y),q _ F H (.refl U) R⟩
  ·rw[if_neg O]at e;cases e
def v6:=mOr Yd Jj
theorem zb5:OpR X (dM .Mult) (λx y H Q=>Vu X.K x y H Q\/Ji X.K x y H Q):=zgb.or zis
theorem zb6:OpB K (λx y H Q=>Vu K x y H Q\/Ji K x y H Q) v6:=zgc.or zit
end
end DD
namespace DD
open PySem PySem.Spec L2
open PyProof.Rows hiding St
section
variable {X:Cx} {a b tg:aG} {fs:G->Option (List B)} {pos:aR}
end
end DD
namespace L2
open PySem PySem.Spec PyProof.Rows
def Itz(r1 r2:Hp->List V->Prop):It :=
 ⟨λi H=>∃xs ys x y,r1 H xs/\r2 H ys/\xs[i]?=some x/\ys[i]?=some y,λi H x H'=>∃T u v,H T=none/\H'=upd H T (.tup [u,v])/\x=.ref T/\(∀xs,r1 H xs->xs[i]?=some u)/\∀ys,r2 H ys->ys[i]?=some v,
  λi H=>∃xs ys,r1 H xs/\r2 H ys/\(xs.length<=i\/ys.length<=i)⟩
section
variable {X:Cx} {pins:List (aA×aL)} {σ:St} {H:Hp} {s:aD}
theorem Qu{cs:List aA}{u v:V}{x y:aB}{tk':Nat}{h':aK}(I:Inv X pins σ H s)(j:∀b∈cs,wH X pins H b)(Y:zQ u x)(Z:zQ v y) 
  (hT:h'.get? s.heap.objs.size=some {cls:=.type "tuple",data:=.seq #[x,y]}) (R:∀b o,b∉cs->s.heap.get? b=some o->h'.get? b=some o) :
  Inv X pins σ (upd H s.heap.objs.size (.tup [u,v])) {s with heap:=h',toks:=tk'}:=by
 have U:H s.heap.objs.size=none:=I.hok.fresh (aP _)
 have fT:wH X pins H s.heap.objs.size:=I.fpOk (aP _) U
 have ch:∀b∈s.heap.objs.size::cs,wH X pins H b:=λb J=>by
  rcases aU.mp J with q|J
  ·rw[q];exact fT
  ·exact j b J
 have ne:∀b,b∉s.heap.objs.size::cs->b∉cs:=λb J z=>J (bO _ z)
 have neT:∀b o,s.heap.get? b=some o->b≠s.heap.objs.size:=λb o q=>bT (bF q)
 refine I.step (g':=s.gens) (d':=s.drawn) (ch:=s.heap.objs.size::cs) (λb J=>let ⟨_,q1,_,q2,q3,q4⟩:=ch b J;⟨q2,q1,q3,q4⟩)
  (λb o _ _ O q _=>R b o (ne b O) q) (λb o _ _ O q _=>⟨o.slots,R b o (ne b O) q⟩) (λb o O q n=>by rw[ze (neT b o q)];exact n) (λb o O q=>⟨o,R b o (ne b O) q⟩)
  (λb xs q=>by rw[ze (zt q U)];exact q) (λb o u q=>by rw[ze (zt q U)];exact q) (λb ps q=>⟨#[],by rw[ze (zt q U),q];simp⟩) (λm hm=>?_) ?_ I.bare
 ·obtain⟨o,es,ep,ho,r⟩:=hm
  exact⟨o,es,ep,R _ o (λz=>(j _ z).2.1 rfl) ho,r⟩
 ·refine HOk.track I.hok U (λb u nb q=>R b u (λz=>nb (j b z).1) q) ?_
  exact⟨by show 2<=aH;decide,[x,y],.cons Y (.cons Z .nil),⟨_,hT,rfl,_,rfl⟩⟩
theorem Vv{cs:List aA}{tk':Nat}{h':aK}(I:Inv X pins σ H s)(J:∀b∈cs,wH X pins H b)(O:∀b o,b∉cs->s.heap.get? b=some o->h'.get? b=some o):
  Inv X pins σ H {s with heap:=h',toks:=tk'}:=by
 refine I.step (g':=s.gens) (d':=s.drawn) (ch:=cs) (λb R=>let ⟨_,U,_,Y,Z,q4⟩:=J b R;⟨Y,U,Z,q4⟩)
  (λb o _ _ j q _=>O b o j q) (λb o _ _ j q _=>⟨o.slots,O b o j q⟩) (λ_ _ _ _ n=>n) (λb o j q=>⟨o,O b o j q⟩)
  (λ_ _ q=>q) (λ_ _ _ q=>q) (λb ps q=>⟨#[],by rw[q];simp⟩) (λm hm=>?_) (λb u q=>?_) I.bare
 ·obtain⟨o,es,ep,ho,r⟩:=hm
  exact⟨o,es,ep,O _ o (λz=>(J _ z).2.1 rfl) ho,r⟩
 ·refine(I.hok b u q).stay (λc v j e=>O c v (λz=>?_) e) (λ_ q=>q) λ_ _ q=>q
  have:=(J c z).1
  rcases j with rfl|j
  ·rw[q]at this;cases this
  ·rw[j]at this;cases this
end
structure ZipDiff (z TI TO i1 i2:aA):Prop where
 TIz:TI≠z
 TOz:TO≠z
 i1z:i1≠z
 i2z:i2≠z
 TITO:TI≠TO
 TIi1:TI≠i1
 TIi2:TI≠i2
 TOi1:TO≠i1
 TOi2:TO≠i2
 i12:i1≠i2
theorem zgd(n:Nat):ZipDiff (n+4) (n+2) (n+3) n (n+1):=⟨λ(q:(n+2:Nat)=n+4)=>by omega,λ(q:(n+3:Nat)=n+4)=>by omega,λ(q:(n:Nat)=n+4)=>by omega,λ(q:(n+1:Nat)=n+4)=>by omega,λ(q:(n+2:Nat)=n+3)=>by omega,λ(q:(n+2:Nat)=n)=>by omega,λ(q:(n+2:Nat)=n+1)=>by omega,λ(q:(n+3:Nat)=n)=>by omega,λ(q:(n+3:Nat)=n+1)=>by omega,λ(q:(n:Nat)=n+1)=>by omega⟩
section
variable {X:Cx}
end
end L2
namespace DD
open PySem PySem.Spec L2
open PyProof.Rows hiding St
section
variable {X:Cx} {a b:aG} {fs:G->Option (List B)} {pos:aR}
def zmH(xs ys:List D):List D:=List.zipWith (λu v=>D.tup [u,v]) xs ys
end
end DD
namespace DN
open PySem PySem.Spec L2
open PyProof.Rows hiding St
theorem Vw:entryFor table "dict.update.loop"=some fN.«dict.update.loop»:=entryFor_of_tree (by kernel_rfl)
theorem uT:plainId "dict.update.loop"=true:=by decide+kernel
theorem ziu:lb (.type "list") "keys"=pure none:=by rw[typeLookup_type,builtinLookup_eq_fast];kernel_rfl
section
variable {prog:aS} {w:aO} {A:bG} {E:aB->aD->Prop} {s:aD}
theorem ziv{a:aA}{xs:Array aB}{k:Nat}{sl:Array (Option aB)}{name:aC}{u:cU}{Q:aB->aD->Prop} 
  (hx:s.heap.get? a=some {cls:=.type "list",dict:=none,data:=.seq xs k,slots:=sl}) (hmiss:lb (.type "list") name=pure none)
  (hname:(["__module__","__name__","__qualname__","__doc__","__annotations__"]:List aC).contains name=false) (hA:A.handled=none)
  (h:∀h' tk e,Heap.NewExcOf s.heap h' e "AttributeError"->E (.ref e) {s with heap:=h',toks:=tk}) (hsz:name.length+100<=aH:=by size_fits) :
  wpAny (aJ prog w) A (getAttrBy (.ref a) (.str name u) false) Q E s:=by
 obtain⟨hp,g,d,tk,os⟩:=s
 have hT:∀tk',(⟨hp,g,d,tk',os⟩:aD).TypeIs (.ref a) "list":=λ_=>⟨_,hx,rfl⟩
 have f1:=pC
 have f3:=mR.lookup
 have f4:=mR.bind (.ref a)
 have f5:=am_list_getattr_none
 unfold getAttrBy
 repeat (any_goals (first|assumption|exact hT _|((with_reducible show wpAny _ _ (call (Value.builtin "list.__getattribute__") _ _) _ _ _);refine gD mR (hT _) am_entry_list_getattribute (F.args_list_getattribute_2 _ _) (meets_getattribute_miss_list a xs k sl name _ hmiss hname hsz) ⟨hx,hA,λh' tk' e hx'=>?_⟩)|wp_step))
 obtain⟨t',u',he⟩:=hx'.there
 show wpAny _ _ (pD _ _ _ _ _ _ _) _ _ _
 unfold pD
 repeat (any_goals (first|assumption|wp_step))
 exact h _ _ _ hx'.of
theorem zeO{a:aA}{xs:Array aB}{k:Nat}{sl:Array (Option aB)}{name:aC}{Q:Option aB->aD->Prop} 
  (hx:s.heap.get? a=some {cls:=.type "list",dict:=none,data:=.seq xs k,slots:=sl}) (hmiss:lb (.type "list") name=pure none)
  (hname:(["__module__","__name__","__qualname__","__doc__","__annotations__"]:List aC).contains name=false) (hA:A.handled=none)
  (h:∀h' tk,(∀b o,s.heap.get? b=some o->h'.get? b=some o)->Q none {s with heap:=h',toks:=tk}) (hsz:name.length+100<=aH:=by size_fits) :
  wpAny (aJ prog w) A (getAttr? (.ref a) name) Q E s:=by
 unfold getAttr? getAttrBy?
 refine aI (wpAny_mkText ?_)
 refine aI (jR (ziv (s:={s with toks:=s.toks+1}) hx hmiss hname hA (λh' tk e hx'=>?_) hsz))
 obtain⟨ob,vs,he,hc,_⟩:=hx'.there
 refine aI (k4 (T:="AttributeError") ⟨ob,he,hc⟩ pC ?_)
 exact bJ (h _ _ hx'.keeps)
theorem loop{d I l:aA}{its:Array aB}(hA:A.handled=none)(hdI:d≠I)(hdl:d≠l)(hlI:l≠I)(kvs:List (Key×aB))(hn:its.size=kvs.length)(hsz:kvs.length<=100000){R:kK->aD->Prop}:
  ∀(n i:Nat) (s:aD) (acc:List (Key×aB)),kvs.length-i=n->i<=kvs.length->acc.length<=i->s.heap.IsListIter I l i->s.heap.IsList l its->s.heap.DictOf (yg prog w) d acc->
   (∀j (hj:j<kvs.length),∃b key,its[j]?=some (.ref b)/\b≠d/\b≠I/\fH s.heap b #[key,(kvs[j]'hj).2]/\(yg prog w).is (kvs[j]'hj).1 key=true)->
   (∀h' tk,h'.DictOf (yg prog w) d (merged acc (kvs.drop i))->(∀b o,b≠d->b≠I->s.heap.get? b=some o->h'.get? b=some o)->R (.ok (.ret .none)) {s with heap:=h',toks:=tk})->
   codeAny (aJ prog w) A (.builtin "dict.update.loop" ⟨[.ref d,.ref I,.int i 0,.none],[]⟩) R s:=by
 have hA1:A.in1.handled=none:=by simp[hA]
 intro n
 induction n with
 | zero=>
  intro i s acc hk hi hac hit hl hd hT hR
  have hin:i=kvs.length:=by omega
  subst hin
  refine pE Vw ?_
  rw[pF uT _]
  show wpAny _ A.in1 (fA (.ref I)>>=_) _ _ s
  refine aI (nG hA1 hit hl (by simp[hn]) λh' he=>?_)
  refine bJ ?_
  rw[mM]at hR
  exact hR h' s.toks ((by obtain⟨o,es,ep,ho,r⟩:=hd;exact⟨o,es,ep,he d o hdI ho,r⟩)) λb o h1 h2 e=>he b o h2 e
 | succ n ih=>
  intro i s acc hk hi hac hit hl hd hT hR
  have hlt:i<kvs.length:=by omega
  obtain⟨b,key,hb,hbd,hbI,ht,hkey⟩:=hT i hlt
  refine pE Vw ?_
  rw[pF uT _]
  show wpAny _ A.in1 (fA (.ref I)>>=_) _ _ s
  refine aI (nF hit hl hb λh1 hit1 hs1=>?_)
  have k1:∀b o,b≠I->s.heap.get? b=some o->h1.get? b=some o:=λb o hb e=>hs1.extBut b o hb e
  have ht1:fH h1 b #[key,(kvs[i]'hlt).2]:=(by obtain⟨o,ho,r⟩:=ht;exact⟨o,k1 b o hbI ho,r⟩)
  have hd1:h1.DictOf (yg prog w) d acc:=(by obtain⟨o,es,ep,ho,r⟩:=hd;exact⟨o,es,ep,k1 d o hdI ho,r⟩)
  refine aI (jC ?_)
  refine aI (wpAny_tryCatch ?_)
  obtain⟨o,ho,hc,m,hdat⟩:=ht1
  unfold q0
  refine aI (wpAny_typeOf (T:="tuple") ⟨o,ho,hc⟩ ?_)
  rw[if_pos (by decide)]
  refine aI (gG ho hdat (bJ ?_))
  show wpAny _ _ (eZ [key,(kvs[i]'hlt).2] (dictSet d key (kvs[i]'hlt).2)) _ _ _
  refine jC ?_
  refine wpAny_dictSet_pairs (s:={s with heap:=h1}) (knd:=yg prog w) hkey hd1 (λh2 hd2 hs2=>?_) (by rw[fB];omega)
  have k2:∀b o,b≠d->b≠I->s.heap.get? b=some o->h2.get? b=some o:=λb o h3 h4 e=>hs2.extBut b o h3 (k1 b o h4 e)
  refine bJ ⟨pG uT _,?_⟩
  show codeAny (aJ prog w) A (.builtin "dict.update.loop" ⟨[.ref d,.ref I,.int ((i:Int)+1) 0,.none],[]⟩) R _
  have ei:((i:Int)+1)=((i+1:Nat):Int):=by omega
  rw[ei]
  refine ih (i+1) _ (k7 acc (kvs[i]'hlt).1 (kvs[i]'hlt).2) (by omega) (by omega) (by have:=stored_length_le acc (kvs[i]'hlt).1 (kvs[i]'hlt).2;omega) ?_ ?_ hd2 ?_ ?_
  ·obtain⟨o,ho,r⟩:=hit1
   exact⟨o,hs2.extBut I o (aQ hdI) ho,r⟩
  ·obtain⟨o,ho,r⟩:=hl
   exact⟨o,k2 l o (aQ hdl) hlI ho,r⟩
  ·intro j hj
   obtain⟨b,key,q1,q2,q3,⟨o,ho,r⟩,q5⟩:=hT j hj
   exact⟨b,key,q1,q2,q3,⟨o,k2 b o q2 q3 ho,r⟩,q5⟩
  ·intro h' tk hd' hk'
   refine hR h' tk ?_ λb o h3 h4 e=>hk' b o h3 h4 (k2 b o h3 h4 e)
   rw[mL hlt]
   exact hd'
theorem zc1{l:aA}{its:Array aB}{n:Nat}{sl:Array (Option aB)}{kvs:List (Key×aB)}{Q:aB->aD->Prop}(hA:A.handled=none) 
  (hl:s.heap.get? l=some {cls:=.type "list",dict:=none,data:=.seq its n,slots:=sl}) (hn:its.size=kvs.length) (hsz:kvs.length<=100000)
  (hp:∀j (hj:j<kvs.length),∃b key,its[j]?=some (.ref b)/\fH s.heap b #[key,(kvs[j]'hj).2]/\(yg prog w).is (kvs[j]'hj).1 key=true)
  (h:∀h' tk,h'.DictOf (yg prog w) s.heap.objs.size (merged [] kvs)->(∀b o,s.heap.get? b=some o->h'.get? b=some o)->Q (.ref s.heap.objs.size) {s with heap:=h',toks:=tk}) :
  wpAny (aJ prog w) A (call (.type "dict") [.ref l]) Q E s:=by
 refine callType_codes (Q₁:=λobj s₁=>obj=.ref s.heap.objs.size/\s₁={s with heap:=s.heap.push {cls:=.type "dict",data:=.dict #[]}}) F.kt_called_dict (F.kt_typeCall_dict_1 _) F.entry_dict_init (kt_code_dict_new _ ⟨rfl,rfl⟩) ?_
 rintro obj s₁ ⟨rfl,rfl⟩
 have hnew:(s.heap.push {cls:=.type "dict",data:=.dict #[]}).DictOf (yg prog w) s.heap.objs.size []:=oY s.heap
 have hl':(s.heap.push {cls:=.type "dict",data:=.dict #[]}).get? l=some {cls:=.type "list",dict:=none,data:=.seq its n,slots:=sl}:=bB _ hl
 have hA2:A.in1.in1.handled=none:=by simp[hA]
 refine⟨hnew.typeIs,F.args_dict_init_2 _ _,?_⟩
 unfold fN.«dict.__init__»
 refine aI ?_
 unfold q9
 refine aI (wpAny_notOrdered_dict hnew.typeIs ?_)
 show wpAny _ _ (pure (s.heap.objs.size,[Value.ref l])) _ _ _
 refine bJ ?_
 show wpAny _ _ (pH "dict.__init__" s.heap.objs.size (.ref l) [] .none) _ _ _
 unfold pH
 refine aI (wpAny_typeOf (T:="list") ⟨_,hl',rfl⟩ ?_)
 rw[if_pos (by decide)]
 refine aI (zeO hl' ziu (by decide+kernel) hA2 λh1 tk1 k1=>?_)
 rw[if_pos (show(Option.none:Option aB).isNone=true from rfl)]
 refine aI (kY ?_)
 have hl1:h1.IsList l its:=⟨_,k1 _ _ hl',rfl,n,rfl⟩
 refine aI (kG hl1 ?_)
 have hdl:s.heap.objs.size<h1.objs.size:=bF (k1 s.heap.objs.size _ (cK _ rfl))
 have hll:l<s.heap.objs.size:=bF hl
 refine bJ ⟨pG uT _,?_⟩
 have k0:∀b o,s.heap.get? b=some o->(h1.push {cls:=.type "list_iterator",data:=.fields #[.ref l,.int 0 0]}).get? b=some o:=λb o e=>bB _ (k1 b o (bB _ e))
 refine loop (by simp[hA]) (d:=s.heap.objs.size) (I:=h1.objs.size) (l:=l) (its:=its) (bT hdl) (jD hll) (bT (dP hll hdl)) kvs hn hsz kvs.length 0 _ [] (by omega) (by omega) (by simp) ?_ ?_ ?_ ?_ ?_
 ·exact⟨_,cK _ rfl,rfl,rfl⟩
 ·exact⟨_,k0 _ _ hl,rfl,n,rfl⟩
 ·obtain⟨o,es,ep,ho,r⟩:=hnew
  exact⟨o,es,ep,bB _ (k1 _ _ ho),r⟩
 ·intro j hj
  obtain⟨b,key,q1,⟨o,ho,r⟩,q3⟩:=hp j hj
  have hb:b<s.heap.objs.size:=bF ho
  exact⟨b,key,q1,bT hb,bT (dP hb hdl),⟨o,k0 b o ho,r⟩,q3⟩
 ·intro h' tk hd' hk'
  refine⟨rfl,h h' tk hd' λb o e=>hk' b o ?_ ?_ (k0 b o e)⟩
  ·exact bT (bF e)
  ·exact bT (dP (bF e) hdl)
end
end DN
namespace L2
open PySem PySem.Spec PyProof.Rows
section
variable {X:Cx}
def WJ(H:Hp):List V->List (Key×V)->Prop:=Paired λv j=>∃b,v=.ref b/\H b=some (.tup [kV j.1,j.2])
def zjT:List V->Hp->VK->Prop:=λxs H Q=>∃a ps kvs,xs=[.ref a]/\H a=some (.lst ps)/\WJ H ps kvs/\kvs.length<=100000/\∀p,H p=none->Q (.ref p) (upd H p (.dK (vi [] kvs)))
theorem J3{P:aS}{w:aO}{H:Hp}{h:aK}(ok:HOk P w H h):∀{ps:List V} {kvs:List (Key×V)} {its:List aB},WJ H ps kvs->zO ps its->∃rs:List (Key×aB),KV kvs rs/\rs.length=its.length/\
  ∀j (hj:j<rs.length),∃b key,its[j]?=some (.ref b)/\fH h b #[key,(rs[j]'hj).2]/\(yg P w).is (rs[j]'hj).1 key=true
 | _,_,its,.nil,r=>by
  cases r
  exact⟨[],.nil,rfl,λj hj=>absurd hj (by simp)⟩
 | _,_,its,@Paired.cons _ _ _ v kv vs kvs ⟨b,e,hb⟩ t,r=>by
  cases r with
  | @cons _ u _ us r1 r2=>
   obtain⟨rs,h1,h2,h3⟩:=J3 ok t r2
   subst e
   cases r1
   obtain⟨_,ts,rt,hT⟩:=(show yK P w H h b (.tup _)from ok b _ hb)
   obtain⟨key,val,rfl,rk,rv⟩:∃key val,ts=[key,val]/\zQ (kV kv.1) key/\zQ kv.2 val:=by
    cases rt with
    | cons q1 q2=>
     cases q2 with
     | cons q3 q4=>cases q4;exact⟨_,_,rfl,q1,q3⟩
   refine⟨(kv.1,val)::rs,.cons ⟨rfl,rv⟩ h1,by simp[h2],λj hj=>?_⟩
   cases j with
   | zero=>exact⟨b,key,rfl,hT,Yz rk⟩
   | succ j=>exact h3 j (by simpa using hj)
theorem zc2(hc:X.calm=true):wo X (.type "dict") zjT:=by
 rintro pins s σ H xs us Q I r ⟨a,ps,kvs,e,ha,hp,hz,q⟩
 subst e
 obtain⟨u,rfl,ru⟩:=uR r
 cases ru
 obtain⟨_,its,n,rv,e⟩:=(show yK X.prog X.w H s.heap a (.lst ps)from I.hok a _ ha)
 obtain⟨rs,hkv,hl,hj⟩:=J3 I.hok hp rv
 have hlen:rs.length=kvs.length:=(Paired.length hkv).symm
 refine DN.zc1 (kvs:=rs) (I.ok.hd hc) e (by simp[hl]) (by omega) (λj h=>by simpa using hj j h) λh' tk hd hk=>?_
 have hz2:(vi [] kvs).length<=aH:=by
  have h1:=uJ kvs []
  rw[jF]at h1
  rw[fB];omega
 exact⟨.ref s.heap.objs.size,_,I.laid (a:=s.heap.objs.size) (o:=.dK (vi [] kvs)) (t':=tk) hk (aP _) (Vq hz2 (by
  have:=I.big
  simp;exact jD this) (hkv.merge .nil) hd),rfl,q _ (I.hok.fresh (aP _))⟩
end
end L2
namespace DD
open PySem PySem.Spec L2
open PyProof.Rows hiding St
section
variable {X:Cx} {e:aG} {fs:G->Option (List B)} {pos:aR}
def Zm:List D->Option (List (Key×D))
 | []=>some []
 | .tup [k,v]::r=>(Xg k).bind λk=>(Zm r).map λt=>(k,v)::t
 | _=>none
def uF(kvs j:List (Key×D)):List (Key×D):=j.foldl (λacc q=>vj acc q.1 q.2) kvs
def Vx(i:Nat)(fs:G->Option (List B)):G->Option Out:=λΓ=>(fs Γ).bind λbs=>match bs with
 | [.d (.lst ds)]=>(Zm ds).bind λkvs=>if kvs.length<=100000 then some (.nx (Γ.set i (.ok (uF [] kvs))))else none
 | _=>none
theorem Qv{K:aE}{F:Hp}:∀{ds:List D} {kvs:List (Key×D)} {vs:List V},Zm ds=some kvs->Are K F ds vs->∃ws,WJ F vs ws/\we K F kvs ws
 | [],kvs,vs,e,r=>by
  cases e
  rw[r.inv0]
  exact⟨[],.nil,.nil⟩
 | d::ds,kvs,vs,e,r=>by
  match d,e,r with
  | .tup [k,v],e,r=>
   obtain⟨q,z,e⟩:=bind_some e
   obtain⟨t,I,rfl⟩:=map_some e
   obtain⟨x,xs,rfl,h1,h2⟩:=r.inv
   obtain⟨ws,J,O⟩:=Qv I h2
   simp only[Is]at h1
   obtain⟨b,us,rfl,R,j⟩:=h1
   obtain⟨Y,r1,rfl,i1,j⟩:=j.inv
   obtain⟨U,r2,rfl,i2,j⟩:=j.inv
   have:=j.inv0;subst this
   have:=Ya z i1;subst this
   exact⟨(q,U)::ws,.cons ⟨b,rfl,R⟩ J,.cons ⟨rfl,i2⟩ O⟩
theorem zeP{K:aE}{F:Hp}:∀{j:List (Key×D)} {ws:List (Key×V)} {kvs:List (Key×D)} {vs:List (Key×V)},we K F j ws->we K F kvs vs->we K F (uF kvs j) (vi vs ws):=λ{j ws kvs vs} h=>by
 induction h generalizing kvs vs with
 | nil=>exact λr=>r
 | @cons p q ps I h t z=>
  intro r
  obtain⟨e,h⟩:=h
  exact z (kvs:=vj kvs p.1 p.2) (vs:=wf vs q.1 q.2) (by rw[<-e];exact Uu r h)
theorem WJ.mono(s:zw F H)(h:WJ F vs ws):WJ H vs ws:=Paired.mapP h λ_ _ j=>by obtain⟨b,e,q⟩:=j;exact⟨b,e,s _ _ q⟩
theorem ziw{i:Nat}{x:aC}{p p2 p3:aR}(hc:X.calm=true)(hN:X.N.Nodup)(hi:X.N[i]?=some x)(hx:Loc X.env.scope x)(hg:Gl X "dict")(hm:X.mg "dict"=none)(ha:EA X [e] fs) 
  (he:bD [e] X.env=[(false,aW e X.env)]:=by rfl) (hs:dD (.Call (.Name "dict" p2) [e] [] p3) (some (.Name x p)) pos.line X.env=pure false:=by rfl)
  (hf:X.fn x=true\/X.env.scope.names.lookup x=some .local:=by first|exact .inl rfl|exact .inr rfl|assumption) :
  SD X (.Assign [.Name x p] (.Call (.Name "dict" p2) [e] [] p3) pos) (Vx i fs) :=
 xa (xp hN hi hx (Zv (zc2 hc) hg hm boot_dict ha (by decide) (by decide) he (by rfl)) hs hf) λE σ H hh61'=>by
  obtain⟨F0,H0,F,Γ,z,En,e,q⟩:=hh61'
  obtain⟨bs,hb,e⟩:=bind_some e
  refine⟨F0,H0,F,Γ,bs,En,hb,λvs F1 H1 e1 r1=>?_⟩
  match bs,e,r1 with
  | [.d (.lst ds)],e,r1=>
   obtain⟨kvs,hk,e⟩:=bind_some e
   by_cases hz:kvs.length<=100000
   ·rw[if_pos hz]at e;cases e
    obtain⟨v,rfl,hv⟩:=v0 r1
    have hv':Is X.K F1 (.lst ds) v:=hv
    simp only[Is]at hv'
    obtain⟨a,us,rfl,hfa,ra⟩:=hv'
    obtain⟨ws,q1,q2⟩:=Qv hk ra
    refine⟨a,us,ws,rfl,e1.fh _ _ hfa,WJ.mono e1.fh q1,by rw[WG q2];exact hz,λpp hp=>?_⟩
    have E1:=En.grow e1
    have ex:Ext F1 H1 F1 (upd H1 pp (.dK (vi [] ws))):=.own e1.fh hp _
    refine q _ F1 _ ((E1.grow ex).putOwn ⟨pp,vi [] ws,rfl,zk,zeP q2 .nil,e1.fh.free hp,E1.ext.hh.free hp⟩ λj s hj hs ho z=>?_) (e1.trans ex).ff
    obtain⟨o',h1,h2⟩:=E1.val j s hs
    rw[z]at h1;cases h1
    cases s with
    | un=>cases ho
    | v d=>cases ho
    | ol ds=>obtain⟨a',vs,e',q1,_⟩:=h2;cases e';rw[hp]at q1;cases q1
    | ot kvs=>obtain⟨a',vs,e',q1,_⟩:=h2;cases e';rw[hp]at q1;cases q1
    | ok kvs=>obtain⟨a',vs,e',q1,_⟩:=h2;cases e';rw[hp]at q1;cases q1
   ·rw[if_neg hz]at e;cases e
end
end DD
namespace DD
open PySem PySem.Spec L2
open PyProof.Rows hiding St
section
variable {X:Cx} {a b c e:aG} {f g h:G->Option B} {pos:aR} {es:List aG} {fs:G->Option (List B)}
def Jk(i:Nat)(q z:G->Option B):G->Option Out:=λΓ=>(wJ Γ i).bind λds=>(z Γ).bind λI=>I.asD.bind λv=>(q Γ).bind λJ=>J.int.bind λk=>(ixN ds.length k).map λj=>.nx (Γ.set i (.ol (ds.set j v)))
theorem zjU{i:Nat}{x:aC}{ix value:aG}{fi fv:G->Option B}{px ppos:aR}(ho:PE X (.Name x px) (vN i))(hi:EE X ix fi)(hv:EE X value fv) 
  (ha:∀v,eS (.Subscript (.Name x px) ix ppos) X.env v=(do
   let ov <-eZ [v] (aW (.Name x px) X.env)
   let iv <-eZ [v,ov] (aW ix X.env)
   iL ppos
   eZ [v,ov,iv] (kD ov iv v)
   release [v,ov,iv] []):=by intro _;rfl)
  (hs:lT [.Subscript (.Name x px) ix ppos] value pos.line X.env=pure false:=by rfl) (hw:lU [.Subscript (.Name x px) ix ppos] value X.env=pure none:=by rfl)
  (h1:(eT [.Subscript (.Name x px) ix ppos] X.env).map (·.2)=[eS (.Subscript (.Name x px) ix ppos) X.env]:=by rfl) :
  SD X (.Assign [.Subscript (.Name x px) ix ppos] value pos) (Jk i fi fv):=xa (Y3 hv (W5 ho hi Yv ha) hs hw h1) λE σ H ⟨F0,H0,F,Γ,o,En,e,q⟩=>by
 obtain⟨ds,hd,e⟩:=bind_some e
 obtain⟨bv,hbv,e⟩:=bind_some e
 obtain⟨v,hv,e⟩:=bind_some e
 obtain⟨bi,hbi,e⟩:=bind_some e
 obtain⟨k,hk,e⟩:=bind_some e
 obtain⟨j,hj,rfl⟩:=map_some e
 have:=xU hv;subst this
 have hi:=Xe hd
 refine⟨F0,H0,F,Γ,_,En,hbv,λw F1 H1 e1 r1=>?_⟩
 obtain⟨o,h1,p,vs,rfl,h2,h3,h4,h5⟩:=En.val i _ hi
 refine⟨_,h1,F0,H0,F1,Γ,_,En.grow e1,hbi,λu F2 H2 e2 r2=>?_⟩
 have hf1:F1 p=none:=e1.freed h4 (by rw[h2];simp)
 have h21:=e1.hh _ _ h2
 have hf2:F2 p=none:=e2.freed hf1 (by rw[h21];simp)
 have hu:=vD hk r2
 subst hu
 refine⟨p,vs,k,j,rfl,rfl,e2.hh _ _ h21,by rw[h3.length];exact hj,?_⟩
 exact q σ F2 _ (((En.grow e1).grow e2).change (s1:=.ol ds) hi rfl h1 h5 hf2 ⟨p,vs.set j w,rfl,zk,((h3.mono e1.ff).mono e2.ff).set (Is.mono e2.ff _ r1) j,hf2,h5⟩) (e1.ff.trans e2.ff)
def zc3(i:Nat)(f:G->Option B):G->Option Out:=λΓ=>(za i Γ).bind λx=>x.int.bind λk=>(f Γ).bind λy=>y.int.map λj=>.nx (Γ.set i (.v (.int (k+j))))
theorem zll{i:Nat}{x:aC}{p:aR}(Z:X.N.Nodup)(hi:X.N[i]?=some x)(R:Loc X.env.scope x)(he:EE X e f)(hf:X.fn x=true\/X.env.scope.names.lookup x=some .local:=by first|exact .inl rfl|exact .inr rfl|assumption):
  SD X (.AugAssign (.Name x p) .Add e pos) (zc3 i f):=xa (zjo Z hi R he zjp hf) λE σ H ⟨F0,H0,F,Γ,o,U,e,q⟩=>by
 obtain⟨bx,J,e⟩:=bind_some e
 obtain⟨k,O,e⟩:=bind_some e
 obtain⟨y,hy,e⟩:=bind_some e
 obtain⟨j,hj,rfl⟩:=map_some e
 have R:∃v,σ[i]?=some (some v)/\v=.int k:=by
  unfold za at J
  cases z:Γ[i]? with
  | none=>rw[z]at J;cases J
  | some s=>
   rw[z]at J
   have I:s.look=some bx:=J
   obtain⟨o',h1,h2⟩:=U.val i s z
   cases s with
   | v d=>cases I;obtain⟨v,rfl,r⟩:=h2;exact⟨v,h1,vD (F:=F) (H:=H) O r⟩
   | un=>cases I
   | ol ds=>cases I;cases O
   | ot ds=>cases I;cases O
   | ok ds=>cases I;cases O
 obtain⟨v,hv,rfl⟩:=R
 refine⟨_,hv,F0,H0,F,Γ,_,U,hy,λu F1 H1 Y r1=>?_⟩
 have hu:=vD hj r1
 subst hu
 exact⟨k,j,rfl,rfl,q _ F1 H1 ((U.grow Y).put (by simp[Is])) Y.ff⟩
def zeQ(i:Nat)(k:Int)(v:Bool):G->Option Out:=λΓ=>some (.nx (Γ.set i (.ok [(Sum.inl k,.bl v)])))
theorem zix{i:Nat}{x:aC}{p dp kp vp:aR}{kk vv:Nat}{k:Int}{v:Bool}(hN:X.N.Nodup)(hi:X.N[i]?=some x)(hx:Loc X.env.scope x)(hs:dD (.Dict [some (.Constant (.int k) kk kp)] [.Constant (.bool v) vv vp] dp) (some (.Name x p)) pos.line X.env=pure false:=by rfl)(hf:X.fn x=true\/X.env.scope.names.lookup x=some .local:=by first|exact .inl rfl|exact .inr rfl|assumption):
  SD X (.Assign [.Name x p] (.Dict [some (.Constant (.int k) kk kp)] [.Constant (.bool v) vv vp] dp) pos) (zeQ i k v) :=
 xa (xp hN hi hx (ziq (trs:=[(tC (.int k),tC (.bl v))]) (JT wk uQ zb1) rfl rfl (by simp) (by show 1<=15;decide)) hs hf) λE σ H q=>by
  have:=Qt (X:=X) (o:=.dK [(Sum.inl k,.bl v)]) (s0:=.ok [(Sum.inl k,.bl v)]) (λF H a _ h1 h2 H0 h3=>⟨a,[(Sum.inl k,.bl v)],rfl,h1,.cons ⟨rfl,by simp[Is]⟩ .nil,h2,h3⟩) q
  intro p hp
  refine⟨zk,[(Sum.inl k,.bl v)],rfl,by simp,?_⟩
  rw[zh6]
  exact this p hp
theorem ziy(hu:X.A.units+1<bV):IxR X (λx y H Q=>∃a v,x=.ref a/\wh H a y (some v)/\Q v H):=by
 intro value slice pins s σ H x y v u Q I rx ry h hs
 obtain⟨a,z,rfl,g,q⟩:=h
 cases rx
 have hT:=Wr I g
 unfold my
 refine aI ?_
 rw[oS hT.not_modules]
 refine aI (oT hT oX.lookup ?_)
 have fin:wpAny (aJ X.prog X.w) X.A (jJ slice false (.ref a) u) (λr s₃=>wpAny (aJ X.prog X.w) X.A (oU value (.ref a) r>>=λ_=>pure r) (EP X pins σ Q) X.xe s₃) X.xe s:=by
  rw[hs]
  exact oV (eB (Qq hu I g ry λw' s3 I3 rw'=>(⟨z,H,I3,rw',q⟩:EP X pins σ Q w' s3)) (λr s₃ h₃=>aI (oW (bJ h₃))) λ_ _ x=>x)
 first
  | exact bJ (aI fin)
  | exact aI (bJ (aI fin))
  | exact aI fin
theorem zge{K:aE}:OpB K (λx y H Q=>∃a v,x=.ref a/\wh H a y (some v)/\Q v H) Zz:=λF H x y v u d Q J O R U q=>by
 obtain⟨k,Y,j⟩:=bind_some U
 obtain⟨o,Z,z⟩:=bind_some j
 have:=xU Y;subst this
 have I:o=some d:=z
 subst I
 obtain⟨a,r,rfl,g,w,rfl,hw⟩:=Uv J O R Z
 exact⟨a,w,rfl,g,q _ F H (.refl J) hw⟩
def YA:=mOr mIx Zz
theorem zlm(O:X.A.units+1<bV)(R:EE X a f)(U:EE X b g)(Y:Ul b):EE X (.Subscript a b pos) (x2 YA f g) :=
 yV (xA ((wr.or w5).or (ziy O)) R U Y) λσ H Q j=>by
  obtain⟨F0,H0,F,Γ,z,E,e,q⟩:=j
  obtain⟨x,y,d,Z,hy,hd,rfl⟩:=uh e
  exact⟨F0,H0,F,Γ,x,E,Z,λv F1 H1 J r1=>⟨F0,H0,F1,Γ,y,E.grow J,hy,λu F2 H2 I r2=>(zhN.or zge) F2 H2 x y v u d Q I.fh (r1.ext I) r2 hd λw F' H' e3 r3=>q w F' H' ((J.trans I).trans e3) r3⟩⟩
end
def ins(x:Int):List Int->List Int
 | []=>[x]
 | y::r=>if x<=y then x::y::r else y::ins x r
section
variable {K:aE} {F H:Hp}
end
section
variable {X:Cx} {a b c e:aG} {f g h:G->Option B} {pos:aR} {es:List aG} {fs:G->Option (List B)}
end
end DD
namespace L2
open PySem PySem.Spec PyProof.Rows
theorem zhS(h:(yg P w).is k u=true):zQ (kV k) u:=by
 rcases xx h with⟨i,t,rfl,rfl⟩|⟨x,t,rfl,rfl⟩
 ·exact⟨t,rfl⟩
 ·exact⟨t,rfl⟩
def Itd(o:aL)(d:aA)(kvs:List (Key×V)):It :=
 ⟨λi H=>H d=some (.frz o (.dK kvs))/\i<kvs.length,λi H x H'=>∃T k v,H T=none/\x=.ref T/\kvs[i]?=some (k,v)/\H'=upd H T (.tup [kV k,v]),λi H=>H d=some (.frz o (.dK kvs))/\kvs.length<=i⟩
theorem KV.get{kvs:List (Key×V)}{vs:List (Key×aB)}(r:KV kvs vs){i:Nat}{k:Key}{v:V}(h:kvs[i]?=some (k,v)):∃u,vs[i]?=some (k,u)/\zQ v u:=by
 induction r generalizing i with
 | nil=>simp at h
 | cons a t I=>
  cases i with
  | zero=>
   simp at h
   subst h
   obtain⟨a1,a2⟩:=a
   rename_i q _ _
   obtain⟨J,O⟩:=q
   have z:k=J:=a1
   subst z
   exact⟨O,rfl,a2⟩
  | succ j=>exact I (by simpa using h)
theorem zc4{P:aS}{w:aO}{K:aE}{elts:List aG}{k:Nat}{tp:aR}{d it:aA}{o:aL}{kvs:List (Key×V)}{vs:List (Key×aB)}{ep:Nat}(hdi:d≠it)(rel:KV kvs vs) 
  (hD:∀h:aK,h.get? d=some o->h.DictAt (yg P w) d vs ep) :
  Turn P w K (.Tuple elts k tp) (Itd o d kvs) [it] it (λi h=>∃ok ov,IsItemIter h it d i vs.length ep ok ov) where
 mem:=by simp
 obj:=λi h st b hb=>by
  have e:b=it:=by simpa using hb
  subst e
  obtain⟨ok,ov,e⟩:=st
  exact⟨_,e,λv z=>by
   have z':Data.fields _=Data.cell v:=z
   cases z'⟩
 keep:=λi h h' st k=>let ⟨ok,ov,e⟩:=st;⟨ok,ov,k it (by simp) _ e⟩
 item:=by
  intro X hP hw hK hc i pins s σ H E I hf st hg
  subst hP hw hK
  obtain⟨hd,hi⟩:=hg
  obtain⟨ok,ov,hit⟩:=st
  have hdo:s.heap.get? d=some o:=(I.hok d _ hd).1
  have hm:=hD _ hdo
  have hx:kvs[i]?=some (kvs[i].1,kvs[i].2):=by simp[hi]
  obtain⟨u,hu,ru⟩:=rel.get hx
  have fi:=hf it (by simp)
  refine wpAny_pyNext_items_item hit hm hu λkey h' hkey ho hT hsz hk=>?_
  refine⟨_,rfl,wpAny_letOwnedTupleGo_items ho λh2 he2 hs2=>?_⟩
  have lt:it≠s.heap.objs.size:=bT (bF hit)
  have hk2:∀b o,b∉ [it]->s.heap.get? b=some o->h2.get? b=some o:=λb o nb q=>by
   have nb':b≠it:=λz=>nb (by simp[z])
   exact(hs2.2 b nb').trans (hk b o nb' q)
  have I2:=Qu (tk':=s.toks) (cs:=[it]) (h':=h2) I (λb hb=>hf b hb) (zhS hkey) ru ((hs2.2 _ (aQ lt)).trans hT) hk2
  refine⟨.ref s.heap.objs.size,_,I2,rfl,⟨_,kvs[i].1,kvs[i].2,I.hok.fresh (aP _),rfl,hx,rfl⟩,⟨_,_,he2⟩,λb hb=>?_⟩
  have e:b=it:=by simpa using hb
  subst e
  rw[ze lt]
  exact fi.1
 done:=by
  intro X hP hw hK hc i pins s σ H E I hf st hg
  subst hP hw hK
  obtain⟨hd,hi⟩:=hg
  obtain⟨ok,ov,hit⟩:=st
  have hdo:s.heap.get? d=some o:=(I.hok d _ hd).1
  have hm:=hD _ hdo
  have hl:=rel.length
  refine wpAny_pyNext_items_end (I.ok.hd hc) hit hm (by simp;omega) λh' hk=>⟨rfl,Vv (cs:=[it]) I (λb hb=>hf b hb) λb o nb q=>?_⟩
  exact hk b o (λz=>nb (by simp[z])) q
 self:=λ_ _ _ _ _ hh63' h=>by obtain⟨ok,ov,e⟩:=hh63';exact PySem.W.kcp_self e h
section
variable {X:Cx}
def zjV(td:TE):TI:=λσ H R=>td σ H λx H1=>∃d kvs,x=.ref d/\H1 d=some (.dK kvs)/\∀o,R (Itd o d kvs) (upd H1 d (.frz o (.dK kvs)))
theorem zgf{o:aG}{td:TE}{apos cpos tp:aR}{elts:List aG}{k:Nat}(ho:PE X o td) 
  (hbase:iN o "items" X.env (aW o X.env)=aW o X.env:=by rfl) (hline:(apos.endLine==cpos.line)=true:=by rfl) :
  PI X (.Tuple elts k tp) (.Call (.Attribute o "items" apos) [] [] cpos) (zjV td):=by
 intro pins s σ H R I h
 refine oh hbase hline (thn (ho pins s σ H _ I h) λv s1 ⟨x,H1,I1,r1,q1⟩=>?_)
 obtain⟨d,kvs,e,hd,q⟩:=q1
 subst e
 cases (show v=Value.ref d from r1)
 obtain⟨z,hsys,vs,rel,dd⟩:=Vo I1.hok hd
 obtain⟨ep,da⟩:=dd.dictAt
 obtain⟨ob,es,hob,hrest⟩:=id da
 refine⟨"dict","dict.items",oZ,pI,F.type_dict_items,dd.typeIs,dd.mapOf.noDict,kS rfl (oi ?_)⟩
 refine call_meetsIn pI dd.typeIs PySem.F.entry_dict_items (PySem.F.args_dict_items_1 _) (meets_dict_items (yg X.prog X.w) d hsys) ⟨⟨vs,dd⟩,?_⟩
 refine wpAny_pyIter_items (knd:=yg X.prog X.w) (d:=d) (kvs:=vs) (ep:=ep) ⟨_,cK _ rfl,rfl,rfl⟩ (da.push _) ?_
 have I2:=I1.write (x:=d) (e:=d) (o:=.frz ob (.dK kvs)) (h':=s1.heap) (t':=s1.toks) (by rw[hd];exact True.intro) (.inl rfl) (λ_ _ _ q=>q) ⟨ob,hob⟩ ⟨hob,z,hsys,vs,rel,dd⟩
 have I3:=I2.kept (h':=(s1.heap.push {cls:=.type "dict_items",data:=.fields #[.ref d]}).push {cls:=.type "dict_itemiterator",data:=.fields #[.none,.bool false,.ref d,.int 0 0,.int vs.length 0,.int ep 0,.none,.none]}) (t':=s1.toks)
  λb u q=>bB _ (bB _ q)
 have hsz:(s1.heap.push {cls:=.type "dict_items",data:=.fields #[.ref d]}).objs.size=s1.heap.objs.size+1:=fJ ..
 have hdl:d<s1.heap.objs.size:=bF hob
 have hdi:d≠(s1.heap.push {cls:=.type "dict_items",data:=.fields #[.ref d]}).objs.size:=by rw[hsz];exact bT (gE hdl)
 refine⟨_,[_],_,_,_,rfl,I3,zc4 (vs:=vs) (ep:=ep) hdi rel (λh q=>⟨ob,es,q,hrest⟩),⟨.none,.none,cK _ rfl⟩,λb hb=>?_,q ob⟩
 have e:b=(s1.heap.push {cls:=.type "dict_items",data:=.fields #[.ref d]}).objs.size:=by simpa using hb
 have hb':s1.heap.objs.size<=b:=by rw[e,hsz];exact kR _
 exact I2.fpOk (H':=upd H1 d (.frz ob (.dK kvs))) hb' (by rw[e,ze (aQ hdi),<-e];exact I1.hok.fresh hb')
end
section
variable {X:Cx}
theorem Qw:∀{kvs:List (Key×V)} {vs:List (Key×aB)} (us:List aB),KV kvs vs->us.length=vs.length->(∀(j:Nat) (v:aB),us[j]?=some v->∃k x,vs[j]?=some (k,x)/\(yg P w).is k v=true)->zO (kvs.map λz=>kV z.1) us
 | _,_,us,.nil,q,_=>by
  cases us with
  | nil=>exact .nil
  | cons a b=>simp at q
 | _,_,us,.cons a t,q,h=>by
  cases us with
  | nil=>simp at q
  | cons u r=>
   obtain⟨k,x,e,I⟩:=h 0 u rfl
   simp at e
   subst e
   have a1:=a.1
   refine .cons ?_ (Qw r t (by simpa using q) λj v J=>by simpa using h (j+1) v (by simpa using J))
   show zQ (kV _) u
   rw[a1]
   exact zhS I
theorem zc5(Y:X.calm=true):wo X (.type "list") (λxs H Q=>∃a kvs,xs=[V.ref a]/\H a=some (.dK kvs)/\∀l,H l=none->Q (.ref l) (upd H l (.lst (kvs.map λO=>kV O.1)))):=by
 intro pins s σ H xs us Q I r h
 obtain⟨a,kvs,rfl,Z,q⟩:=h
 obtain⟨u,rfl,ru⟩:=uR r
 cases ru
 obtain⟨z,R,vs,U,dd⟩:=Vo I.hok Z
 obtain⟨ep,da⟩:=dd.dictAt
 have hl:=U.length
 refine PySem.W.kdl_call (PySem.W.kdl_dict (knd:=yg X.prog X.w) (kvs:=vs) (ep:=ep) R) (I.ok.hd Y) da (by rw[<-hl];exact z) λh' tk acc c hk hS J=>?_
 have hv:zO (kvs.map λO=>kV O.1) acc.toList:=Qw acc.toList U (by rw[lR];exact J.1) λj v e=>J.2 j v (by rw[<-oo];exact e)
 have I2:=I.laid (a:=s.heap.objs.size) (o:=.lst (kvs.map λO=>kV O.1)) (h':=h') (t':=tk) hk (aP _) ⟨by rw[aN];exact z,acc.toList,c,hv,hS⟩
 exact⟨.ref s.heap.objs.size,_,I2,rfl,q _ (I.hok.fresh (aP _))⟩
end
end L2
namespace Hop
structure HS where
 partOf:List Nat
 parts:List (List Nat)
 waiting:List Nat
 waits:List Bool
def xm:List (Nat×List Nat)->Nat->Nat->List (Nat×List Nat)
 | [],p,s=>[(p,[s])]
 | (q,l)::r,p,s=>if q=p then(q,l++[s])::r else(q,l)::xm r p s
def v7(q:List Nat)(back:List (List Nat))(partOf:List Nat):List (Nat×List Nat) :=
 q.foldl (λj g=>(back.getD g []).foldl (λj s=>xm j (partOf.getD s 0) s) j) []
def x8(j:List Nat)(l:List Nat)(v:Nat):List Nat:=l.foldl (λj s=>j.set s v) j
def yG(st:HS)(part:Nat)(stands:List Nat):HS :=
 if stands.length=(st.parts.getD part []).length then st
 else
  let rest:=(st.parts.getD part []).filter λs=>!stands.contains s
  let fresh:=st.parts.length
  let w:=if(st.waits++[false]).getD part false=true\/stands.length<=rest.length then fresh else part
  ⟨x8 st.partOf stands fresh,st.parts.set part rest++[stands],st.waiting++[w],(st.waits++[false]).set w true⟩
def w6(st:HS)(j:List (Nat×List Nat)):HS:=j.foldl (λst f=>yG st f.1 f.2) st
def wq(j:List Nat)(st:HS)(back:List (List Nat)):HS:=w6 st (v7 j back st.partOf)
def take(st:HS)(p:Nat):HS:=⟨st.partOf,st.parts,st.waiting.dropLast,st.waits.set p false⟩
def turn(j:List (List (List Nat)))(st:HS):HS:=match st.waiting.getLast? with
 | none=>st
 | some p=>j.foldl (wq (st.parts.getD p [])) (take st p)
def start(good:List Bool):HS:=⟨good.map λb=>if b then 1 else 0,[(aF good.length).filter λs=>!good.getD s false,(aF good.length).filter λs=>good.getD s false],[0,1],[true,true]⟩
structure Ok (n:Nat) (st:HS):Prop where
 len:st.partOf.length=n
 lt:∀s,s<n->st.partOf.getD s 0<st.parts.length
 nd:∀p,(st.parts.getD p []).Nodup
 mem:∀p s,s∈st.parts.getD p []↔s<n/\st.partOf.getD s 0=p/\p<st.parts.length
 wl:st.waits.length=st.parts.length
 ww:∀p,p<st.parts.length->(st.waits.getD p false=true↔p∈st.waiting)
 wlt:∀p∈st.waiting,p<st.parts.length
 wnd:st.waiting.Nodup
theorem wY{α:Type}{l:List α}{i j:Nat}{v d:α}:(l.set i v).getD j d=if i=j/\i<l.length then v else l.getD j d:=by
 simp only[aX,mS]
 by_cases h:i=j
 ·subst h
  by_cases h2:i<l.length <;>simp[h2]
 ·simp[h]
theorem YB:∀(l:List Nat) (j:List Nat) (v:Nat),(x8 j l v).length=j.length
 | [],_,_=>rfl
 | s::r,j,v=>by
  show(x8 (j.set s v) r v).length=_
  rw[YB r,cQ]
theorem Vy:∀(l:List Nat) (j:List Nat) (v s:Nat),(∀x∈l,x<j.length)->(x8 j l v).getD s 0=if s∈l then v else j.getD s 0
 | [],j,v,s,_=>by simp[x8]
 | x::r,j,v,s,h=>by
  show(x8 (j.set x v) r v).getD s 0=_
  rw[Vy r _ _ _ (λy q=>by rw[cQ];exact h y (bO _ q)),wY]
  have I:=h x bN
  by_cases h1:s∈r
  ·simp[h1]
  ·by_cases h2:x=s
   ·subst h2;simp[h1,I]
   ·have:¬s=x:=λz=>h2 z.symm
    simp[h1,h2,this]
structure Cut (n:Nat) (st:HS) (part:Nat) (stands:List Nat):Prop where
 lt:part<st.parts.length
 nd:stands.Nodup
 sub:∀s∈stands,s∈st.parts.getD part []
theorem yH:∀{l m:List Nat},l.Nodup->(∀x∈l,x∈m)->l.length<=m.length
 | [],_,_,_=>dJ _
 | x::r,m,j,h=>by
  rw[dO]at j
  have z:=h x bN
  have J:=yH (l:=r) (m:=m.erase x) j.2 λy I=>by
   have q:y≠x:=λe=>j.1 (e▸I)
   exact(pJ q).mpr (h y (bO _ I))
  rw[pK z]at J
  have:0<m.length:=pL z
  simp only[cD]
  omega
theorem zeR{l m:List Nat}(z:l.Nodup)(h:∀x∈l,x∈m)(e:l.length=m.length):∀x∈m,x∈l:=λx I=>by
 by_cases j:x∈l
 ·exact j
 ·have:=yH (l:=x::l) (m:=m) (dO.mpr ⟨j,z⟩) λy q=>by
   rcases aU.mp q with rfl|q
   ·exact I
   ·exact h y q
  simp only[cD]at this
  omega
theorem xr{α:Type}{l:List α}{x d:α}{i:Nat}:(l++[x]).getD i d=if i<l.length then l.getD i d else if i=l.length then x else d:=by
 simp only[aX]
 by_cases h:i<l.length
 ·rw[dF h];simp[h]
 ·rw[fF (by omega)]
  by_cases h2:i=l.length
  ·simp[h2]
  ·have:i-l.length≠0:=by omega
   have j:([x]:List α)[i-l.length]?=none:=mT (by simp;omega)
   simp[h,h2,j]
theorem Uw{α:Type}{l:List α}{d:α}{i:Nat}(h:l.length<=i):l.getD i d=d:=by
 rw[aX,mT h];rfl
section
variable {n:Nat} {st:HS} {part:Nat} {stands:List Nat}
theorem Vz(h:stands.length=(st.parts.getD part []).length):yG st part stands=st:=if_pos h
structure Off (n:Nat) (st:HS) (part:Nat) (stands:List Nat) (st':HS):Prop where
 ok:Ok n st'
 pl:st'.parts.length=st.parts.length+1
 po:∀s,st'.partOf.getD s 0=if s∈stands then st.parts.length else st.partOf.getD s 0
 wt:∀p,p∈st.waiting->p∈st'.waiting
 one:st.parts.length∈st'.waiting\/part∈st'.waiting
 both:part∈st.waiting->st.parts.length∈st'.waiting
 wlen:st'.waiting.length=st.waiting.length+1
 only:∀p∈st'.waiting,p∈st.waiting\/p=st.parts.length\/p=part
theorem J4(ok:Ok n st)(c:Cut n st part stands)(h:stands.length≠(st.parts.getD part []).length):Off n st part stands (yG st part stands):=by
 have Z:∀s∈stands,s<n:=λs O=>((ok.mem part s).mp (c.sub s O)).1
 have ab:∀s∈stands,st.partOf.getD s 0=part:=λs O=>((ok.mem part s).mp (c.sub s O)).2.1
 generalize q:((st.parts.getD part []).filter λs=>!stands.contains s)=rest
 generalize R:(if(st.waits++[false]).getD part false=true\/stands.length<=rest.length then st.parts.length else part)=w
 have ac:yG st part stands=⟨x8 st.partOf stands st.parts.length,st.parts.set part rest++[stands],st.waiting++[w],(st.waits++[false]).set w true⟩:=by
  unfold yG
  rw[if_neg h]
  simp only[q,R]
 rw[ac]
 have U:w=st.parts.length\/w=part:=by
  rw[<-R];split
  ·exact .inl rfl
  ·exact .inr rfl
 have aa:w<st.parts.length+1:=by
  rcases U with e|e
  ·omega
  ·have:=c.lt;omega
 have get:∀s,(x8 st.partOf stands st.parts.length).getD s 0=if s∈stands then st.parts.length else st.partOf.getD s 0:=λs=>Vy stands st.partOf _ s λx hx=>by rw[ok.len];exact Z x hx
 have ad:∀s,s∈rest↔s∈st.parts.getD part []/\s∉stands:=λs=>by
  rw[<-q,fU]
  simp
 have gp:∀p,(st.parts.set part rest++[stands]).getD p []=if p=st.parts.length then stands else if p=part then rest else st.parts.getD p []:=λp=>by
  rw[xr,cQ,wY]
  by_cases h1:p<st.parts.length
  ·have h2:¬p=st.parts.length:=by omega
   by_cases Y:part=p
   ·subst Y;simp[h1,h2]
   ·have j:¬p=part:=λz=>Y z.symm
    simp[h1,h2,Y,j]
  ·by_cases h2:p=st.parts.length
   ·simp[h2]
   ·have j:¬p=part:=by have:=c.lt;omega
    simp only[h1,h2,j,if_false]
    exact(Uw (by omega)).symm
 refine⟨⟨?_,?_,?_,?_,?_,?_,?_,?_⟩,?_,get,?_,?_,?_,?_,?_⟩
 ·show(x8 _ _ _).length=n
  rw[YB];exact ok.len
 ·intro s O
  show(x8 _ _ _).getD s 0<(st.parts.set part rest++[stands]).length
  rw[get,bM,cQ,cN]
  have:=ok.lt s O
  split <;>omega
 ·intro p
  show((st.parts.set part rest++[stands]).getD p []).Nodup
  rw[gp]
  split
  ·exact c.nd
  ·split
   ·rw[<-q];exact(ok.nd part).filter _
   ·exact ok.nd p
 ·intro p s
  show s∈(st.parts.set part rest++[stands]).getD p []↔s<n/\(x8 _ _ _).getD s 0=p/\p<(st.parts.set part rest++[stands]).length
  rw[gp,get,bM,cQ,cN]
  by_cases h1:p=st.parts.length
  ·rw[if_pos h1]
   constructor
   ·intro O
    exact⟨Z s O,by rw[if_pos O,h1],by omega⟩
   ·rintro⟨h2,Y,_⟩
    by_cases j:s∈stands
    ·exact j
    ·rw[if_neg j]at Y
     have:=ok.lt s h2
     omega
  ·rw[if_neg h1]
   by_cases h2:p=part
   ·rw[if_pos h2,ad,ok.mem]
    subst h2
    constructor
    ·rintro⟨⟨a,b,_⟩,d⟩
     exact⟨a,by rw[if_neg d];exact b,by have:=c.lt;omega⟩
    ·rintro⟨a,b,_⟩
     by_cases j:s∈stands
     ·rw[if_pos j]at b;omega
     ·rw[if_neg j]at b
      exact⟨⟨a,b,c.lt⟩,j⟩
   ·rw[if_neg h2,ok.mem]
    constructor
    ·rintro⟨a,b,d⟩
     refine⟨a,?_,by omega⟩
     by_cases j:s∈stands
     ·exact absurd ((ab s j).symm.trans b) (λz=>h2 z.symm)
     ·rw[if_neg j];exact b
    ·rintro⟨a,b,d⟩
     by_cases j:s∈stands
     ·rw[if_pos j]at b;omega
     ·rw[if_neg j]at b
      exact⟨a,b,by omega⟩
 ·show((st.waits++[false]).set w true).length=_
  rw[cQ,bM,cN,ok.wl,bM,cQ,cN]
 ·intro p J
  have I:p<st.parts.length+1:=by
   have:p<(st.parts.set part rest++[stands]).length:=J
   rw[bM,cQ,cN]at this
   exact this
  show((st.waits++[false]).set w true).getD p false=true↔p∈st.waiting++[w]
  rw[wY,bM,cN,ok.wl,bX,bW]
  by_cases h1:w=p
  ·subst h1
   rw[if_pos ⟨rfl,I⟩]
   simp
  ·rw[if_neg λz=>h1 z.1,xr,ok.wl]
   by_cases h2:p<st.parts.length
   ·rw[if_pos h2,ok.ww p h2]
    exact⟨.inl,λz=>z.elim id λz=>absurd z.symm h1⟩
   ·have Y:p=st.parts.length:=by omega
    rw[if_neg h2,if_pos Y]
    constructor
    ·intro z;cases z
    ·rintro(z|z)
     ·have:=ok.wlt p z;omega
     ·exact absurd z.symm h1
 ·intro p J
  show p<(st.parts.set part rest++[stands]).length
  rw[bM,cQ,cN]
  have I:p∈st.waiting++[w]:=J
  rcases bX.mp I with z|z
  ·have:=ok.wlt p z;omega
  ·rw[bW.mp z];exact aa
 ·show(st.waiting++[w]).Nodup
  rw[dZ]
  refine⟨ok.wnd,by simp,λa ha b hb e=>?_⟩
  rw[bW]at hb
  subst hb;subst e
  by_cases h1:(st.waits++[false]).getD part false=true\/stands.length<=rest.length
  ·rw[if_pos h1]at R
   have:=ok.wlt _ ha
   omega
  ·rw[if_neg h1]at R
   subst R
   have:=(ok.ww part c.lt).mpr ha
   exact h1 (.inl (by rw[xr,ok.wl,if_pos c.lt];exact this))
 ·show(st.parts.set part rest++[stands]).length=_
  rw[bM,cQ,cN]
 ·intro p J
  exact eJ _ J
 ·show st.parts.length∈st.waiting++[w]\/part∈st.waiting++[w]
  rcases U with e|e
  ·exact .inl (by rw[e];simp)
  ·exact .inr (by rw[e];simp)
 ·intro J
  show st.parts.length∈st.waiting++[w]
  have:(st.waits++[false]).getD part false=true:=by
   rw[xr,ok.wl,if_pos c.lt]
   exact(ok.ww part c.lt).mpr J
  rw[if_pos (.inl this)]at R
  rw[<-R];simp
 ·show(st.waiting++[w]).length=_
  simp
 ·intro p J
  have I:p∈st.waiting++[w]:=J
  rcases bX.mp I with z|z
  ·exact .inl z
  ·rw[bW.mp z]
   exact .inr U
end
structure Fnd (f:Nat->Nat) (xs:List Nat) (found:List (Nat×List Nat)):Prop where
 nd:(found.map cC).Nodup
 ls:∀p l,(p,l)∈found->l.Nodup/\l≠[]/\∀s,s∈l↔s∈xs/\f s=p
 all:∀s∈xs,∃l,(f s,l)∈found
theorem VA:∀(j:List (Nat×List Nat)) (p s:Nat),(xm j p s).map cC=if p∈j.map cC then j.map cC else j.map cC++[p]
 | [],p,s=>by simp[xm]
 | (q,l)::r,p,s=>by
  unfold xm
  by_cases h:q=p
  ·subst h;simp
  ·rw[if_neg h,bI,VA r p s]
   have h':¬p=q:=λz=>h z.symm
   by_cases h2:p∈r.map cC
   ·simp only[bI,aU,h',h2,if_true,or_true]
   ·simp only[bI,aU,h',h2,if_false,or_false,lp]
theorem vU:∀(j:List (Nat×List Nat)) (p s q:Nat) (l:List Nat),(j.map cC).Nodup->((q,l)∈xm j p s↔(q≠p/\(q,l)∈j)\/(q=p/\((∃I,(p,I)∈j/\l=I++[s])\/(p∉j.map cC/\l=[s]))))
 | [],p,s,q,l,_=>by
  simp only[xm,bW,pM]
  constructor
  ·rintro⟨rfl,rfl⟩;exact .inr ⟨rfl,.inr ⟨by simp,rfl⟩⟩
  ·rintro(⟨_,h⟩|⟨rfl,h|⟨_,rfl⟩⟩)
   ·cases h
   ·obtain⟨_,h,_⟩:=h;cases h
   ·exact⟨rfl,rfl⟩
 | (a,b)::r,p,s,q,l,O=>by
  rw[bI,dO]at O
  unfold xm
  by_cases h:a=p
  ·subst h
   rw[if_pos rfl,aU,aU]
   constructor
   ·rintro(e|e)
    ·cases e;exact .inr ⟨rfl,.inl ⟨b,bN,rfl⟩⟩
    ·have:q≠a:=λz=>O.1 (bA.mpr ⟨(q,l),e,z⟩)
     exact .inl ⟨this,.inr e⟩
   ·rintro(⟨h1,e|e⟩|⟨rfl,⟨I,e,rfl⟩|⟨J,_⟩⟩)
    ·cases e;exact absurd rfl h1
    ·exact .inr e
    ·rcases aU.mp e with e|e
     ·cases e;exact .inl rfl
     ·exact absurd (bA.mpr ⟨_,e,rfl⟩) O.1
    ·exact absurd (by simp) J
  ·rw[if_neg h,aU,vU r p s q l O.2,aU]
   have h':¬p=a:=λz=>h z.symm
   constructor
   ·rintro(e|⟨h1,e⟩|⟨rfl,⟨I,e,rfl⟩|⟨J,rfl⟩⟩)
    ·cases e;exact .inl ⟨h,.inl rfl⟩
    ·exact .inl ⟨h1,.inr e⟩
    ·exact .inr ⟨rfl,.inl ⟨I,bO _ e,rfl⟩⟩
    ·exact .inr ⟨rfl,.inr ⟨by rw[bI,aU];exact λz=>z.elim h' J,rfl⟩⟩
   ·rintro(⟨h1,e|e⟩|⟨rfl,⟨I,e,rfl⟩|⟨J,rfl⟩⟩)
    ·exact .inl e
    ·exact .inr (.inl ⟨h1,e⟩)
    ·rcases aU.mp e with e|e
     ·cases e;exact absurd rfl h
     ·exact .inr (.inr ⟨rfl,.inl ⟨I,e,rfl⟩⟩)
    ·rw[bI,aU]at J
     exact .inr (.inr ⟨rfl,.inr ⟨λz=>J (.inr z),rfl⟩⟩)
theorem zgg(h:Fnd f xs j)(U:s∉xs):Fnd f (xs++[s]) (xm j (f s) s):=by
 refine⟨?_,λp l Y=>?_,λt J=>?_⟩
 ·rw[VA]
  split
  ·exact h.nd
  ·rename_i O
   rw[dZ]
   refine⟨h.nd,by simp,λa Z b hb z=>O ?_⟩
   rw[<-bW.mp hb,<-z];exact Z
 ·rcases(vU j (f s) s p l h.nd).mp Y with⟨R,e⟩|⟨rfl,⟨l0,e,rfl⟩|⟨O,rfl⟩⟩
  ·obtain⟨a,b,c⟩:=h.ls p l e
   refine⟨a,b,λt=>?_⟩
   rw[c t,bX,bW]
   constructor
   ·rintro⟨x,y⟩;exact⟨.inl x,y⟩
   ·rintro⟨x|rfl,y⟩
    ·exact⟨x,y⟩
    ·exact absurd y.symm R
  ·obtain⟨a,b,c⟩:=h.ls _ l0 e
   refine⟨?_,by simp,λt=>?_⟩
   ·rw[dZ]
    refine⟨a,by simp,λx hx y hy z=>U ?_⟩
    rw[<-bW.mp hy,<-z];exact((c x).mp hx).1
   ·rw[bX,bX,bW,c t]
    constructor
    ·rintro(⟨x,y⟩|rfl)
     ·exact⟨.inl x,y⟩
     ·exact⟨.inr rfl,rfl⟩
    ·rintro⟨x|x,y⟩
     ·exact .inl ⟨x,y⟩
     ·exact .inr x
  ·refine⟨by simp,by simp,λt=>?_⟩
   rw[bW,bX,bW]
   constructor
   ·rintro rfl;exact⟨.inr rfl,rfl⟩
   ·rintro⟨x|x,y⟩
    ·obtain⟨l,I⟩:=h.all t x
     exact absurd (bA.mpr ⟨_,I,y⟩) O
    ·exact x
 ·rcases bX.mp J with J|J
  ·obtain⟨l,I⟩:=h.all t J
   by_cases e:f t=f s
   ·exact⟨l++[s],(vU j (f s) s (f t) _ h.nd).mpr (.inr ⟨e,.inl ⟨l,by rw[<-e];exact I,rfl⟩⟩)⟩
   ·exact⟨l,(vU j (f s) s (f t) _ h.nd).mpr (.inl ⟨e,I⟩)⟩
  ·have:t=s:=by simpa using J
   subst this
   by_cases e:f t∈j.map cC
   ·obtain⟨⟨q,l⟩,I,rfl⟩:=bA.mp e
    exact⟨l++[t],(vU j _ t _ _ h.nd).mpr (.inr ⟨rfl,.inl ⟨l,I,rfl⟩⟩)⟩
   ·exact⟨[t],(vU j _ t _ _ h.nd).mpr (.inr ⟨rfl,.inr ⟨e,rfl⟩⟩)⟩
theorem zb7:∀(ys xs:List Nat) (j:List (Nat×List Nat)),Fnd f xs j->(xs++ys).Nodup->Fnd f (xs++ys) (ys.foldl (λj s=>xm j (f s) s) j)
 | [],xs,j,h,_=>by rw[gB];exact h
 | y::r,xs,j,h,q=>by
  have e:xs++y::r=(xs++[y])++r:=by simp
  rw[e]at q ⊢
  have I:y∉xs:=λz=>by
   rw[dZ]at q
   have:=q.1
   rw[dZ]at this
   exact this.2.2 y z y (by simp) rfl
  exact zb7 r (xs++[y]) _ (zgg h I) q
theorem Qx(j:List Nat)(back:List (List Nat))(partOf:List Nat):v7 j back partOf=(j.flatMap λg=>back.getD g []).foldl (λq s=>xm q (partOf.getD s 0) s) []:=by
 unfold v7
 generalize ([]:List (Nat×List Nat))=z
 induction j generalizing z with
 | nil=>rfl
 | cons g r I=>rw[om,lq,iX,I]
structure Back (n:Nat) (d:Nat->Nat) (back:List (List Nat)):Prop where
 nd:∀g,(back.getD g []).Nodup
 mem:∀g s,s∈back.getD g []↔s<n/\d s=g
theorem YC(b:Back n d back):∀{goals:List Nat},goals.Nodup->(goals.flatMap λg=>back.getD g []).Nodup
 | [],_=>by simp
 | g::r,h=>by
  rw[dO]at h
  rw[lq,dZ]
  refine⟨b.nd g,YC b h.2,λx I y J z=>h.1 ?_⟩
  subst z
  obtain⟨g',j,q⟩:=jS.mp J
  have O:=((b.mem g x).mp I).2
  have R:=((b.mem g' x).mp q).2
  rw[<-O,R];exact j
theorem zb8(b:Back n d back)(j:goals.Nodup):Fnd (λs=>partOf.getD s 0) (goals.flatMap λg=>back.getD g []) (v7 goals back partOf):=by
 rw[Qx]
 have:=zb7 (f:=λs=>partOf.getD s 0) (goals.flatMap λg=>back.getD g []) [] [] ⟨by simp,by simp,by simp⟩ (by simpa using YC b j)
 simpa using this
theorem ul{n:Nat}{d:Nat->Nat}{back:List (List Nat)}{j:List Nat}(b:Back n d back)(s:Nat):s∈(j.flatMap λg=>back.getD g [])↔s<n/\d s∈j:=by
 rw[jS]
 constructor
 ·rintro⟨g,q,z⟩
  obtain⟨h1,h2⟩:=(b.mem g s).mp z
  exact⟨h1,by rw[h2];exact q⟩
 ·rintro⟨h1,h2⟩
  exact⟨d s,h2,(b.mem _ s).mpr ⟨h1,rfl⟩⟩
section
variable {n A:Nat} {δ:Nat->Nat->Nat} {Df:Nat->Nat->Prop}
def zc6(n A:Nat)(δ:Nat->Nat->Nat)(st:HS)(j:Nat->Nat->Nat->Prop):Prop:=∀a,a<A->∀s t,s<n->t<n->st.partOf.getD s 0=st.partOf.getD t 0->st.partOf.getD (δ a s) 0≠st.partOf.getD (δ a t) 0->
 st.partOf.getD (δ a s) 0∈st.waiting\/st.partOf.getD (δ a t) 0∈st.waiting\/j a (δ a s) (δ a t)
def zgh(n:Nat)(Df:Nat->Nat->Prop)(st:HS):Prop:=∀s t,s<n->t<n->st.partOf.getD s 0≠st.partOf.getD t 0->Df s t
def J5(st:HS):Prop:=∀p,2<=p->p<st.parts.length->st.parts.getD p []≠[]
structure Res (n A:Nat) (δ:Nat->Nat->Nat) (Df:Nat->Nat->Prop) (st st':HS):Prop where
 ok:Ok n st'
 fine:∀s t,s<n->t<n->st'.partOf.getD s 0=st'.partOf.getD t 0->st.partOf.getD s 0=st.partOf.getD t 0
 cnt:st'.waiting.length+st.parts.length=st.waiting.length+st'.parts.length
 stab:∀pend,zc6 n A δ st pend->zc6 n A δ st' pend
 dist:zgh n Df st->zgh n Df st'
 full:J5 st->J5 st'
 two:st.parts.length<=st'.parts.length
theorem Res.refl(ok:Ok n st):Res n A δ Df st st:=⟨ok,λ_ _ _ _ h=>h,rfl,λ_ h=>h,λh=>h,λh=>h,aP _⟩
theorem Res.trans(x:Res n A δ Df a b)(y:Res n A δ Df b c):Res n A δ Df a c :=
 ⟨y.ok,λs t j q h=>x.fine s t j q (y.fine s t j q h),by have:=x.cnt;have:=y.cnt;omega,λp h=>y.stab p (x.stab p h),λh=>y.dist (x.dist h),λh=>y.full (x.full h),bS x.two y.two⟩
theorem zb9(hδ:∀a s,a<A->s<n->δ a s<n)(ok:Ok n st)(c:Cut n st part stands)(ad:stands≠[])(hD:∀s t,s∈stands->t<n->st.partOf.getD t 0=part->t∉stands->Df s t/\Df t s):
  Res n A δ Df st (yG st part stands)/\∀s t,s<n->t<n->(yG st part stands).partOf.getD s 0=(yG st part stands).partOf.getD t 0->(s∈stands↔t∈stands):=by
 by_cases h:stands.length=(st.parts.getD part []).length
 ·rw[Vz h]
  refine⟨.refl ok,λs t J U e=>?_⟩
  have all:=zeR c.nd c.sub h
  have key:∀s t,t<n->st.partOf.getD s 0=st.partOf.getD t 0->s∈stands->t∈stands:=λs t U e J=>by
   have:=((ok.mem part s).mp (c.sub s J)).2.1
   exact all t ((ok.mem part t).mpr ⟨U,by rw[<-e];exact this,c.lt⟩)
  exact⟨key s t U e,key t s J e.symm⟩
 ·have o:=J4 ok c h
  have I:∀s∈stands,st.partOf.getD s 0=part:=λs J=>((ok.mem part s).mp (c.sub s J)).2.1
  have sp:∀s t,s<n->t<n->(yG st part stands).partOf.getD s 0=(yG st part stands).partOf.getD t 0->(s∈stands↔t∈stands):=λs t J U e=>by
   rw[o.po,o.po]at e
   have h1:=ok.lt s J
   have h2:=ok.lt t U
   by_cases a:s∈stands <;>by_cases b:t∈stands
   ·exact⟨λ_=>b,λ_=>a⟩
   ·rw[if_pos a,if_neg b]at e;omega
   ·rw[if_neg a,if_pos b]at e;omega
   ·exact⟨λz=>absurd z a,λz=>absurd z b⟩
  refine⟨⟨o.ok,λs t J U e=>?_,by rw[o.wlen,o.pl];omega,λag ae a ha s t J U e O=>?_,λhd s t J U e=>?_,λhf p h2 hp=>?_,by rw[o.pl];omega⟩,sp⟩
  ·have q:=sp s t J U e
   rw[o.po,o.po]at e
   by_cases a:s∈stands
   ·rw[I s a,I t (q.mp a)]
   ·have b:t∉stands:=λz=>a (q.mpr z)
    rw[if_neg a,if_neg b]at e
    exact e
  ·have q:=sp s t J U e
   have e0:st.partOf.getD s 0=st.partOf.getD t 0:=by
    rw[o.po,o.po]at e
    by_cases b:s∈stands
    ·rw[I s b,I t (q.mp b)]
    ·have Y:t∉stands:=λz=>b (q.mpr z)
     rw[if_neg b,if_neg Y]at e
     exact e
   have up:∀x,st.partOf.getD x 0∈st.waiting->(yG st part stands).partOf.getD x 0∈(yG st part stands).waiting:=λx R=>by
    rw[o.po]
    by_cases b:x∈stands
    ·rw[if_pos b]
     exact o.both (by rw[<-I x b];exact R)
    ·rw[if_neg b]
     exact o.wt _ R
   by_cases R:st.partOf.getD (δ a s) 0=st.partOf.getD (δ a t) 0
   ·rw[o.po,o.po]at O ⊢
    by_cases b:δ a s∈stands <;>by_cases Y:δ a t∈stands
    ·rw[if_pos b,if_pos Y]at O;exact absurd rfl O
    ·rw[if_pos b,if_neg Y,<-R,I _ b]
     rcases o.one with z|z
     ·exact .inl z
     ·exact .inr (.inl z)
    ·rw[if_neg b,if_pos Y,R,I _ Y]
     rcases o.one with z|z
     ·exact .inr (.inl z)
     ·exact .inl z
    ·rw[if_neg b,if_neg Y]at O;exact absurd R O
   ·rcases ae a ha s t J U e0 R with z|z|z
    ·exact .inl (up _ z)
    ·exact .inr (.inl (up _ z))
    ·exact .inr (.inr z)
  ·by_cases e0:st.partOf.getD s 0=st.partOf.getD t 0
   ·rw[o.po,o.po]at e
    by_cases a:s∈stands <;>by_cases b:t∈stands
    ·rw[if_pos a,if_pos b]at e;exact absurd rfl e
    ·exact(hD s t a U (by rw[<-e0];exact I s a) b).1
    ·exact(hD t s b J (by rw[e0];exact I t b) a).2
    ·rw[if_neg a,if_neg b]at e;exact absurd e0 e
   ·exact hd s t J U e0
  ·intro ab
   have ah:p<st.parts.length+1:=by rw[<-o.pl];exact hp
   have j:∀s,s<n->(yG st part stands).partOf.getD s 0≠p:=λs J z=>by
    have:s∈(yG st part stands).parts.getD p []:=(o.ok.mem p s).mpr ⟨J,z,hp⟩
    rw[ab]at this;cases this
   by_cases h3:p=st.parts.length
   ·cases stands with
    | nil=>exact ad rfl
    | cons x r=>
     have R:x<n:=((ok.mem part x).mp (c.sub x bN)).1
     exact j x R (by rw[o.po,if_pos bN,h3])
   ·have af:p<st.parts.length:=by omega
    by_cases h4:p=part
    ·have:∃x,x∈st.parts.getD part []/\x∉stands:=by
      by_cases z:∃x,x∈st.parts.getD part []/\x∉stands
      ·exact z
      ·exfalso
       have ac:∀x∈st.parts.getD part [],x∈stands:=λx R=>by
        by_cases y:x∈stands
        ·exact y
        ·exact absurd ⟨x,R,y⟩ z
       have l1:=yH c.nd c.sub
       have l2:=yH (ok.nd part) ac
       omega
     obtain⟨x,R,Z⟩:=this
     obtain⟨q1,q2,_⟩:=(ok.mem part x).mp R
     exact j x q1 (by rw[o.po,if_neg Z,q2,h4])
    ·have aa:=hf p h2 af
     cases hl:st.parts.getD p []with
     | nil=>exact aa hl
     | cons x r=>
      have R:x∈st.parts.getD p []:=by rw[hl];exact bN
      obtain⟨q1,q2,_⟩:=(ok.mem p x).mp R
      have Z:x∉stands:=λz=>h4 (by rw[<-q2,I x z])
      exact j x q1 (by rw[o.po,if_neg Z,q2])
structure Prec (n:Nat) (G:Nat->Prop) (st:HS) (fs:List (Nat×List Nat)):Prop where
 nd:(fs.map cC).Nodup
 ls:∀p l,(p,l)∈fs->p<st.parts.length/\l.Nodup/\l≠[]/\∀s,s∈l↔s<n/\G s/\st.partOf.getD s 0=p
theorem VB(hδ:∀a s,a<A->s<n->δ a s<n){G:Nat->Prop}(hG:∀s t,s<n->t<n->G s->¬G t->Df s t/\Df t s):∀(fs:List (Nat×List Nat)) (st:HS),Ok n st->Prec n G st fs->
  Res n A δ Df st (w6 st fs)/\∀p l,(p,l)∈fs->∀s t,s<n->t<n->(w6 st fs).partOf.getD s 0=(w6 st fs).partOf.getD t 0->(s∈l↔t∈l)
 | [],st,ok,_=>⟨.refl ok,λ_ _ h=>by cases h⟩
 | (p,l)::r,st,ok,U=>by
  obtain⟨hp,Y,Z,O⟩:=U.ls p l bN
  have c:Cut n st p l:=⟨hp,Y,λs j=>by
   obtain⟨h1,_,h3⟩:=(O s).mp j
   exact(ok.mem p s).mpr ⟨h1,h3,hp⟩⟩
  have hD:∀s t,s∈l->t<n->st.partOf.getD t 0=p->t∉l->Df s t/\Df t s:=λs t j J e hn=>by
   obtain⟨h1,h2,_⟩:=(O s).mp j
   exact hG s t h1 J h2 λz=>hn ((O t).mpr ⟨J,z,e⟩)
  obtain⟨r1,a1⟩:=zb9 (Df:=Df) hδ ok c Z hD
  have I:=U.nd
  rw[bI,dO]at I
  have aa:Prec n G (yG st p l) r:=⟨I.2,λq m R=>by
   obtain⟨g1,g2,g3,g4⟩:=U.ls q m (bO _ R)
   have ab:q≠p:=λz=>I.1 (bA.mpr ⟨_,R,z⟩)
   refine⟨cI g1 r1.two,g2,g3,λs=>?_⟩
   rw[g4 s]
   by_cases h:l.length=(st.parts.getD p []).length
   ·rw[Vz h]
   ·have o:=J4 ok c h
    rw[o.po]
    constructor
    ·rintro⟨x,y,z⟩
     have:s∉l:=λw=>ab (by rw[<-z,((O s).mp w).2.2])
     exact⟨x,y,by rw[if_neg this];exact z⟩
    ·rintro⟨x,y,z⟩
     by_cases w:s∈l
     ·rw[if_pos w]at z;omega
     ·rw[if_neg w]at z;exact⟨x,y,z⟩⟩
  obtain⟨r2,a2⟩:=VB hδ hG r (yG st p l) r1.ok aa
  refine⟨r1.trans r2,λq m R s t j J e=>?_⟩
  rcases aU.mp R with h|h
  ·cases h
   exact a1 s t j J (r2.fine s t j J e)
  ·exact a2 q m h s t j J e
theorem zeS(U:∀a s,a<A->s<n->δ a s<n)(b:Back n d back)(Y:goals.Nodup)(ok:Ok n st)(Z:∀s t,s<n->t<n->d s∈goals->d t∉goals->Df s t/\Df t s):
  Res n A δ Df st (wq goals st back)/\∀s t,s<n->t<n->(wq goals st back).partOf.getD s 0=(wq goals st back).partOf.getD t 0->(d s∈goals↔d t∈goals):=by
 have f:=zb8 (partOf:=st.partOf) b Y
 have pr:Prec n (λs=>d s∈goals) st (v7 goals back st.partOf):=⟨f.nd,λp l hp=>by
  obtain⟨h1,h2,q⟩:=f.ls p l hp
  have O:∀s,s∈l↔s<n/\d s∈goals/\st.partOf.getD s 0=p:=λs=>by
   rw[q s,ul b s,and_assoc]
  refine⟨?_,h1,h2,O⟩
  cases l with
  | nil=>exact absurd rfl h2
  | cons x r=>
   obtain⟨q1,_,q3⟩:=(O x).mp bN
   rw[<-q3];exact ok.lt x q1⟩
 obtain⟨r,a⟩:=VB (Df:=Df) U (G:=λs=>d s∈goals) Z _ st ok pr
 have key:∀s t,s<n->t<n->(wq goals st back).partOf.getD s 0=(wq goals st back).partOf.getD t 0->d s∈goals->d t∈goals:=λs t j z e h=>by
  obtain⟨l,R⟩:=f.all s ((ul b s).mpr ⟨j,h⟩)
  obtain⟨_,_,q⟩:=f.ls _ l R
  have I:s∈l:=(q s).mpr ⟨(ul b s).mpr ⟨j,h⟩,rfl⟩
  have J:=(a _ l R s t j z e).mp I
  exact((ul b t).mp ((q t).mp J).1).2
 exact⟨r,λs t j z e=>⟨key s t j z e,key t s z j e.symm⟩⟩
end
section
variable {n A:Nat} {δ:Nat->Nat->Nat} {Df:Nat->Nat->Prop}
def zln(j:List Nat)(_ x y:Nat):Prop:=(x∈j/\y∉j)\/(x∉j/\y∈j)
theorem J6(J:∀a s,a<A->s<n->δ a s<n)(O:goals.Nodup)(R:∀a,a<A->∀s t,s<n->t<n->δ a s∈goals->δ a t∉goals->Df s t/\Df t s):
  ∀(bs:List (List (List Nat))) (k:Nat) (st:HS),Ok n st->k+bs.length=A->(∀i,i<bs.length->Back n (δ (k+i)) (bs.getD i []))->
  Res n A δ Df st (bs.foldl (wq goals) st)/\∀i,i<bs.length->∀s t,s<n->t<n->(bs.foldl (wq goals) st).partOf.getD s 0=(bs.foldl (wq goals) st).partOf.getD t 0->(δ (k+i) s∈goals↔δ (k+i) t∈goals)
 | [],k,st,ok,_,_=>⟨.refl ok,λi h=>absurd h (mU _)⟩
 | b::r,k,st,ok,U,Y=>by
  have q:k<A:=by rw[<-U,cD];omega
  have Z:Back n (δ k) b:=by simpa using Y 0 (by simp)
  obtain⟨r1,a1⟩:=zeS (Df:=Df) J Z O ok (R k q)
  obtain⟨r2,a2⟩:=J6 J O R r (k+1) (wq goals st b) r1.ok (by rw[<-U,cD];omega) λi hi=>by
   have:=Y (i+1) (by rw[cD];omega)
   rw[show k+(i+1)=k+1+i by omega]at this
   simpa using this
  refine⟨r1.trans r2,λi hi s t z I e=>?_⟩
  cases i with
  | zero=>exact a1 s t z I (r2.fine s t z I e)
  | succ j=>
   have:=a2 j (by rw[cD]at hi;omega) s t z I e
   rw[show k+(j+1)=k+1+j by omega]
   exact this
structure Inv (n A:Nat) (δ:Nat->Nat->Nat) (Df:Nat->Nat->Prop) (st:HS):Prop where
 ok:Ok n st
 stab:zc6 n A δ st λ_ _ _=>False
 dist:zgh n Df st
 full:J5 st
theorem Ux(ok:Ok n st)(h:st.waiting.getLast?=some p):Ok n (take st p)/\st.waiting=st.waiting.dropLast++[p]:=by
 have j:st.waiting=st.waiting.dropLast++[p]:=by
  have I:st.waiting≠[]:=λz=>by rw[z]at h;cases h
  have e:=mV I
  rw[mW I]at h
  injection h with h
  rw[h]at e
  exact e.symm
 refine⟨?_,j⟩
 have J:=ok.wnd
 rw[j,dZ]at J
 have U:p∉st.waiting.dropLast:=λz=>J.2.2 p z p (by simp) rfl
 refine⟨ok.len,ok.lt,ok.nd,ok.mem,?_,λq O=>?_,λq O=>?_,J.1⟩
 ·show(st.waits.set p false).length=_
  rw[cQ];exact ok.wl
 ·show(st.waits.set p false).getD q false=true↔q∈st.waiting.dropLast
  have R:p<st.parts.length:=ok.wlt p (by rw[j];simp)
  rw[wY,ok.wl]
  by_cases e:p=q
  ·subst e
   rw[if_pos ⟨rfl,R⟩]
   exact⟨λz=>Bool.noConfusion z,λz=>absurd z U⟩
  ·rw[if_neg λz=>e z.1,ok.ww q O]
   constructor
   ·intro z
    rw[j,bX,bW]at z
    exact z.elim id λz=>absurd z.symm e
   ·intro z
    rw[j];exact eJ _ z
 ·exact ok.wlt q (by rw[j];exact eJ _ O)
theorem J7(R:∀a s,a<A->s<n->δ a s<n)(Y:∀a s t,a<A->s<n->t<n->Df (δ a s) (δ a t)->Df s t)(hA:bs.length=A)(hb:∀i,i<A->Back n (δ i) (bs.getD i []))(U:Inv n A δ Df st)(h:st.waiting.getLast?=some p):
  Inv n A δ Df (turn bs st)/\(turn bs st).waiting.length+st.parts.length+1=st.waiting.length+(turn bs st).parts.length/\∀s t,s<n->t<n->(turn bs st).partOf.getD s 0=(turn bs st).partOf.getD t 0->st.partOf.getD s 0=st.partOf.getD t 0:=by
 have e:turn bs st=bs.foldl (wq (st.parts.getD p [])) (take st p):=by unfold turn;rw[h]
 obtain⟨tok,hd⟩:=Ux U.ok h
 have ab:p<st.parts.length:=U.ok.wlt p (by rw[hd];simp)
 have I:∀s,s<n->(s∈st.parts.getD p []↔st.partOf.getD s 0=p):=λs J=>by
  rw[U.ok.mem]
  exact⟨λz=>z.2.1,λz=>⟨J,z,ab⟩⟩
 have hG:∀a,a<A->∀s t,s<n->t<n->δ a s∈st.parts.getD p []->δ a t∉st.parts.getD p []->Df s t/\Df t s:=λa j s t J O x y=>by
  have x1:=(I _ (R a s j J)).mp x
  have y1:st.partOf.getD (δ a t) 0≠p:=λz=>y ((I _ (R a t j O)).mpr z)
  have ne:st.partOf.getD (δ a s) 0≠st.partOf.getD (δ a t) 0:=λz=>y1 (by rw[<-z];exact x1)
  exact⟨Y a s t j J O (U.dist _ _ (R a s j J) (R a t j O) ne),Y a t s j O J (U.dist _ _ (R a t j O) (R a s j J) λz=>ne z.symm)⟩
 obtain⟨r,al⟩:=J6 (Df:=Df) (A:=A) R (U.ok.nd p) hG bs 0 (take st p) tok (by omega) λi hi=>by
  rw[dQ];exact hb i (by omega)
 rw[<-e]at r al
 have ac:zc6 n A δ (take st p) (zln (st.parts.getD p [])):=λa j s t J O es ne=>by
  have hx:=R a s j J
  have hy:=R a t j O
  have Z:∀q,q∈st.waiting->q∈st.waiting.dropLast\/q=p:=λq hq=>by
   rw[hd,bX,bW]at hq
   exact hq
  have aa:st.partOf.getD (δ a s) 0≠st.partOf.getD (δ a t) 0:=ne
  rcases U.stab a j s t J O es ne with z|z|z
  ·rcases Z _ z with z|z
   ·exact .inl z
   ·exact .inr (.inr (.inl ⟨(I _ hx).mpr z,λw=>aa (by rw[z,(I _ hy).mp w])⟩))
  ·rcases Z _ z with z|z
   ·exact .inr (.inl z)
   ·exact .inr (.inr (.inr ⟨λw=>aa (by rw[z,(I _ hx).mp w]),(I _ hy).mpr z⟩))
  ·exact absurd z id
 refine⟨⟨r.ok,λa j s t J O es ne=>?_,r.dist U.dist,r.full U.full⟩,?_,r.fine⟩
 ·rcases r.stab _ ac a j s t J O es ne with z|z|z
  ·exact .inl z
  ·exact .inr (.inl z)
  ·exfalso
   have:=al a (by omega) s t J O es
   rw[dQ]at this
   rcases z with⟨z1,z2⟩|⟨z1,z2⟩
   ·exact z2 (this.mp z1)
   ·exact z1 (this.mpr z2)
 ·have c:=r.cnt
  have l1:st.waiting.length=(take st p).waiting.length+1:=by
   show st.waiting.length=st.waiting.dropLast.length+1
   have:=congrArg l8 hd
   rw[bM,cN]at this
   exact this
  have l2:(take st p).parts.length=st.parts.length:=rfl
  omega
theorem J8(ok:Ok n st)(O:J5 st):st.parts.length<=n+2:=by
 have key:∀k,k+2<=st.parts.length->∃l:List Nat,l.length=k/\l.Nodup/\(∀x∈l,x<n/\st.partOf.getD x 0<k+2):=by
  intro k
  induction k with
  | zero=>exact λ_=>⟨[],rfl,by simp,by simp⟩
  | succ k R=>
   intro Y
   obtain⟨l,h1,h2,j⟩:=R (by omega)
   have q:=O (k+2) (by omega) (by omega)
   obtain⟨x,I⟩:=List.exists_mem_of_ne_nil _ q
   obtain⟨U,Z,_⟩:=(ok.mem _ x).mp I
   refine⟨x::l,by simp[h1],dO.mpr ⟨λz=>?_,h2⟩,λy J=>?_⟩
   ·have:=(j x z).2;omega
   ·rcases aU.mp J with rfl|J
    ·exact⟨U,by omega⟩
    ·have:=j y J;exact⟨this.1,by omega⟩
 by_cases h:st.parts.length<=2
 ·omega
 ·obtain⟨l,h1,h2,j⟩:=key (st.parts.length-2) (by omega)
  have:=yH (m:=aF n) h2 λx I=>bR.mpr (j x I).1
  rw[cY]at this
  omega
def run(bs:List (List (List Nat))):Nat->HS->HS
 | 0,st=>st
 | k+1,st=>if st.waiting=[]then st else run bs k (turn bs st)
theorem zca(z:∀a s,a<A->s<n->δ a s<n)(q:∀a s t,a<A->s<n->t<n->Df (δ a s) (δ a t)->Df s t)(I:bs.length=A)(J:∀i,i<A->Back n (δ i) (bs.getD i [])):
  ∀(k:Nat) (st:HS),Inv n A δ Df st->n+2+st.waiting.length<=k+st.parts.length->Inv n A δ Df (run bs k st)/\(run bs k st).waiting=[]/\∀s t,s<n->t<n->(run bs k st).partOf.getD s 0=(run bs k st).partOf.getD t 0->st.partOf.getD s 0=st.partOf.getD t 0
 | 0,st,j,U=>by
  have:=J8 j.ok j.full
  refine⟨j,?_,λ_ _ _ _ h=>h⟩
  show st.waiting=[]
  exact gJ.mp (by omega)
 | k+1,st,j,U=>by
  unfold run
  by_cases h:st.waiting=[]
  ·rw[if_pos h];exact⟨j,h,λ_ _ _ _ h=>h⟩
  ·rw[if_neg h]
   obtain⟨i1,c1,Y⟩:=J7 z q I J j (mW h)
   obtain⟨i2,Z,f2⟩:=zca z q I J k (turn bs st) i1 (by omega)
   exact⟨i2,Z,λs t O R e=>Y s t O R (f2 s t O R e)⟩
end
end Hop
namespace Pt
open PySem PySem.Spec L2 DD
open PyProof.Rows hiding St
open Hop (HS)
abbrev zP(l:List Nat):List V:=l.map λ(n:Nat)=>V.int (n:Int)
abbrev wp(l:List Nat):List (Key×V):=l.map λ(s:Nat)=>((Sum.inl (s:Int):Key),V.bl true)
structure Ads where
 dx:aA
 po:aA
 pl:aA
 wg:aA
 ws:aA
 ds:List aA
abbrev ZQ(g:Ads):List (aC×V):=[("part_of",.ref g.po),("parts",.ref g.pl),("waiting",.ref g.wg),("waits",.ref g.ws)]
structure Rep (C:aA) (H0 H:Hp) (x:aA) (st:HS) (g:Ads):Prop where
 sm:zw H0 H
 ins:H x=some (.ins C g.dx (ZQ g))
 po:H g.po=some (.lst (zP st.partOf))
 pl:H g.pl=some (.lst (g.ds.map V.ref))
 wg:H g.wg=some (.lst (zP st.waiting))
 ws:H g.ws=some (.lst (st.waits.map V.bl))
 len:g.ds.length=st.parts.length
 ds:∀(i:Nat) d,g.ds[i]?=some d->H d=some (.dK (wp (st.parts.getD i [])))
 nd:g.ds.Nodup
 n1:g.po≠g.pl
 n2:g.po≠g.wg
 n3:g.po≠g.ws
 n4:g.pl≠g.wg
 n5:g.pl≠g.ws
 n6:g.wg≠g.ws
 f0:H0 x=none
 f1:H0 g.po=none
 f2:H0 g.pl=none
 f3:H0 g.wg=none
 f4:H0 g.ws=none
 f5:∀d∈g.ds,H0 d=none
section
variable {C:aA} {H0 H:Hp} {x:aA} {st:HS} {g:Ads}
theorem yI(s:zw H0 H)(j:H0 p=none)(o:HO):zw H0 (upd H p o):=λb u q=>by rw[ze (zt q j)];exact s b u q
theorem Rep.nx(r:Rep C H0 H x st g)(h:H p=some (.lst xs)):x≠p:=vX r.ins h (λz=>nomatch z)
theorem Rep.nd'(r:Rep C H0 H x st g)(h:H p=some (.lst xs)):∀d∈g.ds,d≠p:=λd j=>by
 obtain⟨i,hi⟩:=eW j
 exact vX (r.ds i d hi) h (λz=>nomatch z)
theorem Rep.ndx(r:Rep C H0 H x st g):∀d∈g.ds,d≠x:=λd j=>by
 obtain⟨i,hi⟩:=eW j
 exact vX (r.ds i d hi) r.ins (λz=>nomatch z)
theorem Rep.setWaits(r:Rep C H0 H x st g)(l:List Bool):Rep C H0 (upd H g.ws (.lst (l.map V.bl))) x {st with waits:=l} g where
 sm:=yI r.sm r.f4 _
 ins:=by rw[ze (r.nx r.ws)];exact r.ins
 po:=by rw[ze r.n3];exact r.po
 pl:=by rw[ze r.n5];exact r.pl
 wg:=by rw[ze r.n6];exact r.wg
 ws:=zk
 len:=r.len
 ds:=λi d h=>by rw[ze (r.nd' r.ws d (cE h))];exact r.ds i d h
 nd:=r.nd
 n1:=r.n1
 n2:=r.n2
 n3:=r.n3
 n4:=r.n4
 n5:=r.n5
 n6:=r.n6
 f0:=r.f0
 f1:=r.f1
 f2:=r.f2
 f3:=r.f3
 f4:=r.f4
 f5:=r.f5
theorem Rep.setWaiting(r:Rep C H0 H x st g)(l:List Nat):Rep C H0 (upd H g.wg (.lst (zP l))) x {st with waiting:=l} g where
 sm:=yI r.sm r.f3 _
 ins:=by rw[ze (r.nx r.wg)];exact r.ins
 po:=by rw[ze r.n2];exact r.po
 pl:=by rw[ze r.n4];exact r.pl
 wg:=zk
 ws:=by rw[ze (aQ r.n6)];exact r.ws
 len:=r.len
 ds:=λi d h=>by rw[ze (r.nd' r.wg d (cE h))];exact r.ds i d h
 nd:=r.nd
 n1:=r.n1
 n2:=r.n2
 n3:=r.n3
 n4:=r.n4
 n5:=r.n5
 n6:=r.n6
 f0:=r.f0
 f1:=r.f1
 f2:=r.f2
 f3:=r.f3
 f4:=r.f4
 f5:=r.f5
theorem Rep.setPartOf(r:Rep C H0 H x st g)(l:List Nat):Rep C H0 (upd H g.po (.lst (zP l))) x {st with partOf:=l} g where
 sm:=yI r.sm r.f1 _
 ins:=by rw[ze (r.nx r.po)];exact r.ins
 po:=zk
 pl:=by rw[ze (aQ r.n1)];exact r.pl
 wg:=by rw[ze (aQ r.n2)];exact r.wg
 ws:=by rw[ze (aQ r.n3)];exact r.ws
 len:=r.len
 ds:=λi d h=>by rw[ze (r.nd' r.po d (cE h))];exact r.ds i d h
 nd:=r.nd
 n1:=r.n1
 n2:=r.n2
 n3:=r.n3
 n4:=r.n4
 n5:=r.n5
 n6:=r.n6
 f0:=r.f0
 f1:=r.f1
 f2:=r.f2
 f3:=r.f3
 f4:=r.f4
 f5:=r.f5
theorem getD_some{α:Type}{l:List α}{i:Nat}{d:α}(h:i<l.length):l[i]?=some (l.getD i d):=by
 simp[fR,h]
theorem Rep.setPart(r:Rep C H0 H x st g){i:Nat}{d:aA}(hi:g.ds[i]?=some d)(l:List Nat):Rep C H0 (upd H d (.dK (wp l))) x {st with parts:=st.parts.set i l} g where
 sm:=yI r.sm (r.f5 d (cE hi)) _
 ins:=by rw[ze (aQ (r.ndx d (cE hi)))];exact r.ins
 po:=by rw[ze (aQ (r.nd' r.po d (cE hi)))];exact r.po
 pl:=by rw[ze (aQ (r.nd' r.pl d (cE hi)))];exact r.pl
 wg:=by rw[ze (aQ (r.nd' r.wg d (cE hi)))];exact r.wg
 ws:=by rw[ze (aQ (r.nd' r.ws d (cE hi)))];exact r.ws
 len:=by show _=(st.parts.set i l).length;rw[cQ];exact r.len
 ds:=λj e hj=>by
  show _=some (HO.dK (wp ((st.parts.set i l).getD j [])))
  rw[Hop.wY]
  have hil:i<st.parts.length:=by rw[<-r.len];exact(bE.mp hi).1
  by_cases h:i=j
  ·subst h
   rw[hi]at hj;cases hj
   rw[zk,if_pos ⟨rfl,hil⟩]
  ·have:e≠d:=λz=>by
    subst z
    obtain⟨a1,a2⟩:=bE.mp hi
    obtain⟨b1,b2⟩:=bE.mp hj
    exact h ((gZ r.nd).mp (a2.trans b2.symm))
   rw[ze this,if_neg λz=>h z.1]
   exact r.ds j e hj
 nd:=r.nd
 n1:=r.n1
 n2:=r.n2
 n3:=r.n3
 n4:=r.n4
 n5:=r.n5
 n6:=r.n6
 f0:=r.f0
 f1:=r.f1
 f2:=r.f2
 f3:=r.f3
 f4:=r.f4
 f5:=r.f5
theorem Rep.addPart(r:Rep C H0 H x st g){d:aA}(hd:H d=none):Rep C H0 (upd (upd H d (.dK [])) g.pl (.lst ((g.ds++[d]).map V.ref))) x {st with parts:=st.parts++[[]]} {g with ds:=g.ds++[d]}:=by
 have ne:∀{b:aA} {o:HO},H b=some o->b≠d:=λh=>zt h hd
 have np:d≠g.pl:=λz=>ne r.pl z.symm
 refine⟨yI (λb u q=>?_) r.f2 _,?_,?_,zk,?_,?_,?_,λi e h=>?_,?_,r.n1,r.n2,r.n3,r.n4,r.n5,r.n6,r.f0,r.f1,r.f2,r.f3,r.f4,λe he=>?_⟩
 ·have:=r.sm b u q;rw[ze (ne this)];exact this
 ·rw[ze (r.nx r.pl),ze (ne r.ins)];exact r.ins
 ·show upd _ _ _ g.po=_
  rw[ze r.n1,ze (ne r.po)];exact r.po
 ·show upd _ _ _ g.wg=_
  rw[ze (aQ r.n4),ze (ne r.wg)];exact r.wg
 ·show upd _ _ _ g.ws=_
  rw[ze (aQ r.n5),ze (ne r.ws)];exact r.ws
 ·show(g.ds++[d]).length=(st.parts++[[]]).length
  rw[bM,bM,r.len];rfl
 ·show _=some (HO.dK (wp ((st.parts++[[]]).getD i [])))
  have h':(g.ds++[d])[i]?=some e:=h
  rw[Hop.xr]
  by_cases hi:i<g.ds.length
  ·rw[dF hi]at h'
   have hm:=cE h'
   rw[ze (r.nd' r.pl e hm),ze (ne (r.ds i e h')),if_pos (by rw[<-r.len];exact hi)]
   exact r.ds i e h'
  ·rw[fF (by omega)]at h'
   have:i-g.ds.length=0:=by
    have:=(bE.mp h').1
    simp at this;omega
   rw[this]at h'
   simp at h'
   subst h'
   rw[ze np,zk,if_neg (by rw[<-r.len];exact hi),if_pos (by rw[<-r.len];omega)]
   rfl
 ·show(g.ds++[d]).Nodup
  rw[dZ]
  refine⟨r.nd,by simp,λa ha b hb z=>?_⟩
  have hb':b=d:=by simpa using hb
  subst hb';subst z
  obtain⟨i,hi⟩:=eW ha
  rw[r.ds i _ hi]at hd;cases hd
 ·rcases bX.mp he with h|h
  ·exact r.f5 e h
  ·have:e=d:=by simpa using h
   subst this
   exact r.sm.free hd
end
structure PC (K:aE) (C:aA):Prop where
 cl:Cls K C
 n1:xy K C "part_of"
 n2:xy K C "parts"
 n3:xy K C "waiting"
 n4:xy K C "waits"
theorem Uy{n p:Nat}(h:p<n):ixN n (p:Int)=some p:=by
 unfold ixN
 rw[if_pos (by omega),if_pos (by omega)];simp
theorem Ye{a b:Nat}:((Sum.inl (a:Int):Key)=Sum.inl (b:Int))↔a=b:=by
 constructor
 ·intro h;injection h with h;omega
 ·rintro rfl;rfl
theorem Xk(s:Nat):∀l:List Nat,xH (wp l) (Sum.inl (s:Int))=if s∈l then some (.bl true)else none
 | []=>rfl
 | a::r=>by
  show xH (((Sum.inl (a:Int):Key),V.bl true)::wp r) _=_
  by_cases h:a=s
  ·subst h;rw[vO rfl];simp
  ·rw[vh (λz=>h (Ye.mp z)),Xk s r]
   have:¬s=a:=λz=>h z.symm
   simp[this]
theorem YD(s:Nat):∀l:List Nat,vo (wp l) (Sum.inl (s:Int))=wp (l.filter λt=>decide (t≠s))
 | []=>rfl
 | a::r=>by
  show vo (((Sum.inl (a:Int):Key),V.bl true)::wp r) _=_
  by_cases h:a=s
  ·subst h;rw[zeI rfl,YD a r];simp
  ·rw[zeJ (λz=>h (Ye.mp z)),YD s r]
   simp[h]
theorem Qy{s:Nat}{l:List Nat}(h:s∉l):wf (wp l) (Sum.inl (s:Int)) (V.bl true)=wp (l++[s]):=by
 rw[WD _ (by rw[Xk,if_neg h])]
 simp
theorem zbw(po l:List Nat)(s v:Nat):Hop.x8 po (l++[s]) v=(Hop.x8 po l v).set s v:=by
 unfold Hop.x8
 rw[iX];rfl
theorem zbx(l d:List Nat)(s:Nat):(l.filter λt=>!d.contains t).filter (λt=>decide (t≠s))=l.filter λt=>!(d++[s]).contains t:=by
 rw[List.filter_filter]
 congr 1
 funext t
 simp only[List.contains_eq_mem,bX,bW]
 by_cases h:t=s <;>by_cases h2:t∈d <;>simp[h,h2]
theorem Xl{l:List Nat}{i s:Nat}(h:l[i]?=some s):l.take (i+1)=l.take i++[s]:=by
 rw[lu,h];rfl
section
variable {C:aA} {H0 H:Hp} {x:aA} {st:HS} {g:Ads}
theorem Rep.ext(r:Rep C H0 H x st g)(q:H l=none)(o:HO):Rep C (upd H0 l o) (upd H l o) x st g:=by
 have ne:∀{b:aA} {u:HO},H b=some u->b≠l:=λh=>zt h q
 have nm:∀d∈g.ds,d≠l:=λd j=>by
  obtain⟨i,hi⟩:=eW j
  exact ne (r.ds i d hi)
 refine⟨Y9 r.sm o,?_,?_,?_,?_,?_,r.len,λi d h=>?_,r.nd,r.n1,r.n2,r.n3,r.n4,r.n5,r.n6,?_,?_,?_,?_,?_,λd j=>?_⟩
 ·rw[ze (ne r.ins)];exact r.ins
 ·rw[ze (ne r.po)];exact r.po
 ·rw[ze (ne r.pl)];exact r.pl
 ·rw[ze (ne r.wg)];exact r.wg
 ·rw[ze (ne r.ws)];exact r.ws
 ·rw[ze (ne (r.ds i d h))];exact r.ds i d h
 ·rw[ze (ne r.ins)];exact r.f0
 ·rw[ze (ne r.po)];exact r.f1
 ·rw[ze (ne r.pl)];exact r.f2
 ·rw[ze (ne r.wg)];exact r.f3
 ·rw[ze (ne r.ws)];exact r.f4
 ·rw[ze (nm d j)];exact r.f5 d j
def mid(st:HS)(part:Nat)(stands:List Nat)(i:Nat):HS :=
 ⟨Hop.x8 st.partOf (stands.take i) st.parts.length,st.parts.set part ((st.parts.getD part []).filter λs=>!(stands.take i).contains s)++[stands.take i],st.waiting,st.waits++[false]⟩
theorem zgi(part:Nat)(stands:List Nat)(hp:part<st.parts.length):mid st part stands 0={st with parts:=st.parts++[[]],waits:=st.waits++[false]}:=by
 unfold mid
 simp only[pN,List.contains_nil,Bool.not_false,Hop.x8,List.foldl_nil]
 rw[show(st.parts.getD part []).filter (λ_=>true)=st.parts.getD part []from List.filter_eq_self.mpr λ_ _=>rfl]
 rw[show st.parts.set part (st.parts.getD part [])=st.parts from ?_]
 apply pO ;intro j
 rw[mS]
 by_cases h:part=j
 ·subst h;simp[hp]
 ·simp[h]
theorem zgj{part:Nat}{stands:List Nat}{i s:Nat}(hp:part<st.parts.length)(h:stands[i]?=some s):
  mid st part stands (i+1)={mid st part stands i with
   partOf:=(mid st part stands i).partOf.set s st.parts.length
   parts:=((mid st part stands i).parts.set part (((mid st part stands i).parts.getD part []).filter λt=>decide (t≠s))).set st.parts.length ((mid st part stands i).parts.getD st.parts.length []++[s])}:=by
 have hg:(mid st part stands i).parts.getD part []=(st.parts.getD part []).filter λs=>!(stands.take i).contains s:=by
  show(st.parts.set part _++[stands.take i]).getD part []=_
  rw[Hop.xr,cQ,if_pos hp,Hop.wY,if_pos ⟨rfl,hp⟩]
 have hf:(mid st part stands i).parts.getD st.parts.length []=stands.take i:=by
  show(st.parts.set part _++[stands.take i]).getD _ []=_
  rw[Hop.xr,cQ,if_neg (cV _),if_pos rfl]
 rw[hg,hf,zbx]
 unfold mid
 rw[Xl h,zbw]
 congr 1
 show _=((st.parts.set part _++[stands.take i]).set part _).set st.parts.length _
 rw[List.set_append_left _ _ (by rw[cQ];exact hp),List.set_set,List.set_append_right _ _ (by rw[cQ];exact aP _),cQ,Nat.sub_self]
 rfl
theorem J9{part:Nat}{stands:List Nat}{i:Nat}(hp:part<st.parts.length):(mid st part stands i).parts.getD part []=(st.parts.getD part []).filter λs=>!(stands.take i).contains s:=by
 show(st.parts.set part _++[stands.take i]).getD part []=_
 rw[Hop.xr,cQ,if_pos hp,Hop.wY,if_pos ⟨rfl,hp⟩]
theorem Qz{part:Nat}{stands:List Nat}{i:Nat}:(mid st part stands i).parts.getD st.parts.length []=stands.take i:=by
 show(st.parts.set part _++[stands.take i]).getD _ []=_
 rw[Hop.xr,cQ,if_neg (cV _),if_pos rfl]
theorem ziz{part:Nat}{stands:List Nat}(hp:part<st.parts.length)(h:stands.length≠(st.parts.getD part []).length){w:Nat} 
  (hw:w=if(st.waits++[false]).getD part false=true\/stands.length<=((mid st part stands stands.length).parts.getD part []).length then st.parts.length else part) :
  {mid st part stands stands.length with waits:=(st.waits++[false]).set w true,waiting:=st.waiting++[w]}=Hop.yG st part stands:=by
 rw[J9 hp,fG]at hw
 unfold Hop.yG
 rw[if_neg h]
 simp only
 rw[<-hw]
 unfold mid
 rw[fG]
theorem ziA{a b:Nat}(h:decide (V.int (a:Int)=V.int (b:Int))=true):a=b:=by
 have:=of_decide_eq_true h
 injection this with this
 omega
theorem ziB{a b:Nat}(h:¬decide (V.int (a:Int)=V.int (b:Int))=true):a≠b:=λz=>h (by rw[z];simp)
end
theorem zaa{J:It}{n:Nat}{g:TG}{tb:TS}{D:Ends}{σ:St}{H:Hp}(j:Nat->St->Hp->Prop)(Y:j 0 σ H)(I:∀i σ H,i<n->j i σ H->J.go i H)(q:∀σ H,j n σ H->J.stop n H) 
  (Z:∀i x σ H H',i<n->j i σ H->J.yld i H x H'->g x σ H' λO H2=>tb {D with nx:=j (i+1),ct:=j (i+1),bk:=D.nx} O H2) (hd:∀σ H,j n σ H->D.nx σ H) :
  ∃W:Nat->Nat->St->Hp->Prop,(∃m,W 0 m σ H)/\∀i m σ H,W i m σ H->
   (J.stop i H/\D.nx σ H)\/(J.go i H/\∃N:St->Hp->Prop,(∀R H',N R H'->∃U,U<m/\W (i+1) U R H')/\∀x H',J.yld i H x H'->g x σ H' λO H2=>tb {D with nx:=N,ct:=N,bk:=D.nx} O H2):=by
 refine⟨λi m σ H=>m=n-i/\i<=n/\j i σ H,⟨n,by simp,dJ _,Y⟩,?_⟩
 rintro i m σ H ⟨rfl,hi,p⟩
 by_cases z:i<n
 ·exact .inr ⟨I i σ H z p,j (i+1),λR H' p'=>⟨n-(i+1),by omega,rfl,z,p'⟩,λx H' y=>Z i x σ H H' z p y⟩
 ·have e:i=n:=by omega
  subst e
  exact .inl ⟨q σ H p,hd σ H p⟩
section
variable {C:aA} {H0 H1 H:Hp} {x:aA} {st:HS} {g:Ads}
theorem Rep.weak(r:Rep C H1 H x st g)(s:zw H0 H1):Rep C H0 H x st g :=
 ⟨λb u q=>r.sm b u (s b u q),r.ins,r.po,r.pl,r.wg,r.ws,r.len,r.ds,r.nd,r.n1,r.n2,r.n3,r.n4,r.n5,r.n6,s.free r.f0,s.free r.f1,s.free r.f2,s.free r.f3,s.free r.f4,λd j=>s.free (r.f5 d j)⟩
theorem yj(h:upd H a o b=none):b≠a/\H b=none:=by
 unfold upd at h
 by_cases e:b=a
 ·rw[if_pos e]at h;cases h
 ·rw[if_neg e]at h;exact⟨e,h⟩
def st0:HS:=⟨[],[[],[]],[0,1],[true,true]⟩
theorem Rep.begin{U j I pl Y ws dx:aA}{o o1 o2 o3:HO}(R:zw H0 H)(hx:H x=some o)(h0:H0 x=none){Z Hb Hc Hd:Hp}(J:H U=none)(ea:Z=upd (upd H U (.lst [])) x o1)(ae:Z j=none)(af:upd Z j (.dK []) I=none) 
  (ag:upd (upd Z j (.dK [])) I (.dK []) pl=none) (eb:Hb=upd (upd (upd (upd Z j (.dK [])) I (.dK [])) pl (.lst [.ref j,.ref I])) x o2) (ah:Hb Y=none)
  (ec:Hc=upd (upd Hb Y (.lst [.int 0,.int 1])) x o3) (ai:Hc ws=none)
  (ed:Hd=upd (upd Hc ws (.lst [.bl true,.bl true])) x (.ins C dx (ZQ ⟨dx,U,pl,Y,ws,[j,I]⟩))):Rep C H0 Hd x st0 ⟨dx,U,pl,Y,ws,[j,I]⟩:=by
 have O:U≠x:=λz=>by rw[z,hx]at J;cases J
 subst ea
 obtain⟨a1,a2⟩:=yj ae
 obtain⟨a3,a4⟩:=yj a2
 obtain⟨b1,b2⟩:=yj af
 obtain⟨b3,b4⟩:=yj b2
 obtain⟨b5,b6⟩:=yj b4
 obtain⟨c1,c2⟩:=yj ag
 obtain⟨c3,c4⟩:=yj c2
 obtain⟨c5,c6⟩:=yj c4
 obtain⟨c7,c8⟩:=yj c6
 subst eb
 obtain⟨e1,e2⟩:=yj ah
 obtain⟨e3,e4⟩:=yj e2
 obtain⟨e5,e6⟩:=yj e4
 obtain⟨e7,e8⟩:=yj e6
 obtain⟨e9,aj⟩:=yj e8
 obtain⟨aa,ab⟩:=yj aj
 subst ec
 obtain⟨f1,f2⟩:=yj ai
 obtain⟨f3,f4⟩:=yj f2
 obtain⟨f5,f6⟩:=yj f4
 obtain⟨f7,f8⟩:=yj f6
 obtain⟨f9,ak⟩:=yj f8
 obtain⟨al,am⟩:=yj ak
 obtain⟨ap,an⟩:=yj am
 obtain⟨ac,ad⟩:=yj an
 subst ed
 refine⟨λb u q=>?_,zk,?_,?_,?_,?_,rfl,λi d h=>?_,?_,?_,?_,?_,?_,?_,?_,h0,R.free J,R.free c8,R.free ab,R.free ad,λd hd=>?_⟩
 ·have hb:=R b u q
  have n0:b≠x:=λz=>by rw[z,h0]at q;cases q
  have nn:∀c,H c=none->b≠c:=λc hc=>zt hb hc
  simp only[ze n0,ze (nn _ J),ze (nn _ a4),ze (nn _ b6),ze (nn _ c8),ze (nn _ ab),ze (nn _ ad)]
  exact hb
 ·show upd _ _ _ U=_
  rw[ze O,ze (aQ ac),ze O,ze (aQ aa),ze O,ze (aQ c7),ze (aQ b5),ze (aQ a3),ze O,zk];rfl
 ·show upd _ _ _ pl=_
  rw[ze c5,ze (aQ f7),ze c5,ze (aQ e3),ze c5,zk];rfl
 ·show upd _ _ _ Y=_
  rw[ze e1,ze (aQ f3),ze e1,zk];rfl
 ·show upd _ _ _ ws=_
  rw[ze f1,zk];rfl
 ·match i,h with
  | 0,h=>
   have:j=d:=by simpa using h
   subst this
   show upd _ _ _ j=_
   rw[ze a1,ze (aQ al),ze a1,ze (aQ e7),ze a1,ze (aQ c3),ze (aQ b1),zk];rfl
  | 1,h=>
   have:I=d:=by simpa using h
   subst this
   show upd _ _ _ I=_
   rw[ze b3,ze (aQ f9),ze b3,ze (aQ e5),ze b3,ze (aQ c1),zk];rfl
  | i+2,h=>simp at h
 ·show [j,I].Nodup
  simp[aQ b1]
 ·exact aQ c7
 ·exact aQ aa
 ·exact aQ ac
 ·exact aQ e3
 ·exact aQ f7
 ·exact aQ f3
 ·have ao:d=j\/d=I:=by simpa using hd
  rcases ao with rfl|rfl
  ·exact R.free a4
  ·exact R.free b6
def pOf(b:Bool):Nat:=if b then 1 else 0
def ini(good:List Bool)(i:Nat):HS:=⟨(good.take i).map pOf,[(aF i).filter λs=>!good.getD s false,(aF i).filter λs=>good.getD s false],[0,1],[true,true]⟩
theorem zgk(good:List Bool):ini good good.length=Hop.start good:=by
 unfold ini Hop.start
 rw[fG];rfl
theorem zgl(h:good[i]?=some b):ini good (i+1)={ini good i with partOf:=(ini good i).partOf++[pOf b],parts:=(ini good i).parts.set (pOf b) ((ini good i).parts.getD (pOf b) []++[i])}:=by
 have j:good.getD i false=b:=by simp[fR,h]
 unfold ini
 rw[lu,h,lx,mX,mX]
 cases b with
 | true=>simp[pOf,h]
 | false=>simp[pOf,h]
theorem zeT:i∉(ini good i).parts.getD p []:=λz=>by
 match p,z with
 | 0,z=>
  have j:i∈(aF i).filter λs=>!good.getD s false:=z
  have:=bR.mp (fU.mp j).1
  omega
 | 1,z=>
  have j:i∈(aF i).filter λs=>good.getD s false:=z
  have:=bR.mp (fU.mp j).1
  omega
 | p+2,z=>simp[ini]at z
theorem zeU:((ini good i).parts.getD p []).length<=i:=by
 have key:∀f:Nat->Bool,((aF i).filter f).length<=i:=λf=>by
  have:=la f (aF i)
  rw[cY]at this
  exact this
 match p with
 | 0=>exact key _
 | 1=>exact key _
 | p+2=>simp[ini]
end
abbrev FE:=(Nat×List Nat)×aA
abbrev kvF(fl:List FE):List (Key×V):=fl.map λe=>((Sum.inl (e.1.1:Int):Key),V.ref e.2)
structure FR (H0 H:Hp) (d:aA) (fl:List FE):Prop where
 sm:zw H0 H
 dd:H d=some (.dK (kvF fl))
 d0:H0 d=none
 ls:∀e∈fl,H e.2=some (.lst (zP e.1.2))/\H0 e.2=none
 nd:(fl.map (·.2)).Nodup
 kn:(fl.map (·.1.1)).Nodup
theorem zab{fl:List FE}(j:(fl.map (·.1.1)).Nodup){e:FE}(h:e∈fl):xH (kvF fl) (Sum.inl (e.1.1:Int))=some (.ref e.2):=by
 induction fl with
 | nil=>cases h
 | cons a r q=>
  rw[bI,dO]at j
  show xH (((Sum.inl (a.1.1:Int):Key),V.ref a.2)::kvF r) _=_
  rcases aU.mp h with rfl|h
  ·exact vO rfl
  ·rw[vh λz=>j.1 (by rw[Ye.mp z];exact bA.mpr ⟨e,h,rfl⟩)]
   exact q j.2 h
theorem zcb{fl:List FE}{p:Nat}(h:p∉fl.map (·.1.1)):xH (kvF fl) (Sum.inl (p:Int))=none:=by
 induction fl with
 | nil=>rfl
 | cons a r j=>
  rw[bI,aU,not_or]at h
  show xH (((Sum.inl (a.1.1:Int):Key),V.ref a.2)::kvF r) _=_
  rw[vh λz=>h.1 (Ye.mp z).symm]
  exact j h.2
def uK(fl:List FE)(p s:Nat):List FE:=fl.map λe=>if e.1.1=p then((e.1.1,e.1.2++[s]),e.2)else e
theorem zjW(fl:List FE)(p s:Nat):(uK fl p s).map (·.2)=fl.map (·.2):=by
 unfold uK
 rw[cZ]
 apply dC
 intro e _
 show(if e.1.1=p then _ else e).2=_
 split <;>rfl
theorem zjX(fl:List FE)(p s:Nat):(uK fl p s).map (·.1.1)=fl.map (·.1.1):=by
 unfold uK
 rw[cZ]
 apply dC
 intro e _
 show(if e.1.1=p then _ else e).1.1=_
 split <;>rfl
theorem ziC(fl:List FE)(p s:Nat):kvF (uK fl p s)=kvF fl:=by
 unfold uK kvF
 rw[cZ]
 apply dC
 intro e _
 by_cases h:e.1.1=p
 ·simp[h]
 ·simp[h]
section
variable {H0 H:Hp} {d a:aA} {fl:List FE} {p s:Nat}
theorem FR.new(h:H d=none):FR H (upd H d (.dK [])) d []:=⟨zK h _,zk,h,λe h=>absurd h (by simp),by simp,by simp⟩
theorem FR.add(r:FR H0 H d fl)(Y:p∉fl.map (·.1.1))(I:H a=none):FR H0 (upd (upd H a (.lst [])) d (.dK (wf (kvF fl) (Sum.inl (p:Int)) (V.ref a)))) d (fl++[((p,[]),a)]):=by
 have ne:∀{b o},H b=some o->b≠a:=λh=>zt h I
 have J:a≠d:=λz=>ne r.dd z.symm
 refine⟨λb u q=>?_,?_,r.d0,λe O=>?_,?_,?_⟩
 ·rw[ze (zt q r.d0),ze (ne (r.sm b u q))];exact r.sm b u q
 ·rw[zk,WD _ (zcb Y)];simp
 ·rcases bX.mp O with h|h
  ·obtain⟨h1,h2⟩:=r.ls e h
   rw[ze (vX h1 r.dd (λz=>nomatch z)),ze (ne h1)]
   exact⟨h1,h2⟩
  ·have:e=((p,[]),a):=by simpa using h
   subst this
   refine⟨?_,r.sm.free I⟩
   show upd _ _ _ a=_
   rw[ze J,zk];rfl
 ·rw[cL,dZ]
  refine⟨r.nd,by simp,λb R c U z=>?_⟩
  have j:c=a:=by simpa using U
  subst j;subst z
  obtain⟨e,O,rfl⟩:=bA.mp R
  rw[(r.ls e O).1]at I;cases I
 ·rw[cL,dZ]
  refine⟨r.kn,by simp,λb R c U z=>?_⟩
  have j:c=p:=by simpa using U
  subst j;subst z
  exact Y R
theorem FR.app(r:FR H0 H d fl)(R:e∈fl)(ep:e.1.1=p):FR H0 (upd H e.2 (.lst (zP (e.1.2++[s])))) d (uK fl p s):=by
 refine⟨yI r.sm (r.ls e R).2 _,?_,r.d0,λf Z=>?_,by rw[zjW];exact r.nd,by rw[zjX];exact r.kn⟩
 ·rw[ze (vX r.dd (r.ls e R).1 (λz=>nomatch z)),ziC];exact r.dd
 ·unfold uK at Z
  obtain⟨O,U,rfl⟩:=bA.mp Z
  by_cases h:O.1.1=p
  ·have e1:O=e:=by
    obtain⟨i,hi⟩:=eW U
    obtain⟨j,q⟩:=eW R
    have I:(fl.map (·.1.1))[i]?=some p:=by rw[aY,hi];simp[h]
    have J:(fl.map (·.1.1))[j]?=some p:=by rw[aY,q];simp[ep]
    obtain⟨a1,a2⟩:=bE.mp I
    obtain⟨b1,Y⟩:=bE.mp J
    have:=(gZ r.kn).mp (a2.trans Y.symm)
    subst this
    rw[hi]at q;exact eP q
   subst e1
   rw[if_pos h]
   exact⟨zk,(r.ls O U).2⟩
  ·rw[if_neg h]
   have ne:O.2≠e.2:=λz=>h (by
    obtain⟨i,hi⟩:=eW U
    obtain⟨j,q⟩:=eW R
    have I:(fl.map (·.2))[i]?=some e.2:=by rw[aY,hi];simp[z]
    have J:(fl.map (·.2))[j]?=some e.2:=by rw[aY,q];rfl
    obtain⟨a1,a2⟩:=bE.mp I
    obtain⟨b1,Y⟩:=bE.mp J
    have:=(gZ r.nd).mp (a2.trans Y.symm)
    subst this
    rw[hi]at q
    rw[eP q];exact ep)
   rw[ze ne]
   exact r.ls O U
theorem zac:∀{found:List (Nat×List Nat)},(found.map cC).Nodup->p∈found.map cC->Hop.xm found p s=found.map λe=>if e.1=p then(e.1,e.2++[s])else e
 | [],_,h=>by cases h
 | (q,l)::r,nd,h=>by
  rw[bI,dO]at nd
  unfold Hop.xm
  rw[bI]
  by_cases e:q=p
  ·subst e
   rw[if_pos rfl,if_pos rfl]
   congr 1
   symm
   rw[dC (g:=id)]
   ·simp
   ·intro f hf
    rw[if_neg λz=>nd.1 (bA.mpr ⟨f,hf,z⟩)];rfl
  ·rw[if_neg e,if_neg (show ¬(q,l).1=p from e)]
   have h':p∈r.map cC:=by
    rcases aU.mp h with z|z
    ·exact absurd z.symm e
    ·exact z
   rw[zac nd.2 h']
theorem QA:∀{found:List (Nat×List Nat)},p∉found.map cC->Hop.xm found p s=found++[(p,[s])]
 | [],_=>rfl
 | (q,l)::r,h=>by
  rw[bI,aU,not_or]at h
  unfold Hop.xm
  rw[if_neg λz=>h.1 z.symm,QA h.2];rfl
theorem zc7(kn:(fl.map (·.1.1)).Nodup)(h:p∈fl.map (·.1.1)):(uK fl p s).map (·.1)=Hop.xm (fl.map (·.1)) p s:=by
 rw[zac (by rw[cZ];exact kn) (by rw[cZ];exact h)]
 unfold uK
 rw[cZ,cZ]
 apply dC
 intro e _
 show(if e.1.1=p then _ else e).1=if e.1.1=p then _ else e.1
 split <;>rfl
theorem zgm(h:p∉fl.map (·.1.1)):(uK (fl++[((p,[]),a)]) p s).map (·.1)=Hop.xm (fl.map (·.1)) p s:=by
 rw[QA (by rw[cZ];exact h)]
 unfold uK
 rw[cL,cL]
 congr 1
 ·rw[cZ]
  apply dC
  intro e he
  show(if e.1.1=p then _ else e).1=_
  rw[if_neg λz=>h (bA.mpr ⟨e,he,z⟩)]
 ·simp
end
structure BkR (H:Hp) (b:aA) (back:List (List Nat)) (as:List aA):Prop where
 b:H b=some (.lst (as.map V.ref))
 len:as.length=back.length
 ls:∀(i:Nat) a,as[i]?=some a->H a=some (.lst (zP (back.getD i [])))
theorem BkR.mono{H H':Hp}{b:aA}{back:List (List Nat)}{as:List aA}(r:BkR H b back as)(s:zw H H'):BkR H' b back as:=⟨s _ _ r.b,r.len,λi a h=>s _ _ (r.ls i a h)⟩
def uL(f:Nat->Nat)(xs:List Nat):List (Nat×List Nat):=xs.foldl (λfound s=>Hop.xm found (f s) s) []
theorem QB(f:Nat->Nat)(xs:List Nat)(s:Nat):uL f (xs++[s])=Hop.xm (uL f xs) (f s) s:=by
 unfold uL
 rw[iX];rfl
theorem QC(p s:Nat):∀found:List (Nat×List Nat),(Hop.xm found p s).length<=found.length+1
 | []=>aP _
 | (q,l)::r=>by
  unfold Hop.xm
  split
  ·simp
  ·rw[cD,cD]
   exact mY (QC p s r)
theorem VC(p s n:Nat):∀found:List (Nat×List Nat),(∀e∈found,e.2.length<=n)->∀e∈Hop.xm found p s,e.2.length<=n+1
 | [],_,e,he=>by
  have:e=(p,[s]):=by simpa[Hop.xm]using he
  subst this
  show 1<=n+1
  omega
 | (q,l)::r,h,e,he=>by
  unfold Hop.xm at he
  split at he
  ·rcases aU.mp he with rfl|he
   ·have:=h (q,l) bN
    show(l++[s]).length<=n+1
    rw[bM]
    simp at this ⊢;exact this
   ·have:=h e (bO _ he);omega
  ·rcases aU.mp he with rfl|he
   ·have:=h (q,l) bN;omega
   ·exact VC p s n r (λe he=>h e (bO _ he)) e he
theorem zc8(f:Nat->Nat)(xs:List Nat):(uL f xs).length<=xs.length/\∀e∈uL f xs,e.2.length<=xs.length:=by
 have key:∀n,∀xs:List Nat,xs.length=n->(uL f xs).length<=xs.length/\∀e∈uL f xs,e.2.length<=xs.length:=by
  intro n
  induction n with
  | zero=>
   intro xs h
   have:xs=[]:=gJ.mp h
   subst this
   exact⟨aP _,λe he=>absurd he (by simp[uL])⟩
  | succ n ih=>
   intro xs h
   have hne:xs≠[]:=λz=>by rw[z]at h;cases h
   have e:=mV hne
   have hl:xs.dropLast.length=n:=by rw[ou,h];rfl
   obtain⟨a,b⟩:=ih _ hl
   rw[hl]at a b
   rw[h,<-e,QB]
   exact⟨bS (QC _ _ _) (by omega),VC _ _ n _ b⟩
 exact key _ xs rfl
theorem zeV(goals:List Nat)(back:List (List Nat))(partOf:List Nat):Hop.v7 goals back partOf=uL (λs=>partOf.getD s 0) (goals.flatMap λg=>back.getD g []):=Hop.Qx goals back partOf
theorem QD{j:List Nat}{i g:Nat}(back:List (List Nat))(h:j[i]?=some g):(j.take (i+1)).flatMap (λg=>back.getD g [])=(j.take i).flatMap (λg=>back.getD g [])++back.getD g []:=by
 rw[Xl h,pP];simp
theorem ziD{q:List Nat}{i g:Nat}(back:List (List Nat))(h:q[i]?=some g)(j:Nat):((q.take i).flatMap (λg=>back.getD g [])++(back.getD g []).take j).length<=(q.flatMap λg=>back.getD g []).length:=by
 have e:q=q.take (i+1)++q.drop (i+1):=(List.take_append_drop _ _).symm
 have:(q.flatMap λg=>back.getD g []).length=((q.take (i+1)).flatMap λg=>back.getD g []).length+((q.drop (i+1)).flatMap λg=>back.getD g []).length:=by
  rw[<-bM,<-pP,<-e]
 rw[this,QD back h,bM,bM,iP]
 omega
structure LS (H0 H:Hp) (as:List aA) (back:List (List Nat)):Prop where
 sm:zw H0 H
 len:as.length=back.length
 ls:∀(i:Nat) a,as[i]?=some a->H a=some (.lst (zP (back.getD i [])))/\H0 a=none
 nd:as.Nodup
structure BO (H0 H:Hp) (b:aA) (as:List aA) (back:List (List Nat)):Prop where
 l:LS H0 H as back
 bb:H b=some (.lst (as.map V.ref))
 b0:H0 b=none
 nb:b∉as
section
variable {H0 H H':Hp} {b a:aA} {as:List aA} {back:List (List Nat)}
theorem LS.grow(r:LS H0 H as back)(s:zw H H'):LS H0 H' as back:=⟨r.sm.trans s,r.len,λi a h=>⟨s _ _ (r.ls i a h).1,(r.ls i a h).2⟩,r.nd⟩
theorem BO.grow(r:BO H0 H b as back)(s:zw H H'):BO H0 H' b as back:=⟨r.l.grow s,s _ _ r.bb,r.b0,r.nb⟩
theorem LS.nil:LS H H [] []:=⟨zw.refl _,rfl,λi a h=>by simp at h,by simp⟩
theorem LS.snoc(r:LS H0 H as back)(ha:H a=none):LS H0 (upd H a (.lst [])) (as++[a]) (back++[[]]):=by
 have ne:∀{c o},H c=some o->c≠a:=λh=>zt h ha
 refine⟨r.sm.trans (zK ha _),by rw[bM,bM,r.len];rfl,λi c h=>?_,?_⟩
 ·rw[Hop.xr]
  by_cases hi:i<as.length
  ·rw[dF hi]at h
   obtain⟨h1,h2⟩:=r.ls i c h
   rw[ze (ne h1),if_pos (by rw[<-r.len];exact hi)]
   exact⟨h1,h2⟩
  ·rw[fF (by omega)]at h
   have e:i-as.length=0:=by
    have:=(bE.mp h).1
    simp at this;omega
   rw[e]at h
   have:a=c:=by simpa using h
   subst this
   rw[zk,if_neg (by rw[<-r.len];exact hi),if_pos (by rw[<-r.len];omega)]
   exact⟨rfl,r.sm.free ha⟩
 ·rw[dZ]
  refine⟨r.nd,by simp,λc hc e he z=>?_⟩
  have he':e=a:=by simpa using he
  subst he';subst z
  obtain⟨i,hi⟩:=eW hc
  rw[(r.ls i _ hi).1]at ha;cases ha
theorem LS.close(r:LS H0 H as back)(j:H b=none):BO H0 (upd H b (.lst (as.map V.ref))) b as back :=
 ⟨r.grow (zK j _),zk,r.sm.free j,λz=>by
  obtain⟨i,hi⟩:=eW z
  rw[(r.ls i _ hi).1]at j;cases j⟩
theorem BO.put(r:BO H0 H b as back){i:Nat}(h:as[i]?=some a)(l:List Nat):BO H0 (upd H a (.lst (zP l))) b as (back.set i l):=by
 obtain⟨h1,h2⟩:=r.l.ls i a h
 have hib:i<back.length:=by rw[<-r.l.len];exact(bE.mp h).1
 have nba:b≠a:=λz=>r.nb (by rw[z];exact cE h)
 refine⟨⟨yI r.l.sm h2 _,by rw[cQ];exact r.l.len,λj c hc=>?_,r.l.nd⟩,by rw[ze nba];exact r.bb,r.b0,r.nb⟩
 rw[Hop.wY]
 by_cases e:i=j
 ·subst e
  rw[h]at hc;cases hc
  rw[zk,if_pos ⟨rfl,hib⟩]
  exact⟨rfl,h2⟩
 ·have ne:c≠a:=λz=>by
   subst z
   obtain⟨a1,a2⟩:=bE.mp h
   obtain⟨b1,b2⟩:=bE.mp hc
   exact e ((gZ r.l.nd).mp (a2.trans b2.symm))
  rw[ze ne,if_neg λz=>e z.1]
  exact r.l.ls j c hc
theorem BO.bk(r:BO H0 H b as back):BkR H b back as:=⟨r.bb,r.l.len,λi a h=>(r.l.ls i a h).1⟩
theorem zgn{K:aE}{I:aA}{rs:List V}{Fin:List V->Hp->Prop}(O:H I=some (.tup rs))(U:rs.length<=aH)(h:∀as H',LS H H' as (aZ rs.length [])->Fin (as.map V.ref) H'):
  Vc (Itt K I) (vm 0) Z1 (zjv Yu) [none] H Fin:=by
 refine⟨λi m ys H1=>m=rs.length-i/\i<=rs.length/\∃as,ys=as.map V.ref/\LS H H1 as (aZ i []),⟨rs.length,by simp,dJ _,[],rfl,LS.nil⟩,?_⟩
 rintro i m ys H1 ⟨rfl,hi,as,rfl,l⟩
 have Y:as.length=i:=by rw[l.len,nY]
 refine⟨by rw[aN];omega,?_⟩
 have J:SqT K H1 I rs:=SqT.of (l.sm _ _ O)
 by_cases q:i<rs.length
 ·refine .inr ⟨⟨rs,rs[i],J,by simp[q]⟩,λx H' y=>?_⟩
  obtain⟨rfl,y⟩:=y
  refine⟨⟨rfl,λj v z=>?_⟩,(show _/\_ from⟨by decide,λp R=>⟨by rw[aN];omega,rs.length-(i+1),by omega,rfl,q,as++[p],by simp,?_⟩⟩)⟩
  ·match j,z with
   | 0,z=>simp at z
   | j+1,z=>simp at z
  ·have:=l.snoc R
   rw[show aZ i ([]:List Nat)++[[]]=aZ (i+1) []from(List.replicate_succ').symm]at this
   exact this
 ·have e:i=rs.length:=by omega
  subst e
  exact .inl ⟨⟨rs,J,aP _⟩,h as H1 l⟩
end
def bk(rows:List (List Nat))(a i:Nat):List (List Nat):=(aF rows.length).map λg=>(aF i).filter λs=>decide ((rows.getD s []).getD a 0=g)
theorem ziE(rows:List (List Nat))(a:Nat):bk rows a 0=aZ rows.length []:=by
 unfold bk
 rw[show(λg=>(aF 0).filter λs=>decide ((rows.getD s []).getD a 0=g))=λ(_:Nat)=>([]:List Nat)from rfl,pQ,cY]
theorem VD(j:g<rows.length):(bk rows a i).getD g []=(aF i).filter λs=>decide ((rows.getD s []).getD a 0=g):=by
 unfold bk
 rw[aX,aY,fP j];rfl
theorem ziF(I:(rows.getD i []).getD a 0<rows.length):bk rows a (i+1)=(bk rows a i).set ((rows.getD i []).getD a 0) ((bk rows a i).getD ((rows.getD i []).getD a 0) []++[i]):=by
 rw[VD I]
 apply pO
 intro j
 rw[mS]
 unfold bk
 rw[aY,aY,aN,cY]
 by_cases q:j<rows.length
 ·rw[fP q,eL,lx,mX]
  by_cases e:(rows.getD i []).getD a 0=j
  ·subst e
   rw[if_pos rfl,if_pos I]
   congr 2
   simp
  ·rw[if_neg e,eL]
   congr 1
   have:(List.filter (λs=>decide ((rows.getD s []).getD a 0=j)) [i])=[]:=by
    rw[List.filter_cons_of_neg (by simpa using e)];rfl
   rw[this,gB]
 ·rw[mT (by simpa using q)]
  rw[if_neg λz=>q (by omega)];rfl
theorem ziG(h:∀s,s<rows.length->(rows.getD s []).getD a 0<rows.length):Hop.Back rows.length (λs=>(rows.getD s []).getD a 0) (bk rows a rows.length):=by
 refine⟨λg=>?_,λg s=>?_⟩
 ·by_cases j:g<rows.length
  ·rw[VD j]
   exact mZ.filter _
  ·rw[Hop.Uw (by unfold bk;simp;omega)];simp
 ·by_cases j:g<rows.length
  ·rw[VD j,fU,bR]
   simp
  ·rw[Hop.Uw (by unfold bk;simp;omega)]
   constructor
   ·intro z;cases z
   ·rintro⟨h1,h2⟩
    have:=h s h1
    have q:(rows.getD s []).getD a 0=g:=h2
    omega
end Pt
namespace Hop
section
variable {n A:Nat} {δ:Nat->Nat->Nat} {Df:Nat->Nat->Prop}
structure Good (n:Nat) (st:HS):Prop where
 ok:Ok n st
 full:J5 st
theorem Good.parts(g:Good n st):st.parts.length<=n+2:=J8 g.ok g.full
theorem Good.wait(g:Good n st):st.waiting.length<=n+2:=by
 have:=yH (m:=aF st.parts.length) g.ok.wnd λp j=>bR.mpr (g.ok.wlt p j)
 rw[cY]at this
 have:=g.parts
 omega
theorem zad{G:Nat->Prop}(ok:Ok n st)(I:Prec n G st ((p,l)::r)):Cut n st p l/\l≠[]:=by
 obtain⟨z,j,q,J⟩:=I.ls p l bN
 exact⟨⟨z,j,λs O=>by
  obtain⟨h1,_,R⟩:=(J s).mp O
  exact(ok.mem p s).mpr ⟨h1,R,z⟩⟩,q⟩
theorem zeW{G:Nat->Prop}(g:Good n st)(I:Prec n G st ((p,l)::r)):Good n (yG st p l)/\Prec n G (yG st p l) r:=by
 obtain⟨c,J⟩:=zad g.ok I
 obtain⟨_,_,_,U⟩:=I.ls p l bN
 obtain⟨r1,_⟩:=zb9 (A:=0) (δ:=λ_ s=>s) (Df:=λ_ _=>True) (λa s h=>absurd h (mU _)) g.ok c J λ_ _ _ _ _ _=>⟨trivial,trivial⟩
 have j:=I.nd
 rw[bI,dO]at j
 refine⟨⟨r1.ok,r1.full g.full⟩,j.2,λq m R=>?_⟩
 obtain⟨g1,g2,g3,Y⟩:=I.ls q m (bO _ R)
 have O:q≠p:=λz=>j.1 (bA.mpr ⟨_,R,z⟩)
 refine⟨cI g1 r1.two,g2,g3,λs=>?_⟩
 rw[Y s]
 by_cases h:l.length=(st.parts.getD p []).length
 ·rw[Vz h]
 ·have o:=J4 g.ok c h
  rw[o.po]
  constructor
  ·rintro⟨x,y,z⟩
   have:s∉l:=λw=>O (by rw[<-z,((U s).mp w).2.2])
   exact⟨x,y,by rw[if_neg this];exact z⟩
  ·rintro⟨x,y,z⟩
   by_cases w:s∈l
   ·rw[if_pos w]at z;omega
   ·rw[if_neg w]at z;exact⟨x,y,z⟩
theorem zgo{G:Nat->Prop}:∀(fs:List (Nat×List Nat)) (st:HS),Good n st->Prec n G st fs->(∀(j p:Nat) (l:List Nat),fs[j]?=some (p,l)->Good n (w6 st (fs.take j))/\Cut n (w6 st (fs.take j)) p l)/\Good n (w6 st fs)
 | [],st,g,_=>⟨λj p l h=>by simp at h,g⟩
 | (q,m)::r,st,g,z=>by
  obtain⟨g1,I⟩:=zeW g z
  obtain⟨a,b⟩:=zgo r (yG st q m) g1 I
  refine⟨λj p l h=>?_,b⟩
  cases j with
  | zero=>
   have:(q,m)=(p,l):=by simpa using h
   cases this
   exact⟨g,(zad g.ok z).1⟩
  | succ j=>exact a j p l (by simpa using h)
theorem zby(st:HS){fs:List (Nat×List Nat)}{j:Nat}{e:Nat×List Nat}(h:fs[j]?=some e):w6 st (fs.take (j+1))=yG (w6 st (fs.take j)) e.1 e.2:=by
 rw[lu,h]
 unfold w6
 rw[iX];rfl
theorem QE(b:Back n d back)(q:goals.Nodup)(ok:Ok n st):Prec n (λs=>d s∈goals) st (v7 goals back st.partOf):=by
 have f:=zb8 (partOf:=st.partOf) b q
 refine⟨f.nd,λp l z=>?_⟩
 obtain⟨h1,h2,I⟩:=f.ls p l z
 have j:∀s,s∈l↔s<n/\d s∈goals/\st.partOf.getD s 0=p:=λs=>by
  rw[I s,ul b s,and_assoc]
 refine⟨?_,h1,h2,j⟩
 cases l with
 | nil=>exact absurd rfl h2
 | cons x r=>
  obtain⟨J,_,O⟩:=(j x).mp bN
  rw[<-O];exact ok.lt x J
theorem zc9(b:Back n d back)(j:goals.Nodup)(g:Good n st):Good n (wq goals st back):=(zgo _ st g (QE b j g.ok)).2
theorem QF{δ:Nat->Nat->Nat}{goals:List Nat}(j:goals.Nodup):∀(bs:List (List (List Nat))) (st:HS),(∀b∈bs,∃d,Back n d b)->Good n st->∀i,Good n ((bs.take i).foldl (wq goals) st)
 | [],st,_,g,i=>by rw[List.take_nil];exact g
 | b::r,st,h,g,0=>g
 | b::r,st,h,g,i+1=>by
  obtain⟨d,q⟩:=h b bN
  exact QF (δ:=δ) j r _ (λc z=>h c (bO _ z)) (zc9 q j g) i
theorem zeX(j:List Nat)(st:HS){bs:List (List (List Nat))}{i:Nat}{b:List (List Nat)}(h:bs[i]?=some b):(bs.take (i+1)).foldl (wq j) st=wq j ((bs.take i).foldl (wq j) st) b:=by
 rw[lu,h,iX];rfl
theorem zeY(g:Good n st)(h:st.waiting.getLast?=some p):Good n (take st p):=⟨(Ux g.ok h).1,g.full⟩
theorem zae(good:List Bool):Ok good.length (start good):=by
 have j:∀s,s<good.length->(start good).partOf.getD s 0=if good.getD s false then 1 else 0:=λs z=>by
  show(good.map λb=>if b then 1 else 0).getD s 0=_
  simp[fR,z]
 refine⟨by simp[start],λs z=>?_,λp=>?_,λp s=>?_,rfl,λp q=>?_,λp q=>?_,?_⟩
 ·rw[j s z]
  show _<2
  split <;>omega
 ·match p with
  | 0=>exact mZ.filter _
  | 1=>exact mZ.filter _
  | p+2=>simp[start]
 ·have O:(start good).parts.length=2:=rfl
  rw[O]
  match p with
  | 0=>
   show s∈(aF good.length).filter (λs=>!good.getD s false)↔_
   rw[fU,bR]
   constructor
   ·rintro⟨h1,h2⟩
    have I:good.getD s false=false:=by simpa using h2
    exact⟨h1,by rw[j s h1,I];rfl,by omega⟩
   ·rintro⟨h1,h2,_⟩
    rw[j s h1]at h2
    refine⟨h1,?_⟩
    cases e:good.getD s false with
    | true=>rw[e]at h2;simp at h2
    | false=>rfl
  | 1=>
   show s∈(aF good.length).filter (λs=>good.getD s false)↔_
   rw[fU,bR]
   constructor
   ·rintro⟨h1,h2⟩
    exact⟨h1,by rw[j s h1,h2];rfl,by omega⟩
   ·rintro⟨h1,h2,_⟩
    rw[j s h1]at h2
    refine⟨h1,?_⟩
    cases e:good.getD s false with
    | true=>rfl
    | false=>rw[e]at h2;simp at h2
  | p+2=>
   constructor
   ·intro h;simp[start]at h
   ·rintro⟨_,_,h⟩;omega
 ·match p,q with
  | 0,_=>simp[start]
  | 1,_=>simp[start]
  | p+2,q=>exact absurd q (by show ¬p+2<2;omega)
 ·have J:p∈[0,1]:=q
  show p<2
  simp at J
  omega
 ·show [0,1].Nodup
  simp
theorem zda(good:List Bool):Good good.length (start good):=⟨zae good,λp h2 j=>absurd j (by show ¬p<2;omega)⟩
theorem QG(J:∀a s,a<A->s<good.length->δ a s<good.length)(O:∀s t,s<good.length->t<good.length->good.getD s false≠good.getD t false->Df s t):Inv good.length A δ Df (start good):=by
 have q:∀s,s<good.length->(start good).partOf.getD s 0=if good.getD s false then 1 else 0:=λs j=>by
  show(good.map λb=>if b then 1 else 0).getD s 0=_
  simp[fR,j]
 refine⟨zae good,λa R s t j I _ _=>.inl ?_,λs t j I ne=>O s t j I λz=>ne ?_,(zda good).full⟩
 ·rw[q _ (J a s R j)]
  show _∈[0,1]
  split <;>simp
 ·rw[q s j,q t I,z]
def yp(δ:Nat->Nat->Nat)(s:Nat)(w:List Nat):Nat:=w.foldl (λs a=>δ a s) s
def zdb(A:Nat)(δ:Nat->Nat->Nat)(good:List Bool)(s t:Nat):Prop:=∃w:List Nat,(∀a∈w,a<A)/\good.getD (yp δ s w) false≠good.getD (yp δ t w) false
def xi(bs:List (List (List Nat)))(good:List Bool):List Nat:=(run bs (good.length+2) (start good)).partOf
theorem Xm(R:∀a s,a<A->s<good.length->δ a s<good.length)(Z:bs.length=A)(I:∀i,i<A->Back good.length (δ i) (bs.getD i [])):
  (xi bs good).length=good.length/\∀s t,s<good.length->t<good.length->((xi bs good).getD s 0=(xi bs good).getD t 0↔¬zdb A δ good s t):=by
 have iv:=QG (A:=A) (δ:=δ) (Df:=zdb A δ good) R λs t _ _ h=>⟨[],by simp,h⟩
 obtain⟨i1,U,f1⟩:=zca (Df:=zdb A δ good) R (λa s t O _ _ ⟨w,J,h⟩=>⟨a::w,λb I=>by
  rcases aU.mp I with rfl|I
  ·exact O
  ·exact J b I,h⟩) Z I (good.length+2) (start good) iv (by show _+2<=_+2;omega)
 refine⟨i1.ok.len,λs t j q=>⟨λe=>?_,λh=>m3 λz=>h (i1.dist s t j q z)⟩⟩
 rintro⟨w,J,h⟩
 have key:∀(w:List Nat) (s t:Nat),(∀a∈w,a<A)->s<good.length->t<good.length->(xi bs good).getD s 0=(xi bs good).getD t 0->good.getD (yp δ s w) false=good.getD (yp δ t w) false:=by
  intro w
  induction w with
  | nil=>
   intro s t _ j q e
   have:=f1 s t j q e
   have Y:∀s,s<good.length->(start good).partOf.getD s 0=if good.getD s false then 1 else 0:=λs j=>by
    show(good.map λb=>if b then 1 else 0).getD s 0=_
    simp[fR,j]
   rw[Y s j,Y t q]at this
   show good.getD s false=good.getD t false
   cases e1:good.getD s false <;>cases e2:good.getD t false <;>rw[e1,e2]at this <;>simp at this <;>rfl
  | cons a w ih=>
   intro s t J j q e
   have O:=J a bN
   refine ih (δ a s) (δ a t) (λb I=>J b (bO _ I)) (R a s O j) (R a t O q) ?_
   by_cases z:(xi bs good).getD (δ a s) 0=(xi bs good).getD (δ a t) 0
   ·exact z
   ·rcases i1.stab a O s t j q e z with y|y|y
    ·rw[U]at y;cases y
    ·rw[U]at y;cases y
    ·exact absurd y id
 exact h (key w s t J j q e)
end
end Hop
namespace Pt
open PySem PySem.Spec L2 DD
open PyProof.Rows hiding St
open Hop (HS)
section
variable {C:aA} {H0 H H':Hp} {x:aA} {st:HS} {g:Ads}
theorem Rep.grow(r:Rep C H0 H x st g)(s:zw H H'):∃H1,zw H0 H1/\Rep C H1 H' x st g/\∀b u,H b=none->H' b=some u->H1 b=some u:=by
 classical
 refine⟨λb=>if H b=none then H' b else H0 b,λb u q=>?_,?_,λb u h1 h2=>by show(if H b=none then H' b else H0 b)=some u;rw[if_pos h1];exact h2⟩
 ·show(if H b=none then H' b else H0 b)=some u
  rw[if_neg (by rw[r.sm b u q];simp)];exact q
 have fr:∀{b:aA} {o:HO},H b=some o->H0 b=none->(if H b=none then H' b else H0 b)=none:=λh1 h2=>by rw[if_neg (by rw[h1];simp)];exact h2
 refine⟨λb u q=>?_,s _ _ r.ins,s _ _ r.po,s _ _ r.pl,s _ _ r.wg,s _ _ r.ws,r.len,λi d h=>s _ _ (r.ds i d h),r.nd,r.n1,r.n2,r.n3,r.n4,r.n5,r.n6,fr r.ins r.f0,fr r.po r.f1,fr r.pl r.f2,fr r.wg r.f3,fr r.ws r.f4,λd hd=>?_⟩
 ·have q':(if H b=none then H' b else H0 b)=some u:=q
  by_cases h:H b=none
  ·rw[if_pos h]at q';exact q'
  ·rw[if_neg h]at q';exact s _ _ (r.sm b u q')
 ·obtain⟨i,hi⟩:=eW hd
  exact fr (r.ds i d hi) (r.f5 d hd)
theorem Rep.over(r:Rep C H0 H x st g)(q:H0 d=some I)(o:HO):Rep C (upd H0 d o) (upd H d o) x st g:=by
 have ne:∀{b:aA},H0 b=none->b≠d:=λh z=>by rw[z,q]at h;cases h
 refine⟨Y9 r.sm o,?_,?_,?_,?_,?_,r.len,λi e h=>?_,r.nd,r.n1,r.n2,r.n3,r.n4,r.n5,r.n6,?_,?_,?_,?_,?_,λe j=>?_⟩
 ·rw[ze (ne r.f0)];exact r.ins
 ·rw[ze (ne r.f1)];exact r.po
 ·rw[ze (ne r.f2)];exact r.pl
 ·rw[ze (ne r.f3)];exact r.wg
 ·rw[ze (ne r.f4)];exact r.ws
 ·rw[ze (ne (r.f5 e (cE h)))];exact r.ds i e h
 ·rw[ze (ne r.f0)];exact r.f0
 ·rw[ze (ne r.f1)];exact r.f1
 ·rw[ze (ne r.f2)];exact r.f2
 ·rw[ze (ne r.f3)];exact r.f3
 ·rw[ze (ne r.f4)];exact r.f4
 ·rw[ze (ne (r.f5 e j))];exact r.f5 e j
end
def bks(rows:List (List Nat))(A:Nat):List (List (List Nat)):=(aF A).map λa=>bk rows a rows.length
theorem Uz(h:i<A):(bks rows A)[i]?=some (bk rows i rows.length):=by
 unfold bks
 rw[aY,fP h];rfl
theorem UA(rows:List (List Nat))(A:Nat):(bks rows A).length=A:=by unfold bks;simp
structure BsR (H:Hp) (rows:List (List Nat)) (bs:List aA):Prop where
 ls:∀(i:Nat) b,bs[i]?=some b->∃as,BkR H b (bk rows i rows.length) as
theorem BsR.mono(r:BsR H rows bs)(s:zw H H'):BsR H' rows bs:=⟨λi b h=>let ⟨as,q⟩:=r.ls i b h;⟨as,q.mono s⟩⟩
theorem BsR.snoc(r:BsR H rows bs)(q:BkR H b (bk rows bs.length rows.length) as):BsR H rows (bs++[b]):=⟨λi c h=>by
 by_cases hi:i<bs.length
 ·rw[dF hi]at h;exact r.ls i c h
 ·rw[fF (by omega)]at h
  have e:i-bs.length=0:=by
   have:=(bE.mp h).1
   simp at this;omega
  rw[e]at h
  have:b=c:=by simpa using h
  subst this
  have:i=bs.length:=by omega
  subst this
  exact⟨as,q⟩⟩
structure Rows (rows:List (List Nat)) (A:Nat):Prop where
 len:∀s,s<rows.length->A<=(rows.getD s []).length
 lt:∀s a,s<rows.length->a<A->(rows.getD s []).getD a 0<rows.length
theorem Rows.back(r:Rows rows A)(h:a<A):Hop.Back rows.length (λs=>(rows.getD s []).getD a 0) (bk rows a rows.length):=ziG λs j=>r.lt s a j h
def uG:List D->Option (List Nat)
 | []=>some []
 | .int i::r=>if 0<=i then(uG r).map λl=>i.toNat::l else none
 | _::_=>none
def wy:List D->Option (List (List Nat))
 | []=>some []
 | .tup xs::r=>(uG xs).bind λl=>(wy r).map λm=>l::m
 | _::_=>none
def xt:List D->Option (List Bool)
 | []=>some []
 | .bl b::r=>(xt r).map λl=>b::l
 | _::_=>none
def u0(rows:List (List Nat))(A:Nat):Bool:=rows.all λr=>decide (A<=r.length) && (r.take A).all λg=>decide (g<rows.length)
theorem zdc(h:u0 rows A=true):Rows rows A:=by
 unfold u0 at h
 rw[dG]at h
 have key:∀s,s<rows.length->A<=(rows.getD s []).length/\∀g∈(rows.getD s []).take A,g<rows.length:=λs j=>by
  have q:rows.getD s []∈rows:=cE (getD_some j)
  have:=h _ q
  rw[dY,decide_eq_true_eq,dG]at this
  exact⟨this.1,λg z=>by simpa using this.2 g z⟩
 refine⟨λs j=>(key s j).1,λs a j I=>?_⟩
 obtain⟨h1,h2⟩:=key s j
 refine h2 _ (cE (i:=a) ?_)
 rw[pR,if_pos I]
 exact getD_some (by omega)
def Yf:List D->Option D:=λds=>match ds with
 | [.int a,.tup r,.lst g]=>(wy r).bind λrows=>(xt g).bind λgood=>
  if 0<=a/\u0 rows a.toNat=true/\good.length=rows.length/\rows.length+3<aH/\a.toNat<aH then some (.lst ((Hop.xi (bks rows a.toNat) good).map λ(n:Nat)=>D.int (n:Int)))else none
 | _=>none
section
variable {K:aE} {F H H':Hp}
theorem zcc:∀{xs:List D} {l:List Nat} {us:List V},uG xs=some l->Are K F xs us->us=zP l
 | [],l,us,h,a=>by cases h;exact a.inv0
 | d::r,l,us,h,a=>by
  obtain⟨v,q,rfl,h1,h2⟩:=a.inv
  cases d with
  | int i=>
   unfold uG at h
   by_cases hi:0<=i
   ·rw[if_pos hi]at h
    obtain⟨m,j,rfl⟩:=eV.mp h
    simp only[Is]at h1
    rw[zcc j h2,h1]
    show _=V.int ((i.toNat:Nat):Int)::zP m
    rw[lh hi]
   ·rw[if_neg hi]at h;cases h
  | _=>cases h
theorem XU:∀{xs:List D} {rows:List (List Nat)} {us:List V},wy xs=some rows->Are K F xs us->∃rs:List aA,us=rs.map V.ref/\rs.length=rows.length/\∀(i:Nat) a,rs[i]?=some a->F a=some (.tup (zP (rows.getD i [])))
 | [],l,us,h,a=>by cases h;exact⟨[],a.inv0,rfl,λi a h=>by simp at h⟩
 | d::r,l,us,h,a=>by
  obtain⟨v,q,rfl,h1,h2⟩:=a.inv
  cases d with
  | tup xs=>
   unfold wy at h
   obtain⟨Y,I,h⟩:=eA.mp h
   obtain⟨m,J,rfl⟩:=eV.mp h
   simp only[Is]at h1
   obtain⟨b,ws,rfl,j,O⟩:=h1
   obtain⟨rs,rfl,R,U⟩:=XU J h2
   refine⟨b::rs,rfl,by simp[R],λi c z=>?_⟩
   cases i with
   | zero=>
    have:b=c:=by simpa using z
    subst this
    rw[zcc I O]at j
    exact j
   | succ i=>exact U i c (by simpa using z)
  | _=>cases h
theorem YE:∀{xs:List D} {l:List Bool} {us:List V},xt xs=some l->Are K F xs us->us=l.map V.bl
 | [],l,us,h,a=>by cases h;exact a.inv0
 | d::r,l,us,h,a=>by
  obtain⟨v,q,rfl,h1,h2⟩:=a.inv
  cases d with
  | bl b=>
   unfold xt at h
   obtain⟨m,j,rfl⟩:=eV.mp h
   simp only[Is]at h1
   rw[YE j h2,h1];rfl
  | _=>cases h
theorem WK:∀l:List Nat,Are K F (l.map λ(n:Nat)=>D.int (n:Int)) (zP l)
 | []=>.nil
 | a::r=>.cons (by simp[Is]) (WK r)
theorem ziH(J:zw F H)(s:zw H H')(O:H j=none)(I:H' j=some o):Ext F H (upd F j o) H' :=
 ⟨zK (J.free O) o,s,λb u q=>by
  by_cases z:b=j
  ·subst z;rw[zk]at q;rw[I,q]
  ·rw[ze z]at q;exact s _ _ (J _ _ q),λb h1 h2=>by
  by_cases z:b=j
  ·subst z;exact O
  ·rw[ze z]at h2;exact absurd h1 h2⟩
end
end Pt
namespace DD
open PySem PySem.Spec L2
open PyProof.Rows hiding St
section
variable {X:Cx} {a b c:aG} {f g h:G->Option B} {pos:aR}
end
end DD
namespace L2
open PySem PySem.Spec PyProof.Rows
section
variable {X:Cx}
theorem zaf:wo X (.type "int") (λxs H Q=>∃x n,xs=[.str x]/\jT x=some n/\x.length<=640/\Q (.int n) H):=by
 intro pins s σ H xs us Q I r h
 obtain⟨x,n,rfl,j,z,q⟩:=h
 obtain⟨u,rfl,t,rfl⟩:=uR r
 exact rf j z ⟨.int n,H,I.tok _,⟨_,rfl⟩,q⟩
end
end L2
namespace DD
open PySem PySem.Spec L2
open PyProof.Rows hiding St
section
variable {X:Cx} {K:aE} {e a b tg iter:aG} {f g:G->Option B} {pos:aR}
def znL:B->Option Int->Option Int->Option D
 | .d (.str z),lo,hi=>if z.length<=aH then some (.str (Txt.slice z lo hi))else none
 | _,_,_=>none
def znp:List B->Option D
 | [.d (.str z)]=>if z.length<=aH then some (.int z.length)else none
 | _=>none
def XV:List B->Option D
 | [.d (.bl k)]=>some (.int (if k then 1 else 0))
 | [.d (.str x)]=>if x.length<=640 then(jT x).map D.int else none
 | _=>none
theorem QH:wo X (.type "int") (λxs H Q=>((∃i,xs=[.int i]/\Q (.int i) H)\/∃k,xs=[.bl k]/\Q (.int (if k then 1 else 0)) H)\/∃x n,xs=[.str x]/\jT x=some n/\x.length<=640/\Q (.int n) H):=zet.or zaf
theorem zcd:Zx K (λxs H Q=>((∃i,xs=[.int i]/\Q (.int i) H)\/∃k,xs=[.bl k]/\Q (.int (if k then 1 else 0)) H)\/∃x n,xs=[.str x]/\jT x=some n/\x.length<=640/\Q (.int n) H) XV:=λF H bs vs d Q s h e q=>by
 match bs,e,h with
 | [.d (.bl k)],e,h=>
  cases e
  obtain⟨v,rfl,I⟩:=v0 h
  have j:Is K F (.bl k) v:=I
  simp only[Is]at j
  exact .inl (.inr ⟨k,by rw[j],q _ F H (.refl s) wO⟩)
 | [.d (.str x)],e,h=>
  have z:(if x.length<=640 then(jT x).map D.int else none)=some d:=e
  by_cases J:x.length<=640
  ·rw[if_pos J]at z
   obtain⟨n,O,rfl⟩:=map_some z
   obtain⟨v,rfl,I⟩:=v0 h
   have j:Is K F (.str x) v:=I
   simp only[Is]at j
   exact .inr ⟨x,n,by rw[j],O,J,q _ F H (.refl s) wO⟩
  ·rw[if_neg J]at z;cases z
end
end DD
namespace DD
open PySem L2
open PySem.SeqAt (shaped)
section
variable {Γ:G}
@[simp] theorem Zn {i}:za i Γ=Γ[i]?.bind S.look:=id rfl
@[simp] theorem zmI {d}:S.look (.v d)=some (.d d):=id rfl
@[simp] theorem Xn {d}:S.look (.ol d)=some (.l d):=id rfl
@[simp] theorem zmb {d}:S.look (.ot d)=some (.t d):=id rfl
@[simp] theorem zmc {d}:S.look (.ok d)=some (.k d):=id rfl
@[simp] theorem zdd {d}:xC d Γ=some (.d d):=id rfl
def ap2(m:B->B->Option D):Option B->Option B->Option B
 | some x,some y=>(m x y).map B.d
 | _,_=>none
@[simp] theorem vP {m x y}:ap2 m (some x) (some y)=(m x y).map B.d:=id rfl
@[simp] theorem vQ {m f g}:x2 m f g Γ=ap2 m (f Γ) (g Γ):=by unfold x2 ap2;cases f Γ <;>cases g Γ <;>rfl
@[simp] theorem znq {b}:B.tst (.d (.bl b))=some b:=id rfl
def zde:Option B->Option Bool:=λo=>o.bind B.tst
@[simp] theorem zmd {b}:zde (some (.d (.bl b)))=some b:=id rfl
@[simp] theorem zjY {f}:xT f Γ=zde (f Γ):=id rfl
def orO(o:Option Bool)(g:G->Option Bool)(Γ:G):Option Bool:=o.bind λx=>if x=true then some true else g Γ
@[simp] theorem znr {g}:orO (some false) g Γ=g Γ:=id rfl
@[simp] theorem zns {f g}:xOr f g Γ=orO (f Γ) g Γ:=id rfl
@[simp] theorem zm2 {f}:va f Γ=(f Γ).map (!·):=id rfl
def zjZ(o:Option Bool)(g:G->Option B)(Γ:G):Option B:=o.bind λx=>if x=true then g Γ else some (.d (.bl false))
@[simp] theorem zm3 {g}:zjZ (some true) g Γ=g Γ:=id rfl
@[simp] theorem zmW {f g}:Yw f g Γ=zjZ (zde (f Γ)) g Γ:=id rfl
def ifV(o:Option Bool)(f g:G->Option B)(Γ:G):Option B:=o.bind λx=>if x=true then f Γ else g Γ
@[simp] theorem znt {f g}:ifV (some true) f g Γ=f Γ:=id rfl
@[simp] theorem znu {f g}:ifV (some false) f g Γ=g Γ:=id rfl
@[simp] theorem znv {t f g}:xIf t f g Γ=ifV (t Γ) f g Γ:=id rfl
def ch3(m j:B->B->Option D)(h:G->Option B)(Γ:G):Option B->Option B->Option B
 | some x,some y=>((m x y).bind λz=>B.tst (.d z)).bind λk=>if k=true then ap2 j (some y) (h Γ)else some (.d (.bl false))
 | _,_=>none
@[simp] theorem znM {m j f g h}:x3 m j f g h Γ=ch3 m j h Γ (f Γ) (g Γ):=by
 unfold x3 ch3
 cases f Γ with
 | none=>rfl
 | some x=>
  cases g Γ with
  | none=>rfl
  | some y=>
   simp only[bH]
   congr 1;funext k
   cases h Γ <;>rfl
@[simp] theorem zag:zg Γ=some []:=id rfl
def vJ:Option B->Option (List B)->Option (List B)
 | some x,some xs=>some (x::xs)
 | _,_=>none
@[simp] theorem VE {x xs}:vJ (some x) (some xs)=some (x::xs):=id rfl
@[simp] theorem yJ {f fs}:zc f fs Γ=vJ (f Γ) (fs Γ):=by unfold zc vJ;cases f Γ <;>cases fs Γ <;>rfl
@[simp] theorem Jl {d}:B.asD (.d d)=some d:=id rfl
@[simp] theorem ziI:Ze []=some []:=id rfl
@[simp] theorem zj0 {d r}:Ze (.d d::r)=(Ze r).map (d::·):=id rfl
def zgp(o:Option (List D)):Option B:=o.bind λds=>if ds.length<=aH then some (.d (.tup ds))else none
@[simp] theorem zme {ds}:zgp (some ds)=if ds.length<=aH then some (.d (.tup ds))else none:=id rfl
def dsO(o:Option (List B)):Option (List D):=o.bind Ze
@[simp] theorem zgq {bs}:dsO (some bs)=Ze bs:=id rfl
@[simp] theorem zah {fs}:yQ fs Γ=zgp (dsO (fs Γ)):=id rfl
@[simp] theorem uM {f}:xL f Γ=(f Γ).map λds=>.d (.lst ds):=id rfl
def zj1(o:Option (List D)):Option (List D):=o.bind λds=>if ds.length<=aH then some ds else none
@[simp] theorem zmf {ds}:zj1 (some ds)=if ds.length<=aH then some ds else none:=id rfl
@[simp] theorem zj2 {fs}:xJ fs Γ=zj1 (dsO (fs Γ)):=id rfl
def VF(m:List B->Option D)(o:Option (List B)):Option B:=o.bind λbs=>(m bs).map B.d
@[simp] theorem zlo {m bs}:VF m (some bs)=(m bs).map B.d:=id rfl
@[simp] theorem Yg {m fs}:zG m fs Γ=VF m (fs Γ):=id rfl
def fnO(m:List D->Option D)(o:Option (List D)):Option B:=o.bind λbs=>(m bs).map B.d
@[simp] theorem Zo {m ds}:fnO m (some ds)=(m ds).map B.d:=id rfl
@[simp] theorem XW {m fs}:xFn m fs Γ=fnO m (dsO (fs Γ)):=id rfl
@[simp] theorem znw {c}:xTy c Γ=some (.ty c):=id rfl
@[simp] theorem znN {c}:xG c Γ=some (.c c):=id rfl
def zj3(o:Option B):Option B:=o.bind λb=>b.int.map λi=>.d (.int (-i))
@[simp] theorem Xo {i}:zj3 (some (.d (.int i)))=some (.d (.int (-i))):=id rfl
@[simp] theorem zai {f}:vy f Γ=zj3 (f Γ):=id rfl
@[simp] theorem zlp {i}:B.int (.d (.int i))=some i:=id rfl
def zgr(o:Option B):Option (List D):=o.bind B.fix
@[simp] theorem zmJ {ds}:zgr (some (.d (.tup ds)))=some ds:=id rfl
@[simp] theorem zmK {ds}:zgr (some (.d (.lst ds)))=some ds:=id rfl
@[simp] theorem VG {f}:yt f Γ=zgr (f Γ):=id rfl
@[simp] theorem zmX:yr Γ=some (.nx Γ):=id rfl
def uU(o:Option Out)(g:G->Option Out):Option Out:=o.bind λo=>match o with
 | .nx j=>g j
 | o=>some o
@[simp] theorem yc {g j}:uU (some (.nx j)) g=g j:=id rfl
@[simp] theorem zmL {g d}:uU (some (.rt d)) g=some (.rt d):=id rfl
@[simp] theorem ye {f g}:zu f g Γ=uU (f Γ) g:=id rfl
def zdf(o:Option B):Option Out:=o.bind λb=>b.asD.map Out.rt
@[simp] theorem zeZ {d}:zdf (some (.d d))=some (.rt d):=id rfl
@[simp] theorem zaj {f}:zS f Γ=zdf (f Γ):=id rfl
def ifO(o:Option Bool)(f g:G->Option Out)(Γ:G):Option Out:=o.bind λx=>if x=true then f Γ else g Γ
@[simp] theorem znx {f g}:ifO (some true) f g Γ=f Γ:=id rfl
@[simp] theorem zny {f g}:ifO (some false) f g Γ=g Γ:=id rfl
@[simp] theorem zlq {t f g}:sIf t f g Γ=ifO (t Γ) f g Γ:=id rfl
def zhT(o:Option B)(Γ:G):Option Out:=o.map λ_=>.nx Γ
@[simp] theorem zlr {b}:zhT (some b) Γ=some (.nx Γ):=id rfl
@[simp] theorem zmY {f}:Zy f Γ=zhT (f Γ) Γ:=id rfl
def UB(i:Nat)(o:Option B)(Γ:G):Option Out:=o.bind λb=>b.asD.map λd=>.nx (Γ.set i (.v d))
@[simp] theorem QI {i d}:UB i (some (.d d)) Γ=some (.nx (Γ.set i (.v d))):=id rfl
@[simp] theorem v8 {i f}:zY i f Γ=UB i (f Γ) Γ:=id rfl
def zj4(i:Nat)(o:Option (List D))(Γ:G):Option Out:=o.map λds=>.nx (Γ.set i (.ol ds))
@[simp] theorem zmg {i ds}:zj4 i (some ds) Γ=some (.nx (Γ.set i (.ol ds))):=id rfl
@[simp] theorem zm4 {i f}:vb i f Γ=zj4 i (f Γ) Γ:=id rfl
@[simp] theorem zm5 {i d}:zr i d Γ=some (Γ.set i (.v d)):=id rfl
def Xp(i:Nat):Option (List D)->Option B->G->Option Out
 | some ds,some (.d d),Γ=>if ds.length<aH then some (.nx (Γ.set i (.ol (ds++[d]))))else none
 | _,_,_=>none
@[simp] theorem zmh {i ds d}:Xp i (some ds) (some (.d d)) Γ=if ds.length<aH then some (.nx (Γ.set i (.ol (ds++[d]))))else none:=id rfl
@[simp] theorem zak {i f}:vx i f Γ=Xp i (wJ Γ i) (f Γ) Γ:=by
 unfold vx Xp
 cases wJ Γ i with
 | none=>rfl
 | some ds=>
  cases f Γ with
  | none=>rfl
  | some b=>cases b <;>rfl
def zgs(i:Nat):Option (List D)->Option (List D)->G->Option Out
 | some ds,some es,Γ=>if ds.length+es.length<=aH then some (.nx (Γ.set i (.ol (ds++es))))else none
 | _,_,_=>none
@[simp] theorem zmi {i ds es}:zgs i (some ds) (some es) Γ=if ds.length+es.length<=aH then some (.nx (Γ.set i (.ol (ds++es))))else none:=id rfl
def lsO(o:Option B):Option (List D):=o.bind B.lst
@[simp] theorem znz {ds}:lsO (some (.d (.lst ds)))=some ds:=id rfl
@[simp] theorem zm6 {i f}:JQ i f Γ=zgs i (wJ Γ i) (lsO (f Γ)) Γ:=by
 unfold JQ zgs lsO
 cases wJ Γ i with
 | none=>rfl
 | some ds=>
  cases f Γ with
  | none=>rfl
  | some b=>
   simp only[bH]
   cases b.lst <;>rfl
@[simp] theorem znA {ds}:B.lst (.d (.lst ds))=some ds:=id rfl
@[simp] theorem zj5 {ds}:B.lst (.l ds)=some ds:=id rfl
def zal(o:Option (List D))(t:D->G->Option G)(fb:G->Option Out)(Γ:G):Option Out:=o.bind λds=>wI t fb ds Γ
@[simp] theorem vV {ds t fb}:zal (some ds) t fb Γ=wI t fb ds Γ:=id rfl
@[simp] theorem Xq {j t fb}:wX j t fb Γ=zal (j Γ) t fb Γ:=id rfl
def wG(o:Option (List D))(ms:List (Option Nat))(t:D->G->Option G)(cond:G->Option Bool)(el:G->Option B)(Γ:G):Option (List D):=o.bind λds=>if ds.length<=aH then uS t cond el (yT ms Γ) ds else none
@[simp] theorem wQ {j ms t cond el}:z0 j ms t cond el Γ=wG (j Γ) ms t cond el Γ:=id rfl
@[simp] theorem szv:aH=16777216:=id rfl
@[simp] theorem znB {i j}:yi (.d (.int i)) (.d (.int j))=some (.int (i+j)):=id rfl
@[simp] theorem zm7:yi (.d (.tup a)) (.d (.tup b))=if a.length+b.length<=aH then some (.tup (a++b))else none:=by
 unfold yi mOr Vi mI XO Vk
 by_cases h:a.length+b.length<=aH <;>simp[h,B.int,B.lst]
@[simp] theorem zm8:yi (.d (.lst a)) (.d (.lst b))=if a.length+b.length<=aH then some (.lst (a++b))else none:=by
 unfold yi mOr Vi mI XO Vk
 by_cases h:a.length+b.length<=aH <;>simp[h,B.int,B.lst]
@[simp] theorem zmZ:yi (.l a) (.d (.lst b))=if a.length+b.length<=aH then some (.lst (a++b))else none:=by
 unfold yi mOr Vi mI XO Vk
 by_cases h:a.length+b.length<=aH <;>simp[h,B.int,B.lst]
@[simp] theorem znC {i j}:Wz (.d (.int i)) (.d (.int j))=some (.int (i-j)):=id rfl
theorem ZA{i j}(h:wa i=true\/wa j=true):ZL (.d (.int i)) (.d (.int j))=some (.int (i*j)):=by
 unfold ZL mI
 simp[h]
theorem ZB{i j:Int}(h:0<j):ZM (.d (.int i)) (.d (.int j))=some (.int (i%j)):=by
 unfold ZM mI
 simp[h]
theorem zhU{i j:Int}(h:0<j)(h2:j<1073741824):JJ (.d (.int i)) (.d (.int j))=some (.int (i/j)):=by
 unfold JJ mI
 simp[h,h2]
@[simp] theorem znO {i j}:mLt (.d (.int i)) (.d (.int j))=some (.bl (decide (i<j))):=id rfl
@[simp] theorem znP {i j}:mLe (.d (.int i)) (.d (.int j))=some (.bl (decide (i<=j))):=id rfl
@[simp] theorem znQ {i j}:mGt (.d (.int i)) (.d (.int j))=some (.bl (decide (j<i))):=id rfl
@[simp] theorem znD {n:Bool} {i j:Int}:mEq n (.d (.int i)) (.d (.int j))=some (.bl (if n then !decide (i=j)else decide (i=j))):=by
 have h:∀i:Int,bZ (.int i)=true:=λi=>by simp[bZ,eM,iF]
 unfold mEq
 simp[ZO,toP,h,bL,pS]
@[simp] theorem zm9 {ds}:B.seq (.d (.tup ds))=some ds:=id rfl
@[simp] theorem ze0 {ds}:B.seq (.d (.lst ds))=some ds:=id rfl
@[simp] theorem zna {ns}:B.seq (.d (.scr ns))=some (ns.map D.int):=id rfl
@[simp] theorem zam {ds}:B.seq (.l ds)=some ds:=id rfl
@[simp] theorem zan {x:B} {i:Int}:mIx x (.d (.int i))=x.seq.bind λds=>atI ds i:=id rfl
theorem xI{α:Type}{xs:List α}{k:Nat}:atI xs (k:Int)=xs[k]?:=by
 unfold atI ixN
 by_cases h:k<xs.length
 ·simp[h]
 ·simp[h]
theorem WL{α:Type}{xs:List α}{k:Nat}:atI xs ((k:Int)+1)=xs[k+1]?:=xI (k:=k+1)
@[simp] theorem znE {α:Type} {xs:List α}:atI xs 0=xs[0]?:=xI (k:=0)
@[simp] theorem znF {α:Type} {xs:List α}:atI xs 1=xs[1]?:=xI (k:=1)
@[simp] theorem znG {α:Type} {xs:List α}:atI xs 2=xs[2]?:=xI (k:=2)
theorem zgt{α:Type}{xs:List α}{x:α}:atI (xs++[x]) (-1)=some x:=by
 unfold atI ixN
 rw[if_neg (by omega),bM,cN,if_pos (by omega),bH,show(-1+((xs.length+1:Nat):Int)).toNat=xs.length by omega]
 simp
@[simp] theorem znH {b}:xB [b]=b.seq.map λds=>.int ds.length:=id rfl
@[simp] theorem znb {ds}:wv [.d (.lst ds)]=some (.tup ds):=id rfl
@[simp] theorem znc {ds}:wv [.l ds]=some (.tup ds):=id rfl
@[simp] theorem znI {x c}:vc [.d x,.ty c]=x.tyOf.map λt=>.bl (isi t c):=id rfl
@[simp] theorem znd {b}:D.tyOf (.int b)=some .int:=id rfl
@[simp] theorem zne {b}:D.tyOf (.str b)=some .str:=id rfl
@[simp] theorem znf {b}:D.tyOf (.tup b)=some .tup:=id rfl
@[simp] theorem znJ {b}:WB [b]=b.lst.bind λds=>(v4 ds).map λbs=>.bl (bs.all id):=id rfl
def enO(o:Option (List B)):Option (List D):=o.bind λbs=>match bs with
 | [.d (.tup ds)]=>some (ya ds)
 | _=>none
@[simp] theorem zmM {ds}:enO (some [.d (.tup ds)])=some (ya ds):=id rfl
@[simp] theorem zls {fs}:xEn fs Γ=enO (fs Γ):=id rfl
def zgu(o:Option (List B)):Option (List D):=o.bind λbs=>match bs with
 | [.d (.lst ds)]=>some (ya ds)
 | _=>none
@[simp] theorem zmj {ds}:zgu (some [.d (.lst ds)])=some (ya ds):=id rfl
def zdg(i:Nat):Option B->Option B->G->Option Out
 | some (.d k),some (.d v),Γ=>(Zk k).map λks=>.nx (Γ.set i (.ot [(ks,v)]))
 | _,_,_=>none
@[simp] theorem zlt {i k v}:zdg i (some (.d k)) (some (.d v)) Γ=(Zk k).map λks=>.nx (Γ.set i (.ot [(ks,v)])):=id rfl
@[simp] theorem zao {i f}:uH i f Γ=f (ZN i Γ):=id rfl
@[simp] theorem zj6 {fs}:Xi fs Γ=zgu (fs Γ):=id rfl
@[simp] theorem zmN {i j q}:Vt i j q Γ=zdg i (j Γ) (q Γ) Γ:=by
 unfold Vt zdg
 cases j Γ with
 | none=>rfl
 | some bk=>
  cases bk with
  | d k=>
   cases q Γ with
   | none=>rfl
   | some z=>cases z <;>rfl
  | _=>rfl
def zj7(t:D->G->Option G)(o:Option B)(Γ:G):Option Out:=o.bind λb=>b.asD.bind λd=>(t d Γ).map .nx
@[simp] theorem zmk {t d}:zj7 t (some (.d d)) Γ=(t d Γ).map .nx:=id rfl
@[simp] theorem zap {t f}:zf0 t f Γ=zj7 t (f Γ) Γ:=id rfl
@[simp] theorem zng {j d kvs}:Xh j (.d d) (.t kvs)=(Zk d).map λk=>.bl (if j then !(y8 kvs k).isSome else(y8 kvs k).isSome):=by
 unfold Xh B.dget
 simp only[Jl,bH,Option.map_map]
 rfl
@[simp] theorem zm0 {d kvs}:Zz (.t kvs) (.d d)=(Zk d).bind λk=>y8 kvs k:=by
 unfold Zz B.dget
 simp only[Jl,bH]
 cases Zk d <;>rfl
def zgv(i:Nat):Option B->Option B->Option S->G->Option Out
 | some (.d v),some (.d k),some s,Γ=>(WE s k v).map λs'=>.nx (Γ.set i s')
 | _,_,_,_=>none
@[simp] theorem zml {i v k s}:zgv i (some (.d v)) (some (.d k)) (some s) Γ=(WE s k v).map λs'=>.nx (Γ.set i s'):=id rfl
@[simp] theorem zmO {i j q}:Z9 i j q Γ=zgv i (q Γ) (j Γ) Γ[i]? Γ:=by
 unfold Z9 zgv
 cases q Γ with
 | none=>rfl
 | some z=>
  cases z with
  | d v=>
   cases j Γ with
   | none=>rfl
   | some bk=>
    cases bk with
    | d k=>cases Γ[i]? <;>rfl
    | _=>rfl
  | _=>rfl
@[simp] theorem znh {n u ds}:xN n u (.tup ds) Γ=if ds.length=n then u ds Γ else none:=id rfl
@[simp] theorem zm1:xY [] Γ=some Γ:=id rfl
@[simp] theorem zmP {f g d r}:z9 f g (d::r) Γ=(f d Γ).bind λj=>g r j:=id rfl
def zdh(j:Int):Bool:=decide (-(2^62)<=j) && decide (j<2^62)
def r1I(j:Int):Option (List D):=if zdh j=true then some (yS 0 j.toNat)else none
def r1O(o:Option (List B)):Option (List D):=o.bind λbs=>match bs with
 | [b]=>b.int.bind r1I
 | _=>none
@[simp] theorem zmQ {j}:r1O (some [.d (.int j)])=r1I j:=id rfl
theorem zj8(j:Int):(if-(2^62)<=j/\j<2^62 then some (yS 0 j.toNat)else none)=r1I j:=by
 unfold r1I zdh
 by_cases h:-(2^62)<=j/\j<2^62
 ·rw[if_pos h,if_pos (by rw[decide_eq_true h.1,decide_eq_true h.2];rfl)]
 ·rw[if_neg h,if_neg λz=>h (by rw[dY,decide_eq_true_eq,decide_eq_true_eq]at z;exact z)]
@[simp] theorem znK {fs}:xR1 fs Γ=r1O (fs Γ):=by
 unfold xR1 r1O
 cases fs Γ with
 | none=>rfl
 | some bs=>
  rw[bH,bH]
  match bs with
  | []=>rfl
  | [b]=>exact congrArg b.int.bind (funext zj8)
  | _::_::_=>rfl
theorem wR{n:Nat}(h:n<1000000):r1I (n:Int)=some (yS 0 n):=by
 have j:-(2^62)<=(n:Int):=by omega
 have q:(n:Int)<2^62:=by omega
 have e:zdh (n:Int)=true:=by unfold zdh;rw[decide_eq_true j,decide_eq_true q];rfl
 unfold r1I
 rw[if_pos e,gH]
theorem VH{h:G->Option B}{i j k:Int}(q:h Γ=some (.d (.int k))):ch3 mLe mLe h Γ (some (.d (.int i))) (some (.d (.int j)))=some (.d (.bl (decide (i<=j/\j<=k)))):=by
 unfold ch3
 rw[q]
 by_cases h1:i<=j <;>by_cases h2:j<=k <;>simp[h1,h2]
theorem uV:∀(xs:List D),(∀x∈xs,x=.bl true)->(v4 xs).map (λbs=>D.bl (bs.all id))=some (.bl true)
 | [],_=>rfl
 | x::r,h=>by
  have j:=h x bN
  subst j
  have:=uV r λy q=>h y (bO _ q)
  show((v4 r).map _).map _=_
  cases e:v4 r with
  | none=>rw[e]at this;cases this
  | some bs=>rw[e]at this;simpa using this
theorem zZ(h:ds.length=j)(e:f (zC n ds)=some (.rt d)):mir j n f ds=some d:=by unfold mir;rw[if_pos h,e]
end
structure OkD (n:Nat) (d:D):Prop where
 lay:(toP d).canLay0=true
 dep:(toP d).depth<=n
structure OkDs (n:Nat) (ds:List D):Prop where
 lay:gI (toPs ds)=true
 dep:ly (toPs ds)<=n
theorem UC:∀{ds:List D},(∀d∈ds,OkD n d)->OkDs n ds
 | [],_=>⟨rfl,dJ _⟩
 | d::r,h=>by
  have h1:=h d bN
  have h2:=UC λx j=>h x (bO _ j)
  refine⟨?_,?_⟩
  ·rw[toPs,gI,h1.lay,h2.lay];rfl
  ·rw[toPs,ly];exact Nat.max_le.mpr ⟨h1.dep,h2.dep⟩
theorem OkD.int{n:Nat}{i:Int}:OkD n (.int i):=⟨by simp[toP,eM],by simp[toP,iF]⟩
theorem OkD.str(h:eD x=true):OkD n (.str x):=⟨by simp[toP,eM,h],by simp[toP,iF]⟩
theorem OkD.tup(h:∀d∈ds,OkD n d):OkD (n+1) (.tup ds):=by
 have:=UC h
 exact⟨by rw[toP,eM];exact this.lay,by rw[toP,iF];exact mY this.dep⟩
theorem OkD.lst(h:∀d∈ds,OkD n d):OkD (n+1) (.lst ds):=by
 have:=UC h
 exact⟨by rw[toP,eM];exact this.lay,by rw[toP,iF];exact mY this.dep⟩
theorem OkD.scr{n:Nat}{ns:List Int}:OkD (n+1) (.scr ns):=by
 have h:∀ns:List Int,gI (ns.map PyData.int)=true/\ly (ns.map PyData.int)=0:=λns=>by
  induction ns with
  | nil=>exact⟨rfl,rfl⟩
  | cons a r j=>simp[gI,ly,eM,iF,j]
 exact⟨by rw[toP,eM];exact(h ns).1,by rw[toP,iF,(h ns).2];omega⟩
theorem OkD.mono(h:OkD n d)(k:n<=m):OkD m d:=⟨h.lay,bS h.dep k⟩
theorem OkD.shp(h:OkD n d)(k:n<=64:=by decide):bZ (toP d)=true:=by
 unfold bZ
 rw[h.lay,decide_eq_true (bS h.dep k)];rfl
mutual
theorem Zp:∀d:D,bL (toP d) (toP d)=true
 | .non=>by simp[toP,bL]
 | .bl b=>by simp[toP,bL]
 | .int i=>by simp[toP,bL]
 | .str x=>by simp[toP,bL]
 | .scr ns=>by
  rw[toP,bL]
  induction ns with
  | nil=>rfl
  | cons a r j=>simp[jU,bL,j]
 | .tup ds=>by rw[toP,bL];exact eqvAll_refl ds
 | .lst ds=>by rw[toP,bL];exact eqvAll_refl ds
 | .dK _ _=>by simp[toP,bL]
 | .dT _ _=>by simp[toP,bL]
theorem eqvAll_refl:∀ds:List D,jU (toPs ds) (toPs ds)=true
 | []=>rfl
 | d::r=>by rw[toPs,jU,Zp d,eqvAll_refl r];rfl
end
theorem VI(q:OkD n x)(z:OkD n y)(k:n<=64:=by decide):mEq j (.d x) (.d y)=some (.bl (if j then !PyData.eqv (toP x) (toP y)else bL (toP x) (toP y))):=by
 unfold mEq
 simp[ZO,q.shp k,z.shp k]
theorem zgw(j:OkD n x)(k:n<=64:=by decide):mEq false (.d x) (.d x)=some (.bl true):=by
 rw[VI j j k,Zp];rfl
theorem zaq(j:OkD n x)(k:n<=64:=by decide):mEq true (.d x) (.d x)=some (.bl false):=by
 rw[VI j j k,Zp];rfl
theorem zce{ns:List Int}:mEq false (.d (.scr ns)) (.d (.lst []))=some (.bl (decide (ns=[]))):=by
 rw[VI (n:=1) OkD.scr (OkD.lst (by simp))]
 cases ns <;>simp[toP,toPs,bL,jU]
theorem zdi(I:OkD n x)(J:b.seq=some ds)(O:∀d∈ds,OkD n d)(k:n<=64:=by decide):mIn j (.d x) b=some (.bl (if j then !(ds.any λd=>bL (toP d) (toP x))else ds.any λd=>bL (toP d) (toP x))):=by
 have h1:(toPs ds).all bZ=true:=by
  rw[Yy,dG]
  intro p R
  obtain⟨d,z,rfl⟩:=bA.mp R
  exact(O d z).shp k
 have h2:∀q,(toPs ds).any (λp=>bL p q)=ds.any λd=>bL (toP d) q:=λq=>by
  rw[Yy,pT];rfl
 unfold mIn
 simp only[ZO,bH,J,I.shp k,h1,h2,and_self,if_true]
theorem ze1{a b c d:Int}:bL (toP (.tup [.int a,.int b])) (toP (.tup [.int c,.int d]))=decide (a=c/\b=d):=by
 simp[toP,toPs,bL,jU,pS]
theorem wE:∀(ds:List D) (I:Nat->G->Prop) (Γ:G),I 0 Γ->(∀k Γ (h:k<ds.length),I k Γ->∃g1 g2,t ds[k] Γ=some g1/\fb g1=some (.nx g2)/\I (k+1) g2)->∃g,wI t fb ds Γ=some (.nx g)/\I ds.length g
 | [],I,Γ,j,_=>⟨Γ,rfl,j⟩
 | d::r,I,Γ,j,q=>by
  obtain⟨g1,g2,h1,h2,z⟩:=q 0 Γ (by simp) j
  obtain⟨g,J,O⟩:=wE (t:=t) (fb:=fb) r (λk=>I (k+1)) g2 z λk Γ h hi=>q (k+1) Γ (by simpa using h) hi
  refine⟨g,?_,O⟩
  unfold wI
  rw[show t d Γ=some g1 from h1,bH,h2]
  exact J
theorem zar{β:Type}(j:β->D){t:D->G->Option G}{cond:G->Option Bool}{el:G->Option B}{Γ:G}:∀(ds:List D) (R:Nat->β->Prop),(∀k (h:k<ds.length),∃g y,t ds[k] Γ=some g/\cond g=some true/\el g=some (.d (j y))/\R k y)->
  ∃ys:List β,uS t cond el Γ ds=some (ys.map j)/\ys.length=ds.length/\∀k (h:k<ys.length),R k ys[k]
 | [],R,_=>⟨[],rfl,rfl,λk h=>absurd h (by simp)⟩
 | d::r,R,q=>by
  obtain⟨g,y,h1,h2,z,I⟩:=q 0 (by simp)
  obtain⟨ys,e,J,O⟩:=zar j (t:=t) (cond:=cond) (el:=el) (Γ:=Γ) r (λk=>R (k+1)) λk h=>q (k+1) (by simpa using h)
  refine⟨y::ys,?_,by simp[J],λk h=>?_⟩
  ·unfold uS
   rw[show t d Γ=some g from h1,bH,h2,bH,if_pos rfl,z,bH,Jl,bH,e]
   rfl
  ·cases k with
   | zero=>exact I
   | succ k=>exact O k (by simpa using h)
theorem YF{β:Type}(j:β->D){t:D->G->Option G}{cond:G->Option Bool}{el:G->Option B}{Γ:G}{ms:List (Option Nat)}{ds:List D}(R:Nat->β->Prop)(q:ds.length<=16777216)(z:∀k (h:k<ds.length),∃g y,t ds[k] (yT ms Γ)=some g/\cond g=some true/\el g=some (.d (j y))/\R k y):
  ∃ys:List β,wG (some ds) ms t cond el Γ=some (ys.map j)/\ys.length=ds.length/\∀k (h:k<ys.length),R k ys[k]:=by
 obtain⟨ys,e,h⟩:=zar j ds R z
 exact⟨ys,by unfold wG;rw[bH,if_pos (show ds.length<=aH from q),e],h⟩
@[simp] theorem VJ {lo:Int} {n:Nat}:(yS lo n).length=n:=by simp[yS]
@[simp] theorem zlu {lo:Int} {n k:Nat} {h:k<(yS lo n).length}:(yS lo n)[k]=.int (lo+k):=by simp[yS]
@[simp] theorem Xr:(ya ds).length=ds.length:=by simp[ya]
@[simp] theorem ZC {ds:List D} {k:Nat} {h:k<(ya ds).length}:(ya ds)[k]=.tup [.int k,ds[k]'(by simpa using h)]:=by
 have:k<ds.length:=by simpa using h
 simp[ya,aX,this]
theorem yC{β:Type}(j:β->D){t:D->G->Option G}{cond:G->Option Bool}{el:G->Option B}{Γ:G}{ms:List (Option Nat)}{ds:List D}(zs:List β)(q:zs.length=ds.length)(z:ds.length<=16777216)(I:∀k (h:k<ds.length),∃g,t ds[k] (yT ms Γ)=some g/\cond g=some true/\el g=some (.d (j (zs[k]'(by rw[q];exact h))))):
  wG (some ds) ms t cond el Γ=some (zs.map j):=by
 obtain⟨ys,h1,h2,J⟩:=YF j (t:=t) (cond:=cond) (el:=el) (Γ:=Γ) (ms:=ms) (ds:=ds) (λk y=>∃h:k<zs.length,y=zs[k]) z λk h=>by
  obtain⟨g,a,b,c⟩:=I k h
  exact⟨g,_,a,b,c,by rw[q];exact h,rfl⟩
 have:ys=zs:=jV (by rw[h2,q]) λk a b=>(J k a).2
 rw[h1,this]
theorem QJ(I:Nat->G->Prop)(Fin:G->Prop)(N:Nat)(step:∀k Γ,I k Γ->k<=N/\((t Γ=some false/\Fin Γ)\/(t Γ=some true/\∃q,b Γ=some (.nx q)/\I (k+1) q))):∀(j k:Nat) (Γ:G),N<j+k->I k Γ->∃q,xP t b j Γ=some (.nx q)/\Fin q
 | 0,k,Γ,R,hi=>by have:=(step k Γ hi).1;omega
 | j+1,k,Γ,R,hi=>by
  unfold xP
  rcases(step k Γ hi).2 with⟨z,J⟩|⟨z,q,U,O⟩
  ·exact⟨Γ,by rw[z];rfl,J⟩
  ·obtain⟨g,Y,J⟩:=QJ I Fin N step j (k+1) q (by omega) O
   refine⟨g,?_,J⟩
   rw[z,bH,if_pos rfl,U]
   exact Y
end DD
namespace Pu
section
variable {α:Type} (f:α->Option α)
def go:Nat->α->Option α
 | 0,a=>some a
 | k+1,a=>(f a).bind (go k)
theorem zas(k:Nat)(a:α):go f (k+1) a=(go f k a).bind f:=by
 induction k generalizing a with
 | zero=>simp[go]
 | succ k j=>
  show(f a).bind (go f (k+1))=((f a).bind (go f k)).bind f
  cases f a with
  | none=>rfl
  | some b=>exact j b
theorem Xs(j k:Nat)(a:α):go f (j+k) a=(go f j a).bind (go f k):=by
 induction j generalizing a with
 | zero=>simp[go]
 | succ j q=>
  rw[Nat.succ_add]
  show(f a).bind (go f (j+k))=((f a).bind (go f j)).bind (go f k)
  cases f a with
  | none=>rfl
  | some b=>exact q b
theorem Xt(h:go f j a=none)(q:j<=k):go f k a=none:=by
 obtain⟨d,rfl⟩:=Nat.le.dest q
 rw[Xs,h];rfl
theorem zat(z:i<j)(h1:go f i a=some b)(h2:go f j a=some b):∀k,go f k a≠none:=by
 have I:go f (j-i) b=some b:=by
  have:=Xs f i (j-i) a
  rw[show i+(j-i)=j by omega,h1,h2]at this
  exact this.symm
 have all:∀n,go f (n*(j-i)) b=some b:=λn=>by
  induction n with
  | zero=>simp[go]
  | succ n J=>rw[jN,Xs,J];exact I
 intro k O
 have q:go f (i+(k+1)*(j-i)) a=some b:=by rw[Xs,h1];exact all (k+1)
 have:k<=i+(k+1)*(j-i):=by
  have:(k+1)*1<=(k+1)*(j-i):=Nat.mul_le_mul_left _ (by omega)
  omega
 rw[Xt f O this]at q
 cases q
end
theorem yH{α:Type} [DecidableEq α]:∀(xs ys:List α),xs.Nodup->(∀x∈xs,x∈ys)->xs.length<=ys.length
 | [],ys,_,_=>dJ _
 | x::xs,ys,j,sub=>by
  have q:=sub x bN
  rw[dO]at j
  have:=yH xs (ys.erase x) j.2 λz I=>(pJ (λe:z=x=>j.1 (by rw[<-e];exact I))).mpr (sub z (bO _ I))
  rw[pK q]at this
  have:0<ys.length:=pL q
  simp only[cD]
  omega
theorem ziJ{α:Type} [DecidableEq α] (f:α->Option α) (S:List α) (a:α) (ha:a∈S) (hs:∀x∈S,∀y,f x=some y->y∈S) (h:go f S.length a≠none):∀k,go f k a≠none:=by
 have inS:∀k b,go f k a=some b->b∈S:=λk=>by
  induction k with
  | zero=>intro b e;simp[go]at e;exact e▸ha
  | succ k ih=>
   intro b e
   rw[zas]at e
   cases h2:go f k a with
   | none=>rw[h2]at e;cases e
   | some c=>rw[h2]at e;exact hs c (ih c h2) b e
 apply jW
 intro hc
 have hc:∃k,go f k a=none:=jW λz=>hc λk hk=>z ⟨k,hk⟩
 obtain⟨k,hk⟩:=hc
 have inj:∀i j b,i<j->go f i a=some b->go f j a=some b->False:=λi j b hij h1 h2=>zat f hij h1 h2 k hk
 have all:∀i,i<=S.length->∃b,go f i a=some b:=λi hi=>by
  cases e:go f i a with
  | none=>exact absurd (Xt f e hi) h
  | some b=>exact⟨b,rfl⟩
 have mk:∀n,n<=S.length+1->∃xs:List α,xs.length=n/\xs.Nodup/\∀x∈xs,∃i,i<n/\go f i a=some x:=λn=>by
  induction n with
  | zero=>exact λ_=>⟨[],rfl,mO,λx h=>nomatch h⟩
  | succ n ih=>
   intro hn
   obtain⟨xs,h1,h2,h3⟩:=ih (by omega)
   obtain⟨b,hb⟩:=all n (by omega)
   refine⟨b::xs,by simp[h1],dO.mpr ⟨λhm=>?_,h2⟩,λx hx=>?_⟩
   ·obtain⟨i,hi,e⟩:=h3 b hm
    exact inj i n b hi e hb
   ·rcases aU.mp hx with rfl|hx
    ·exact⟨n,by omega,hb⟩
    ·obtain⟨i,hi,e⟩:=h3 x hx
     exact⟨i,by omega,e⟩
 obtain⟨xs,h1,h2,h3⟩:=mk (S.length+1) (aP _)
 have:=yH xs S h2 λx hx=>by
  obtain⟨i,_,e⟩:=h3 x hx
  exact inS i x e
 omega
section
variable {α ρ:Type} (f:α->Sum ρ α)
def nxt(a:α):Option α:=match f a with
 | .inl _=>none
 | .inr b=>some b
def run:Nat->α->Sum ρ α
 | 0,a=>.inr a
 | k+1,a=>match f a with
  | .inl x=>.inl x
  | .inr b=>run k b
def x0(a:α)(x:ρ):Prop:=∃k,run f k a=.inl x
theorem xo(h:f a=.inl x):run f (k+1) a=.inl x:=by simp[run,h]
theorem yD(h:f a=.inr b):run f (k+1) a=run f k b:=by simp[run,h]
theorem vq(h:f a=.inl y):x0 f a x↔x=y:=by
 constructor
 ·rintro⟨k,e⟩
  cases k with
  | zero=>cases e
  | succ k=>rw[xo f h]at e;cases e;rfl
 ·rintro rfl;exact⟨1,xo f h⟩
theorem vr(h:f a=.inr b):x0 f a x↔x0 f b x:=by
 constructor
 ·rintro⟨k,e⟩
  cases k with
  | zero=>cases e
  | succ k=>rw[yD f h]at e;exact⟨k,e⟩
 ·rintro⟨k,e⟩;exact⟨k+1,by rw[yD f h];exact e⟩
theorem zau:x0 f a x->x0 f a y->x=y:=by
 rintro⟨k,e⟩ h
 induction k generalizing a with
 | zero=>cases e
 | succ k j=>
  cases q:f a with
  | inl z=>
   rw[xo f q]at e;cases e
   exact((vq f q).mp h).symm
  | inr b=>
   rw[yD f q]at e
   exact j e ((vr f q).mp h)
open Classical in
noncomputable def sem (rd:ρ) (a:α):ρ:=if h:∃x,x0 f a x then h.choose else rd
variable {f} {rd:ρ}
theorem yW(h:x0 f a x):sem f rd a=x:=by
 have z:∃x,x0 f a x:=⟨x,h⟩
 unfold sem
 rw[dif_pos z]
 exact zau f z.choose_spec h
theorem yX(h:∀x,¬x0 f a x):sem f rd a=rd:=by
 unfold sem
 rw[dif_neg λj=>(by obtain⟨x,z⟩:=j;exact h x z)]
theorem xV(h:f a=.inl x):sem f rd a=x:=yW ((vq f h).mpr rfl)
theorem xc(h:f a=.inr b):sem f rd a=sem f rd b:=by
 by_cases z:∃x,x0 f b x
 ·obtain⟨x,z⟩:=z
  rw[yW z,yW ((vr f h).mpr z)]
 ·rw[yX λx q=>z ⟨x,q⟩,yX λx q=>z ⟨x,(vr f h).mp q⟩]
theorem ze2(h:run f k a=.inl x):go (nxt f) k a=none:=by
 induction k generalizing a with
 | zero=>cases h
 | succ k j=>
  cases q:f a with
  | inl y=>simp[go,nxt,q]
  | inr b=>
   rw[yD f q]at h
   simp[go,nxt,q,j h]
theorem ze3(h:∀k,go (nxt f) k a≠none):sem f rd a=rd:=yX λx j=>by obtain⟨k,e⟩:=j;exact h k (ze2 e)
def ZD [DecidableEq α] (f:α->Sum ρ α) (rd:ρ):Nat->List α->α->Option ρ
 | 0,_,_=>none
 | n+1,met,a=>if a∈met then some rd else match f a with
  | .inl x=>some x
  | .inr b=>ZD f rd n (met++[a]) b
theorem QK [DecidableEq α] (S:List α) (R:∀x∈S,∀y,f x=.inr y->y∈S):∀(n:Nat) (met:List α) (a0 a:α),a∈S->met.Nodup->(∀x∈met,x∈S)->go (nxt f) met.length a0=some a->(∀x∈met,∃i,i<met.length/\go (nxt f) i a0=some x)->S.length<n+met.length->ZD f rd n met a=some (sem f rd a)
 | 0,met,a0,a,I,J,sub,j,O,Y=>by
  have:=yH met S J sub
  omega
 | n+1,met,a0,a,I,J,sub,j,O,Y=>by
  unfold ZD
  by_cases h:a∈met
  ·rw[if_pos h]
   obtain⟨i,hi,e⟩:=O a h
   have:=zat (nxt f) hi e j
   rw[ze3 λk z=>this (met.length+k) (by rw[Xs,j];exact z)]
  ·rw[if_neg h]
   cases q:f a with
   | inl x=>rw[xV q]
   | inr b=>
    have Z:=R a I b q
    simp only
    rw[xc q]
    refine QK S R n (met++[a]) a0 b Z ?_ ?_ ?_ ?_ ?_
    ·rw[dZ]
     refine⟨J,by simp,λx hx y U=>?_⟩
     simp at U;subst U
     exact λz=>h (z▸hx)
    ·intro x hx
     rcases bX.mp hx with hx|hx
     ·exact sub x hx
     ·simp at hx;exact hx▸I
    ·rw[bM,cN,zas,j]
     simp[nxt,q]
    ·intro x hx
     rw[bM,cN]
     rcases bX.mp hx with hx|hx
     ·obtain⟨i,hi,e⟩:=O x hx;exact⟨i,by omega,e⟩
     ·simp at hx;exact⟨met.length,by omega,by rw[hx];exact j⟩
    ·rw[bM,cN];omega
theorem VL [DecidableEq α] (S:List α) (j:∀x∈S,∀y,f x=.inr y->y∈S) (q:a∈S) (z:S.length<n):ZD f rd n [] a=some (sem f rd a) :=
 QK S j n [] a a q mO (λ_ h=>nomatch h) rfl (λ_ h=>nomatch h) (by simpa using z)
def Jm(f:α->Sum ρ α)(rd:ρ):Nat->α->ρ
 | 0,_=>rd
 | n+1,a=>match f a with
  | .inl x=>x
  | .inr b=>Jm f rd n b
theorem Xu:∀(n:Nat) (a:α),Jm f rd n a=match run f n a with
  | .inl x=>x
  | .inr _=>rd
 | 0,a=>rfl
 | n+1,a=>by
  unfold Jm run
  cases q:f a with
  | inl x=>rfl
  | inr b=>exact Xu n b
theorem ze4 [DecidableEq α] (S:List α) (I:∀x∈S,∀y,f x=.inr y->y∈S) (J:a∈S):Jm f rd S.length a=sem f rd a:=by
 rw[Xu]
 cases q:run f S.length a with
 | inl x=>exact(yW ⟨_,q⟩).symm
 | inr b=>
  have O:go (nxt f) S.length a≠none:=λz=>by
   have:∀(k:Nat) (a b:α),run f k a=.inr b->go (nxt f) k a=some b:=λk=>by
    induction k with
    | zero=>intro a b e;simp[run]at e;simp[go,e]
    | succ k R=>
     intro a b e
     cases q:f a with
     | inl y=>rw[xo f q]at e;cases e
     | inr c=>rw[yD f q]at e;simp[go,nxt,q];exact R c b e
   rw[this _ _ _ q]at z;cases z
  exact(ze3 (ziJ (nxt f) S a J (λx U y j=>I x U y (by
   unfold nxt at j
   split at j
   ·cases j
   ·cases j;assumption)) O)).symm
end
inductive Mv (τ:Type) where
 | fin (s:τ)|go (r:Nat) (right:Bool)
inductive Res (τ:Type) where
 | fin (s:τ)|out (r:Nat)
 deriving DecidableEq
section
variable {τ:Type} (mv:Nat->Nat->Mv τ) (rd:τ)
def col(w:List Nat)(p:Nat):Nat:=if p=0 then 0 else w.getD (p-1) 0+1
def zL(w:List Nat)(c:Nat×Nat):Sum (Res τ) (Nat×Nat):=if w.length<c.2 then .inl (.out c.1)else match mv c.1 (col w c.2)with
 | .fin s=>.inl (.fin s)
 | .go r true=>.inr (r,c.2+1)
 | .go r false=>.inr (r,c.2-1)
noncomputable def xv (w:List Nat) (c:Nat×Nat):Res τ:=sem (zL mv w) (.fin rd) c
theorem zgx(h:p<=w.length):col (w++[a]) p=col w p:=by
 unfold col
 split
 ·rfl
 ·rw[aX,aX,dF (by omega)]
theorem zgy:col (w++[a]) (w.length+1)=a+1:=by
 unfold col
 simp[aX]
theorem uW(h:c.2<=w.length):zL mv (w++[a]) c=zL mv w c:=by
 unfold zL
 rw[bM,cN,if_neg (by omega),if_neg (by omega),zgx h]
theorem ZR(h:zL mv w c=.inr d):c.2<=w.length/\d.2<=c.2+1:=by
 unfold zL at h
 split at h
 ·cases h
 ·split at h
  ·cases h
  ·cases h;exact⟨by omega,aP _⟩
  ·cases h;exact⟨by omega,by show c.2-1<=c.2+1;omega⟩
theorem ze5(h:zL mv w c=.inl (.out b)):w.length<c.2/\c.1=b:=by
 unfold zL at h
 split at h
 ·cases h;exact⟨by assumption,rfl⟩
 ·split at h <;>cases h
theorem zav{w:List Nat}{a:Nat}{s:τ}:∀{k:Nat} {c:Nat×Nat},run (zL mv w) k c=.inl (.fin s)->x0 (zL mv (w++[a])) c (.fin s)
 | 0,_,h=>by cases h
 | k+1,c,h=>by
  cases q:zL mv w c with
  | inl x=>
   rw[xo _ q]at h;cases h
   have hp:c.2<=w.length:=by
    apply jW
    intro z
    unfold zL at q
    rw[if_pos (by omega)]at q;cases q
   exact(vq _ (by rw[uW mv hp];exact q)).mpr rfl
  | inr d=>
   rw[yD _ q]at h
   exact(vr _ (by rw[uW mv (ZR mv q).1];exact q)).mpr (zav h)
theorem zaw{w:List Nat}{a b:Nat}:∀{k:Nat} {c:Nat×Nat},c.2<=w.length+1->run (zL mv w) k c=.inl (.out b)->
  ∃j,∀n x,(run (zL mv (w++[a])) n (b,w.length+1)=.inl x->run (zL mv (w++[a])) (j+n) c=.inl x)/\(run (zL mv (w++[a])) n c=.inl x->∃m,m<=n/\run (zL mv (w++[a])) m (b,w.length+1)=.inl x)
 | 0,_,_,h=>by cases h
 | k+1,c,O,h=>by
  cases q:zL mv w c with
  | inl x=>
   rw[xo _ q]at h;cases h
   obtain⟨h1,h2⟩:=ze5 mv q
   have:c=(b,w.length+1):=by
    obtain⟨Y,R⟩:=c
    simp only at h1 h2 O
    rw[h2,show R=w.length+1 by omega]
   subst this
   exact⟨0,λn x=>⟨λz=>by rw[dQ];exact z,λz=>⟨n,aP _,z⟩⟩⟩
  | inr d=>
   rw[yD _ q]at h
   have U:=ZR mv q
   obtain⟨j,I⟩:=zaw (by omega) h
   have J:zL mv (w++[a]) c=.inr d:=by rw[uW mv U.1];exact q
   refine⟨j+1,λn x=>⟨λz=>?_,λz=>?_⟩⟩
   ·rw[show j+1+n=(j+n)+1 by omega,yD _ J];exact(I n x).1 z
   ·cases n with
    | zero=>cases z
    | succ n=>
     rw[yD _ J]at z
     obtain⟨m,Z,e⟩:=(I n x).2 z
     exact⟨m,by omega,e⟩
theorem VM:∀{k:Nat} {c:Nat×Nat},c.2<=w.length+1->run (zL mv (w++[a])) k c=.inl x->∃y,x0 (zL mv w) c y
 | 0,_,_,h=>by cases h
 | k+1,c,I,h=>by
  by_cases j:c.2<=w.length
  ·cases q:zL mv w c with
   | inl y=>exact⟨y,(vq _ q).mpr rfl⟩
   | inr d=>
    rw[yD _ (show zL mv (w++[a]) c=.inr d by rw[uW mv j];exact q)]at h
    have:=ZR mv q
    obtain⟨y,z⟩:=VM (by omega) h
    exact⟨y,(vr _ q).mpr z⟩
  ·exact⟨.out c.1,(vq _ (by unfold zL;rw[if_pos (by omega)])).mpr rfl⟩
theorem YG(w:List Nat)(a:Nat)(c:Nat×Nat)(O:c.2<=w.length+1):
  (∃s,xv mv rd w c=.fin s/\xv mv rd (w++[a]) c=.fin s/\∀n x,run (zL mv (w++[a])) n c=.inl x->True)\/
  (∃b,xv mv rd w c=.out b/\xv mv rd (w++[a]) c=xv mv rd (w++[a]) (b,w.length+1)/\∀n x,run (zL mv (w++[a])) n c=.inl x->∃m,m<=n/\run (zL mv (w++[a])) m (b,w.length+1)=.inl x):=by
 by_cases z:∃x,x0 (zL mv w) c x
 ·obtain⟨x,z⟩:=z
  have R:=z
  obtain⟨k,U⟩:=z
  cases x with
  | fin s=>exact .inl ⟨s,yW R,yW (zav mv U),λ_ _ _=>trivial⟩
  | out b=>
   obtain⟨j,J⟩:=zaw mv (a:=a) O U
   refine .inr ⟨b,yW R,?_,λn x h=>(J n x).2 h⟩
   unfold xv
   by_cases y:∃x,x0 (zL mv (w++[a])) (b,w.length+1) x
   ·obtain⟨x,y⟩:=y
    rw[yW y]
    obtain⟨n,Y⟩:=y
    exact yW ⟨j+n,(J n x).1 Y⟩
   ·rw[yX (λx q=>y ⟨x,q⟩:∀x,¬x0 (zL mv (w++[a])) (b,w.length+1) x)]
    refine yX λx ⟨n,q⟩=>?_
    obtain⟨m,_,e⟩:=(J n x).2 q
    exact y ⟨x,m,e⟩
 ·refine .inl ⟨rd,yX λx q=>z ⟨x,q⟩,yX λx I=>(by obtain⟨k,q⟩:=I;exact z (VM mv O q)),λ_ _ _=>trivial⟩
def hop(j:Nat->Mv τ)(done:Nat->Res τ)(r:Nat):Sum (Res τ) Nat:=match j r with
 | .fin s=>.inl (.fin s)
 | .go q true=>.inl (.out q)
 | .go q false=>match done q with
  | .fin s=>.inl (.fin s)
  | .out b=>.inr b
noncomputable abbrev vd (w:List Nat) (a:Nat):Nat->Sum (Res τ) Nat:=hop (λr=>mv r (a+1)) (λr=>xv mv rd w (r,w.length))
theorem VN(w:List Nat)(a r:Nat):zL mv (w++[a]) (r,w.length+1)=match mv r (a+1)with
 | .fin s=>.inl (.fin s)
 | .go j true=>.inr (j,w.length+2)
 | .go j false=>.inr (j,w.length):=by
 unfold zL
 rw[bM,cN,if_neg (by simp),zgy]
 rfl
theorem zgz(h:vd mv rd w a r=.inl x):xv mv rd (w++[a]) (r,w.length+1)=x:=by
 have st:=VN mv w a r
 unfold vd hop at h
 simp only at h
 split at h
 ·rename_i s e;rw[e]at st;cases h;exact xV st
 ·rename_i j e
  rw[e]at st;cases h
  unfold xv
  rw[xc st]
  exact xV (by unfold zL;rw[if_pos (by simp)])
 ·rename_i j e
  rw[e]at st
  unfold xv
  rw[xc st]
  rcases YG mv rd w a (j,w.length) (by simp)with⟨s,h1,h2,_⟩|⟨b,h1,h2,_⟩
  ·rw[h1]at h;cases h;exact h2
  ·rw[h1]at h;cases h
theorem ze6(h:vd mv rd w a r=.inr b):xv mv rd (w++[a]) (r,w.length+1)=xv mv rd (w++[a]) (b,w.length+1)/\∀n x,run (zL mv (w++[a])) n (r,w.length+1)=.inl x->∃m,m<n/\run (zL mv (w++[a])) m (b,w.length+1)=.inl x:=by
 have st:=VN mv w a r
 unfold vd hop at h
 simp only at h
 split at h
 ·cases h
 ·cases h
 ·rename_i j e
  rw[e]at st
  rcases YG mv rd w a (j,w.length) (by simp)with⟨s,h1,h2,_⟩|⟨J,h1,h2,I⟩
  ·rw[h1]at h;cases h
  ·rw[h1]at h;cases h
   refine⟨?_,λn x z=>?_⟩
   ·rw[<-h2];exact xc st
   ·cases n with
    | zero=>cases z
    | succ n=>
     rw[yD _ st]at z
     obtain⟨m,O,q⟩:=I n x z
     exact⟨m,by omega,q⟩
theorem UD(w:List Nat)(a r:Nat):sem (vd mv rd w a) (.fin rd) r=xv mv rd (w++[a]) (r,w.length+1):=by
 by_cases z:∃x,x0 (vd mv rd w a) r x
 ·obtain⟨x,z⟩:=z
  rw[yW z]
  obtain⟨k,I⟩:=z
  induction k generalizing r with
  | zero=>cases I
  | succ k J=>
   cases q:vd mv rd w a r with
   | inl y=>rw[xo _ q]at I;cases I;exact(zgz mv rd q).symm
   | inr b=>rw[yD _ q]at I;rw[(ze6 mv rd q).1];exact J b I
 ·rw[yX λx q=>z ⟨x,q⟩]
  symm
  refine yX λx ⟨n,R⟩=>?_
  have:∀n r,(¬∃x,x0 (vd mv rd w a) r x)->run (zL mv (w++[a])) n (r,w.length+1)=.inl x->False:=λn=>by
   induction n using pU with
   | ind n J=>
    intro r O U
    cases q:vd mv rd w a r with
    | inl y=>exact O ⟨y,(vq _ q).mpr rfl⟩
    | inr b=>
     obtain⟨m,Y,e⟩:=(ze6 mv rd q).2 n x U
     exact J m Y b (λj=>(by obtain⟨y,Z⟩:=j;exact O ⟨y,(vr _ q).mpr Z⟩)) e
  exact this n r z R
theorem uX(w:List Nat)(a:Nat):xv mv rd (w++[a]) (0,0)=match xv mv rd w (0,0)with
 | .fin s=>.fin s
 | .out b=>xv mv rd (w++[a]) (b,w.length+1):=by
 rcases YG mv rd w a (0,0) (by simp)with⟨s,h1,h2,_⟩|⟨b,h1,h2,_⟩
 ·rw[h1,h2]
 ·rw[h1,h2]
end
def UE(n m:Nat):List (Nat×Nat):=(aF (n*m)).map λi=>(i/m,i%m)
theorem um:(r,p)∈UE n m↔r<n/\p<m:=by
 unfold UE
 rw[bA]
 constructor
 ·rintro⟨i,hi,e⟩
  rw[bR]at hi
  have j:0<m:=by
   apply pV
   rintro rfl
   simp at hi
  cases e
  exact⟨pW (by rw[gW];exact hi),lz _ j⟩
 ·rintro⟨h1,h2⟩
  refine⟨r*m+p,bR.mpr ?_,?_⟩
  ·calc r*m+p<r*m+m:=by omega
    _=(r+1)*m:=by rw[jN]
    _<=n*m:=iY _ h1
  ·have j:0<m:=by omega
   rw[gW,pX j,pY h2,pZ,p0 h2];rfl
@[simp] theorem zax:(UE n m).length=n*m:=by simp[UE]
def vK{α ρ β:Type} [DecidableEq α] (f:α->Sum ρ α) (onMet:List α->α->β) (onEnd:List α->ρ->β):Nat->List α->α->Option β
 | 0,_,_=>none
 | n+1,met,a=>if a∈met then some (onMet met a)else match f a with
  | .inl x=>some (onEnd met x)
  | .inr b=>vK f onMet onEnd n (met++[a]) b
theorem VO{α ρ β:Type} [DecidableEq α] {f:α->Sum ρ α} {onMet:List α->α->β} {onEnd:List α->ρ->β} {rd:ρ}:∀{n:Nat} {met:List α} {a:α} {x:ρ},ZD f rd n met a=some x->∃y,vK f onMet onEnd n met a=some y
 | 0,_,_,_,h=>by cases h
 | n+1,met,a,x,h=>by
  unfold ZD at h
  unfold vK
  by_cases j:a∈met
  ·rw[if_pos j];exact⟨_,rfl⟩
  ·rw[if_neg j]at h ⊢
   cases q:f a with
   | inl y=>exact⟨_,rfl⟩
   | inr b=>
    rw[q]at h
    exact VO h
end Pu
namespace Hop
def yE(A:Nat)(δ1 δ2:Nat->Nat->Nat)(g1 g2:Nat->Bool)(s t:Nat):Prop:=∀w:List Nat,(∀a∈w,a<A)->g1 (yp δ1 s w)=g2 (yp δ2 t w)
structure Canon (A m:Nat) (δ:Nat->Nat->Nat) (g:Nat->Bool):Prop where
 pos:0<m
 lt:∀a s,a<A->s<m->δ a s<m
 ap:∀s t,s<m->t<m->yE A δ δ g g s t->s=t
 met:∀k,0<k->k<m->∃j a,j<k/\a<A/\δ a j=k/\∀j' a',a'<A->(j'<j\/(j'=j/\a'<a))->δ a' j'<k
section
variable {A m1 m2:Nat} {δ1 δ2 δ3:Nat->Nat->Nat} {g1 g2 g3:Nat->Bool}
theorem yE.symm(h:yE A δ1 δ2 g1 g2 s t):yE A δ2 δ1 g2 g1 t s:=λw j=>(h w j).symm
theorem yE.trans(h:yE A δ1 δ2 g1 g2 s t)(h':yE A δ2 δ3 g2 g3 t u):yE A δ1 δ3 g1 g3 s u:=λw j=>(h w j).trans (h' w j)
theorem yE.step(h:yE A δ1 δ2 g1 g2 s t)(q:a<A):yE A δ1 δ2 g1 g2 (δ1 a s) (δ2 a t):=λw z=>h (a::w) λb j=>by
 rcases aU.mp j with rfl|j
 ·exact q
 ·exact z b j
theorem ze7{j i c a:Nat}(q:¬(j<i\/(j=i/\c<a)))(z:j<i\/(j=i/\c<a+1)):j=i/\c=a:=by omega
theorem ze8{j i c a:Nat}(q:j<i\/(j=i/\c<a)):j<i\/(j=i/\c<a+1):=q.imp id λh=>⟨h.1,gE h.2⟩
theorem zay{j i n:Nat}{p:Prop}(z:j<i\/(j=i/\p))(h:i<n):j<n:=z.elim (λq=>dP q h) λq=>q.1▸h
theorem ziK{j i c a:Nat}(q:¬(j<i\/(j=i/\c<a)))(r:¬(i<j\/(i=j/\a<c))):j=i/\c=a:=by omega
theorem zaz(c1:Canon A m1 δ1 g1)(Y:Canon A m2 δ2 g2)(h:yE A δ1 δ2 g1 g2 0 0):∀k,k<m1->k<m2/\yE A δ1 δ2 g1 g2 k k:=by
 intro k
 induction k using pU with
 | ind k Z=>
  intro z
  by_cases h0:k=0
  ·subst h0;exact⟨Y.pos,h⟩
  have hp:=pV h0
  obtain⟨j,a,hj,ha,e,mn⟩:=c1.met k hp z
  obtain⟨aa,aj⟩:=Z j hj (dP hj z)
  have st:=aj.step ha
  rw[e]at st
  have ht:=Y.lt a j ha aa
  have key:δ2 a j=k:=by
   rcases lA (δ2 a j) k with q|q|q
   ·obtain⟨_,ai⟩:=Z _ q (dP q z)
    exact(c1.ap k _ z (dP q z) (st.trans ai.symm)).symm
   ·exact q
   ·exfalso
    obtain⟨I,a2,J,O,e2,ab⟩:=Y.met k hp (dP q ht)
    obtain⟨ae,ac⟩:=Z I J (dP J z)
    by_cases R:j<I\/(j=I/\a<a2)
    ·exact p5 q (ab j a ha R)
    by_cases U:I<j\/(I=j/\a2<a)
    ·have hi:=mn I a2 O U
     obtain⟨ad,ai⟩:=Z _ hi (dP hi z)
     have s2:=ac.step O
     rw[e2]at s2
     have:=Y.ap _ k ad (dP q ht) (ai.symm.trans s2)
     rw[this]at hi
     exact cV _ hi
    ·obtain⟨ej,ea⟩:=ziK R U
     subst ej;subst ea
     rw[e2]at q
     exact cV _ q
  rw[key]at st ht
  exact⟨ht,st⟩
theorem zgA(q:Canon A m1 δ1 g1)(j:Canon A m2 δ2 g2)(h:yE A δ1 δ2 g1 g2 0 0):m1=m2/\(∀a s,a<A->s<m1->δ1 a s=δ2 a s)/\∀s,s<m1->g1 s=g2 s:=by
 have z:=zaz q j h
 have J:=zaz j q h.symm
 refine⟨?_,λa s O I=>?_,λs I=>(z s I).2 [] (by simp)⟩
 ·have Z:=q.pos
  have p2:=j.pos
  have q1:=(z (m1-1) (by omega)).1
  have q2:=(J (m2-1) (by omega)).1
  omega
 ·obtain⟨R,as⟩:=z s I
  have st:=as.step O
  have hi:=q.lt a s O I
  obtain⟨U,Y⟩:=z _ hi
  exact j.ap _ _ U (j.lt a s O R) (Y.symm.trans st)
end
structure Kept (n:Nat) (part:Nat->Nat) (kept:List Nat) (num:Nat->Nat):Prop where
 lt:∀i,i<kept.length->kept.getD i 0<n
 up:∀i j,i<j->j<kept.length->kept.getD i 0<kept.getD j 0
 nlt:∀s,s<n->num s<kept.length
 at_:∀s,s<n->part (kept.getD (num s) 0)=part s
 le:∀s,s<n->kept.getD (num s) 0<=s
 one:∀s t,s<n->t<n->part s=part t->num s=num t
 self:∀i,i<kept.length->num (kept.getD i 0)=i
section
variable {n A:Nat} {δ:Nat->Nat->Nat} {g:Nat->Bool} {part:Nat->Nat} {kept:List Nat} {num:Nat->Nat}
def Met(A m:Nat)(δ:Nat->Nat->Nat):Prop:=∀k,0<k->k<m->∃j a,j<k/\a<A/\δ a j=k/\∀q z,z<A->(q<j\/(q=j/\z<a))->δ z q<k
theorem QL(j:0<n)(K:Kept n part kept num):num 0=0/\0<kept.length/\kept.getD 0 0=0:=by
 have h1:=K.nlt 0 j
 have h2:=K.le 0 j
 have I:0<kept.length:=by omega
 have q:num 0=0:=by
  by_cases z:num 0=0
  ·exact z
  ·have:=K.up 0 (num 0) (by omega) h1
   omega
 rw[q]at h2
 exact⟨q,I,by omega⟩
theorem zj9(K:Kept n part kept num)(j:s<n)(z:k<kept.length)(h:s<kept.getD k 0):num s<k:=by
 have h1:=K.le s j
 rcases lA (num s) k with q|q|q
 ·exact q
 ·rw[q]at h1;omega
 ·have:=K.up k (num s) q (K.nlt s j);omega
theorem zbz(P:Nat->Nat->Prop) [∀i j,Decidable (P i j)] (A:Nat):∀m,(∃j a,j<m/\a<A/\P j a)->∃j a,j<m/\a<A/\P j a/\∀R I,I<A->(R<j\/(R=j/\I<a))->¬P R I:=by
 have J:∀j b,(∃a,a<b/\P j a)->∃a,a<b/\P j a/\∀I,I<a->¬P j I:=by
  intro j b
  induction b with
  | zero=>rintro⟨a,h,_⟩;omega
  | succ b Z=>
   rintro⟨a,h,hp⟩
   by_cases q:∃a,a<b/\P j a
   ·obtain⟨a,h1,h2,Y⟩:=Z q
    exact⟨a,by omega,h2,Y⟩
   ·have:a=b:=by
     rcases gX a b with z|z
     ·exact absurd ⟨a,z,hp⟩ q
     ·omega
    subst this
    exact⟨a,by omega,hp,λI O z=>q ⟨I,O,z⟩⟩
 intro m
 induction m with
 | zero=>rintro⟨j,a,h,_⟩;omega
 | succ m Z=>
  rintro⟨j,a,h1,h2,Y⟩
  by_cases q:∃j a,j<m/\a<A/\P j a
  ·obtain⟨j,a,q1,q2,q3,q4⟩:=Z q
   exact⟨j,a,by omega,q2,q3,q4⟩
  ·have hj:j=m:=by
    rcases gX j m with z|z
    ·exact absurd ⟨j,a,z,h2,Y⟩ q
    ·omega
   subst hj
   obtain⟨a,a1,a2,a3⟩:=J j A ⟨a,h2,Y⟩
   refine⟨j,a,by omega,a1,a2,λR I O U z=>?_⟩
   rcases U with U|⟨rfl,U⟩
   ·exact q ⟨R,I,U,O,z⟩
   ·exact a3 I U z
theorem VP(q:∀a s,a<A->s<n->δ a s<n)(J:∀s t,s<n->t<n->(part s=part t↔yE A δ δ g g s t))(K:Kept n part kept num):
  ∀s,s<n->yE A (λa i=>num (δ a (kept.getD i 0))) δ (λi=>g (kept.getD i 0)) g (num s) s:=by
 have key:∀(w:List Nat) (s:Nat),s<n->(∀a∈w,a<A)->g (kept.getD (yp (λa i=>num (δ a (kept.getD i 0))) (num s) w) 0)=g (yp δ s w):=by
  intro w
  induction w with
  | nil=>
   intro s j _
   exact(J _ s (K.lt _ (K.nlt s j)) j).mp (K.at_ s j) [] (by simp)
  | cons a w R=>
   intro s j I
   have z:=I a bN
   have O:=K.lt _ (K.nlt s j)
   have U:=(J _ s O j).mp (K.at_ s j)
   have e:num (δ a (kept.getD (num s) 0))=num (δ a s):=K.one _ _ (q a _ z O) (q a s z j) ((J _ _ (q a _ z O) (q a s z j)).mpr (U.step z))
   show g (kept.getD (yp _ (num (δ a (kept.getD (num s) 0))) w) 0)=g (yp δ (δ a s) w)
   rw[e]
   exact R (δ a s) (q a s z j) λb Y=>I b (bO _ Y)
 exact λs j w I=>key w s j I
theorem zdj(hn:0<n)(R:∀a s,a<A->s<n->δ a s<n)(hp:∀s t,s<n->t<n->(part s=part t↔yE A δ δ g g s t))(hm:Met A n δ)(K:Kept n part kept num):
  Canon A kept.length (λa i=>num (δ a (kept.getD i 0))) (λi=>g (kept.getD i 0)):=by
 obtain⟨z1,z2,z3⟩:=QL hn K
 have al:=VP R hp K
 refine⟨z2,λa s ha hs=>K.nlt _ (R a _ ha (K.lt s hs)),λs t hs ht h=>?_,λk ad hk=>?_⟩
 ·have a1:=al _ (K.lt s hs)
  have a2:=al _ (K.lt t ht)
  rw[K.self s hs]at a1
  rw[K.self t ht]at a2
  have:=(hp _ _ (K.lt s hs) (K.lt t ht)).mpr (a1.symm.trans (h.trans a2))
  have e:=K.one _ _ (K.lt s hs) (K.lt t ht) this
  rw[K.self s hs,K.self t ht]at e
  exact e
 ·have ac:=K.lt k hk
  have ae:0<kept.getD k 0:=iE (dJ _) (K.up 0 k ad hk)
  obtain⟨j,a0,hj,O,e,mn⟩:=hm _ ae ac
  have I:j<n:=dP hj ac
  have af:num j<k:=zj9 K I hk hj
  have aa:num (δ a0 (kept.getD (num j) 0))=k:=by
   have ab:=K.lt _ (K.nlt j I)
   have st:=((hp _ j ab I).mp (K.at_ j I)).step O
   have:=K.one _ _ (R a0 _ O ab) (R a0 j O I) ((hp _ _ (R a0 _ O ab) (R a0 j O I)).mpr st)
   rw[this,e,K.self k hk]
  obtain⟨J,a,hJ,ha,hP,Y⟩:=zbz (λJ a=>k<=num (δ a (kept.getD J 0))) A k ⟨num j,a0,af,O,fK aa.symm⟩
  refine⟨J,a,hJ,ha,?_,λj' a' ag hl=>Nat.lt_of_not_le (Y j' a' ag hl)⟩
  show num (δ a (kept.getD J 0))=k
  rcases gX k (num (δ a (kept.getD J 0)))with q|q
  ·exfalso
   have ah:J<kept.length:=dP hJ hk
   have ai:=K.lt J ah
   have hd:=R a _ ha ai
   have Z:kept.getD k 0<δ a (kept.getD J 0):=by
    have h1:=K.up k _ q (K.nlt _ hd)
    have h2:=K.le _ hd
    exact cI h1 h2
   have U:¬(kept.getD J 0<j\/(kept.getD J 0=j/\a<a0)):=λz=>p5 Z (mn _ a ha z)
   have ne:¬(kept.getD J 0=j/\a=a0):=λz=>by
    rw[z.1,z.2,e]at Z;exact cV _ Z
   have aj:num j<=J:=by
    rcases gX J (num j)with y|y
    ·have h1:=K.up J (num j) y (K.nlt j I)
     have h2:=K.le j I
     exact absurd (.inl (cI h1 h2)) U
    ·exact y
   rcases gX (num j) J with y|y
   ·exact Y (num j) a0 O (.inl y) (fK aa.symm)
   ·have ej:num j=J:=p6 aj y
    have h2:=K.le j I
    rw[ej]at h2
    have ak:kept.getD J 0=j/\a0<a:=by
     rcases lA (kept.getD J 0) j with x|x|x
     ·exact absurd (.inl x) U
     ·refine⟨x,?_⟩
      rcases lA a a0 with u|u|u
      ·exact absurd (.inr ⟨x,u⟩) U
      ·exact absurd ⟨x,u⟩ ne
      ·exact u
     ·omega
    exact Y J a0 O (.inr ⟨rfl,ak.2⟩) (by rw[<-ej];omega)
  ·omega
end
def xb(part:Nat->Nat):Nat->List Nat
 | 0=>[]
 | i+1=>if part i∈(xb part i).map part then xb part i else xb part i++[i]
def vR(part:Nat->Nat)(kept:List Nat)(s:Nat):Nat:=(kept.map part).idxOf (part s)
structure KI (part:Nat->Nat) (i:Nat) (kept:List Nat):Prop where
 lt:∀s∈kept,s<i
 up:kept.Pairwise (· < ·)
 nd:(kept.map part).Nodup
 has:∀s,s<i->∃t,t∈kept/\part t=part s/\t<=s
theorem WM(part:Nat->Nat):∀i,KI part i (xb part i)
 | 0=>⟨by simp[xb],by simp[xb],by simp[xb],λs h=>absurd h (mU _)⟩
 | i+1=>by
  have j:=WM part i
  unfold xb
  by_cases h:part i∈(xb part i).map part
  ·rw[if_pos h]
   refine⟨λs I=>gE (j.lt s I),j.up,j.nd,λs I=>?_⟩
   rcases gX s i with q|q
   ·exact j.has s q
   ·have e:s=i:=by omega
    subst e
    obtain⟨t,R,U⟩:=bA.mp h
    exact⟨t,R,U,fI (j.lt t R)⟩
  ·rw[if_neg h]
   refine⟨λs I=>?_,?_,?_,λs I=>?_⟩
   ·rcases bX.mp I with q|q
    ·exact gE (j.lt s q)
    ·have:s=i:=by simpa using q
     omega
   ·rw[List.pairwise_append]
    refine⟨j.up,by simp,λa J b O=>?_⟩
    have:b=i:=by simpa using O
    subst this
    exact j.lt a J
   ·rw[cL,dZ]
    refine⟨j.nd,by simp,λa J b O z=>?_⟩
    have:b=part i:=by simpa using O
    subst this;subst z
    exact h J
   ·rcases gX s i with q|q
    ·obtain⟨t,a,b,c⟩:=j.has s q
     exact⟨t,eJ _ a,b,c⟩
    ·have e:s=i:=by omega
     subst e
     exact⟨s,by simp,rfl,aP _⟩
theorem VQ{l:List Nat}(part:Nat->Nat){p:Nat}(h:p∈l.map part):(l.map part).idxOf p<l.length/\part (l.getD ((l.map part).idxOf p) 0)=p:=by
 have h1:=p7 h
 have h2:=p8 h1
 rw[aN]at h1
 refine⟨h1,?_⟩
 rw[eG]at h2
 simp only[aX,bK h1,eX]
 exact h2
theorem zcf(part:Nat->Nat)(n:Nat):Kept n part (xb part n) (vR part (xb part n)):=by
 have O:=WM part n
 generalize xb part n=kept at O
 have q:∀i,i<kept.length->kept.getD i 0∈kept:=λi hi=>by
  simp only[aX,bK hi,eX]
  exact bY hi
 have up:∀i j,i<j->j<kept.length->kept.getD i 0<kept.getD j 0:=λi j U z=>by
  have hi:i<kept.length:=by omega
  simp only[aX,bK hi,bK z,eX]
  exact p9.mp O.up i j hi z U
 have J:∀s,s<n->part s∈kept.map part:=λs I=>by
  obtain⟨t,a,b,_⟩:=O.has s I
  exact bA.mpr ⟨t,a,b⟩
 have inj:∀i j,i<kept.length->j<kept.length->part (kept.getD i 0)=part (kept.getD j 0)->i=j:=λi j hi z e=>by
  have Y:i<(kept.map part).length:=by rw[aN];exact hi
  have Z:j<(kept.map part).length:=by rw[aN];exact z
  refine(gZ (h₀:=Y) (h₁:=Z) O.nd).mp ?_
  rw[eG,eG]
  simpa only[aX,bK hi,bK z,eX]using e
 refine⟨λi hi=>O.lt _ (q i hi),up,λs I=>(VQ part (J s I)).1,λs I=>(VQ part (J s I)).2,λs I=>?_,λs t _ _ e=>by unfold vR;rw[e],λi hi=>?_⟩
 ·obtain⟨t,a,b,c⟩:=O.has s I
  obtain⟨q1,q2⟩:=VQ part (J s I)
  obtain⟨j,z,ej⟩:=cS.mp a
  have R:kept.getD j 0=t:=by
   simp only[aX,bK z,eX];exact ej
  have:(kept.map part).idxOf (part s)=j:=inj _ _ q1 z (by rw[q2,R,b])
  show kept.getD ((kept.map part).idxOf (part s)) 0<=s
  rw[this,R];exact c
 ·obtain⟨q1,q2⟩:=VQ part (bA.mpr ⟨_,q i hi,rfl⟩)
  exact inj _ _ q1 hi q2
def zW(o:List Nat)(g:Nat):List Nat:=if g∈o then o else o++[g]
structure BI (n A:Nat) (δ:Nat->Nat->Nat) (i a:Nat) (o:List Nat):Prop where
 nd:o.Nodup
 lt:∀s∈o,s<n
 hd:o.getD 0 0=0
 le:i<=o.length
 pos:0<o.length
 cl:∀j b,b<A->(j<i\/(j=i/\b<a))->δ b (o.getD j 0)∈o
 met:∀k,0<k->k<o.length->∃j b,j<k/\(j<i\/(j=i/\b<a))/\b<A/\δ b (o.getD j 0)=o.getD k 0/\∀j' b',b'<A->(j'<j\/(j'=j/\b'<b))->δ b' (o.getD j' 0)∈o.take k
section
variable {n A:Nat} {δ:Nat->Nat->Nat} {i a:Nat} {o:List Nat}
theorem wj{l:List Nat}{i:Nat}(h:i<l.length):l.getD i 0∈l:=by
 simp only[aX,bK h,eX]
 exact bY h
theorem Zq(q:0<n):BI n A δ 0 0 [0]:=⟨by simp,by simpa using q,rfl,by simp,by simp,λj b _ h=>by omega,λk I z=>by simp at z;omega⟩
theorem ziL(aa:∀a s,a<A->s<n->δ a s<n)(ha:a<A)(hi:i<o.length)(b:BI n A δ i a o):BI n A δ i (a+1) (zW o (δ a (o.getD i 0))):=by
 unfold zW
 by_cases h:δ a (o.getD i 0)∈o
 ·rw[if_pos h]
  refine⟨b.nd,b.lt,b.hd,b.le,b.pos,λj c hc Y=>?_,λk h0 Z=>?_⟩
  ·by_cases q:j<i\/(j=i/\c<a)
   ·exact b.cl j c hc q
   ·obtain⟨e,e2⟩:=ze7 q Y
    subst e;subst e2;exact h
  ·obtain⟨j,c,R,q2,q3⟩:=b.met k h0 Z
   exact⟨j,c,R,ze8 q2,q3⟩
 ·rw[if_neg h]
  have J:∀j,j<o.length->(o++[δ a (o.getD i 0)]).getD j 0=o.getD j 0:=λj hj=>by rw[xr,if_pos hj]
  have ge:(o++[δ a (o.getD i 0)]).getD o.length 0=δ a (o.getD i 0):=by rw[xr,if_neg (cV _),if_pos rfl]
  refine⟨?_,λs hs=>?_,by rw[J 0 b.pos];exact b.hd,by rw[bM];exact bS b.le (jX _ _),by simp,λj c hc Y=>?_,λk h0 Z=>?_⟩
  ·rw[dZ]
   refine⟨b.nd,by simp,λx hx y hy z=>?_⟩
   have:y=δ a (o.getD i 0):=by simpa using hy
   subst this;subst z;exact h hx
  ·rcases bX.mp hs with q|q
   ·exact b.lt s q
   ·have:s=δ a (o.getD i 0):=by simpa using q
    rw[this];exact aa a _ ha (b.lt _ (wj hi))
  ·rw[J j (zay Y hi)]
   by_cases q:j<i\/(j=i/\c<a)
   ·exact eJ _ (b.cl j c hc q)
   ·obtain⟨e,e2⟩:=ze7 q Y
    subst e;subst e2
    exact dH _ (by simp)
  ·rw[bM,cN]at Z
   rcases gX k o.length with q|q
   ·obtain⟨j,c,R,q2,q3,q4,q5⟩:=b.met k h0 q
    refine⟨j,c,R,ze8 q2,q3,by rw[J j (dP R q),J k q];exact q4,λU b' O I=>?_⟩
    rw[J U (zay I (dP R q)),lB (fI q)]
    exact q5 U b' O I
   ·have e:k=o.length:=p6 (Nat.le_of_lt_succ Z) q
    subst e
    refine⟨i,a,hi,.inr ⟨rfl,iB a⟩,ha,by rw[J i hi,ge],λU b' O I=>?_⟩
    rw[J U (zay I hi),lB (aP _),fG]
    exact b.cl U b' O I
theorem zdk(o:List Nat)(x:Nat):∀j,j<o.length->(zW o x).getD j 0=o.getD j 0/\o.length<=(zW o x).length:=λj q=>by
 unfold zW
 split
 ·exact⟨rfl,aP _⟩
 ·exact⟨by rw[xr,if_pos q],by simp⟩
theorem Xv(j:∀a s,a<A->s<n->δ a s<n):∀(q:List Nat) (a:Nat) (o:List Nat),a+q.length=A->i<o.length->(∀b,b<q.length->q.getD b 0=δ (a+b) (o.getD i 0))->BI n A δ i a o->BI n A δ i A (q.foldl zW o)/\o.length<=(q.foldl zW o).length
 | [],a,o,h,hi,z,b=>by
  have e:a=A:=by simpa using h
  subst e
  exact⟨b,aP _⟩
 | x::r,a,o,h,hi,z,b=>by
  rw[cD]at h
  have ex:x=δ a (o.getD i 0):=by simpa using z 0 (by simp)
  have s:=ziL j (by omega) hi b
  rw[<-ex]at s
  obtain⟨I,p2⟩:=zdk o x i hi
  obtain⟨J,O⟩:=Xv j r (a+1) (zW o x) (by omega) (by omega) (λc R=>by
   have:=z (c+1) (by simp;omega)
   rw[I,show a+1+c=a+(c+1) by omega,<-this];simp) s
  exact⟨J,bS p2 O⟩
theorem XX(hi:i<o.length)(b:BI n A δ i A o):BI n A δ (i+1) 0 o :=
 ⟨b.nd,b.lt,b.hd,hi,b.pos,λj c q R=>b.cl j c q (by omega),λk z I=>by
  obtain⟨j,c,J,U,O⟩:=b.met k z I
  exact⟨j,c,J,by omega,O⟩⟩
def wc(rows:List (List Nat))(o:List Nat)(i:Nat):List Nat:=(rows.getD (o.getD i 0) []).foldl zW o
def bfs(rows:List (List Nat)):Nat->Nat->List Nat->List Nat
 | 0,_,o=>o
 | f+1,i,o=>if i<o.length then bfs rows f (i+1) (wc rows o i)else o
theorem UF{rows:List (List Nat)}(j:∀a s,a<A->s<rows.length->(rows.getD s []).getD a 0<rows.length)(I:∀s,s<rows.length->(rows.getD s []).length=A):
  ∀(f i:Nat) (o:List Nat),BI rows.length A (λa s=>(rows.getD s []).getD a 0) i 0 o->rows.length<=f+i->BI rows.length A (λa s=>(rows.getD s []).getD a 0) (bfs rows f i o).length 0 (bfs rows f i o)
 | f,i,o,b,O=>by
  have q:o.length<=rows.length:=by
   have:=yH (m:=aF rows.length) b.nd λs z=>bR.mpr (b.lt s z)
   rwa [cY]at this
  cases f with
  | zero=>
   have e:i=o.length:=by have:=b.le;omega
   show BI _ _ _ o.length 0 o
   rw[<-e];exact b
  | succ f=>
   unfold bfs
   by_cases hi:i<o.length
   ·rw[if_pos hi]
    have z:=b.lt _ (wj hi)
    obtain⟨J,R⟩:=Xv j (rows.getD (o.getD i 0) []) 0 o (by rw[I _ z];omega) hi (λc _=>by rw[dQ]) b
    exact UF j I f (i+1) _ (XX (show i<((rows.getD (o.getD i 0) []).foldl zW o).length by omega) J) (by omega)
   ·rw[if_neg hi]
    have e:i=o.length:=by have:=b.le;omega
    rw[<-e];exact b
theorem zgB(b:BI n A δ o.length 0 o):Met A o.length λa k=>o.idxOf (δ a (o.getD k 0)):=λk Y z=>by
 obtain⟨j,c,Z,q2,q3,q4,q5⟩:=b.met k Y z
 have q:o.idxOf (o.getD k 0)=k:=by
  simp only[aX,bK z,eX]
  exact qa b.nd k z
 refine⟨j,c,Z,q3,by show o.idxOf (δ c (o.getD j 0))=k;rw[q4,q],λO R I J=>?_⟩
 have hm:=q5 O R I J
 obtain⟨t,ht,U⟩:=cS.mp hm
 rw[iP]at ht
 rw[m4]at U
 show o.idxOf (δ R (o.getD O 0))<k
 rw[<-U,qa b.nd t (by omega)]
 omega
theorem XY(b:BI n A δ o.length 0 o):∀a s,a<A->s<o.length->o.idxOf (δ a (o.getD s 0))<o.length:=λa s j q=>p7 (b.cl s a j (.inl q))
theorem VR(b:BI n A δ o.length 0 o):∀s,s<o.length->yE A (λa k=>o.idxOf (δ a (o.getD k 0))) δ (λk=>g (o.getD k 0)) g s (o.getD s 0):=by
 have key:∀(w:List Nat) (s:Nat),s<o.length->(∀a∈w,a<A)->g (o.getD (yp (λa k=>o.idxOf (δ a (o.getD k 0))) s w) 0)=g (yp δ (o.getD s 0) w):=by
  intro w
  induction w with
  | nil=>intro s _ _;rfl
  | cons a w I=>
   intro s z j
   have J:=j a bN
   have q:=XY b a s J z
   have e:o.getD (o.idxOf (δ a (o.getD s 0))) 0=δ a (o.getD s 0):=by
    generalize δ a (o.getD s 0)=y at q
    rw[aX,bK q,eX]
    exact p8 q
   have:=I (o.idxOf (δ a (o.getD s 0))) q λc O=>j c (bO _ O)
   rw[e]at this
   exact this
 exact λs z w j=>key w s z j
end
theorem vt(j:∀a s,a<A->s<n->δ a s<n):∀(w:List Nat) (s:Nat),(∀a∈w,a<A)->s<n->yp δ s w<n
 | [],s,_,q=>q
 | a::w,s,z,q=>vt j w (δ a s) (λb I=>z b (bO _ I)) (j a s (z a bN) q)
theorem zdl{A:Nat}{rows:List (List Nat)}{good:Nat->Bool}(hn:0<rows.length)(Y:∀a s,a<A->s<rows.length->(rows.getD s []).getD a 0<rows.length)(hA:∀s,s<rows.length->(rows.getD s []).length=A) 
  {o:List Nat} (ho:o=bfs rows rows.length 0 [0]) {bs:List (List (List Nat))} (Z:bs.length=A) (aa:∀i,i<A->Back o.length (λk=>o.idxOf ((rows.getD (o.getD k 0) []).getD i 0)) (bs.getD i []))
  {part:Nat->Nat} (J:part=λs=>(xi bs (o.map good)).getD s 0) {kept:List Nat} (hk:kept=xb part o.length) :
  Canon A kept.length (λa i=>vR part kept (o.idxOf ((rows.getD (o.getD (kept.getD i 0) 0) []).getD a 0))) (λi=>good (o.getD (kept.getD i 0) 0))/\
  yE A (λa i=>vR part kept (o.idxOf ((rows.getD (o.getD (kept.getD i 0) 0) []).getD a 0))) (λa s=>(rows.getD s []).getD a 0) (λi=>good (o.getD (kept.getD i 0) 0)) good 0 0:=by
 have b:BI rows.length A (λa s=>(rows.getD s []).getD a 0) o.length 0 o:=by
  have:=UF Y hA rows.length 0 [0] (Zq hn) (by omega)
  rw[<-ho]at this;exact this
 have j:=XY b
 have q:(o.map good).length=o.length:=aN _
 have U:∀s,s<o.length->(o.map good).getD s false=good (o.getD s 0):=λs I=>by
  simp only[aX,aY,bK I,eL,eX]
 have R:∀a s,a<A->s<(o.map good).length->(λa k=>o.idxOf ((rows.getD (o.getD k 0) []).getD a 0)) a s<(o.map good).length:=λa s ha I=>by
  rw[q]at I ⊢;exact j a s ha I
 obtain⟨_,ps⟩:=Xm (A:=A) (δ:=λa k=>o.idxOf ((rows.getD (o.getD k 0) []).getD a 0)) (good:=o.map good) R Z (λi hi=>by rw[q];exact aa i hi)
 have hp:∀s t,s<o.length->t<o.length->(part s=part t↔yE A (λa k=>o.idxOf ((rows.getD (o.getD k 0) []).getD a 0)) (λa k=>o.idxOf ((rows.getD (o.getD k 0) []).getD a 0)) (λk=>good (o.getD k 0)) (λk=>good (o.getD k 0)) s t):=λs t I ht=>by
  have e:=ps s t (by rw[q];exact I) (by rw[q];exact ht)
  rw[J]
  show(xi bs (o.map good)).getD s 0=(xi bs (o.map good)).getD t 0↔_
  rw[e]
  constructor
  ·intro h w O
   refine m3 λz=>h ⟨w,O,?_⟩
   rw[U _ (vt j w s O I),U _ (vt j w t O ht)]
   exact z
  ·rintro h ⟨w,O,z⟩
   rw[U _ (vt j w s O I),U _ (vt j w t O ht)]at z
   exact z (h w O)
 have K:=zcf part o.length
 rw[<-hk]at K
 obtain⟨z1,z2,z3⟩:=QL b.pos K
 refine⟨zdj b.pos j hp (zgB b) K,?_⟩
 have a1:=VP j hp K 0 b.pos
 rw[z1]at a1
 have a2:=VR (g:=good) b 0 b.pos
 rw[b.hd]at a2
 exact a1.trans a2
abbrev dl(rows:List (List Nat)):Nat->Nat->Nat:=λa s=>(rows.getD s []).getD a 0
structure OkR (A:Nat) (rows:List (List Nat)):Prop where
 pos:0<rows.length
 len:∀s,s<rows.length->(rows.getD s []).length=A
 lt:∀a s,a<A->s<rows.length->dl rows a s<rows.length
structure Lst (A:Nat) (rows:List (List Nat)) (g:Nat->Bool) (rows':List (List Nat)) (g':Nat->Bool):Prop where
 ok:OkR A rows'
 le:rows'.length<=rows.length
 can:Canon A rows'.length (dl rows') g'
 al:yE A (dl rows') (dl rows) g' g 0 0
theorem YH(j:∀a s,a<A->s<n->δ a s<n)(I:∀a s,a<A->s<n->δ a s=q a s):∀(w:List Nat) (s:Nat),(∀a∈w,a<A)->s<n->yp δ s w=yp q s w
 | [],s,_,z=>rfl
 | a::w,s,J,z=>by
  have O:=J a bN
  show yp δ (δ a s) w=yp q (q a s) w
  rw[<-I a s O z]
  exact YH j I w (δ a s) (λb R=>J b (bO _ R)) (j a s O z)
theorem yE.congr(j:∀a s,a<A->s<n->δ a s<n)(I:∀a s,a<A->s<n->δ a s=J a s)(O:∀s,s<n->g s=g' s)(z:s<n)(h:yE A δ δ2 g g2 s t):yE A J δ2 g' g2 s t:=λw q=>by
 rw[<-YH j I w s q z,<-O _ (vt j w s q z)]
 exact h w q
theorem Canon.congr(c:Canon A m δ g)(R:∀a s,a<A->s<m->δ a s=Y a s)(hg:∀s,s<m->g s=g' s):Canon A m Y g':=by
 have q:∀a s,a<A->s<m->Y a s<m:=λa s U z=>by rw[<-R a s U z];exact c.lt a s U z
 refine⟨c.pos,q,λs t z Z h=>?_,λk h0 hk=>?_⟩
 ·have I:∀a s,a<A->s<m->Y a s=δ a s:=λa s U z=>(R a s U z).symm
  have J:∀s,s<m->g' s=g s:=λs z=>(hg s z).symm
  have h1:=yE.congr q I J z h
  have h2:=yE.congr q I J Z h1.symm
  exact c.ap s t z Z h2.symm
 ·obtain⟨j,a,q1,q2,q3,q4⟩:=c.met k h0 hk
  refine⟨j,a,q1,q2,by rw[<-R a j q2 (by omega)];exact q3,λj' a' O hl=>?_⟩
  rw[<-R a' j' O (by omega)]
  exact q4 j' a' O hl
theorem vk{α:Type}{l:List Nat}{f:Nat->α}{d:α}{i:Nat}(h:i<l.length):(l.map f).getD i d=f (l.getD i 0):=by
 simp only[aX,aY,bK h,eL,eX]
theorem xW{l:List Nat}{i:Nat}(h:i<l.length):l.getD i 0=l[i]:=by
 rw[aX,bK h];rfl
section
variable {A:Nat} {rows near rows':List (List Nat)} {good g':Nat->Bool} {o kept:List Nat} {bs:List (List (List Nat))} {part:Nat->Nat}
theorem vF(ok:OkR A rows)(j:o=bfs rows rows.length 0 [0]):BI rows.length A (dl rows) o.length 0 o:=by
 have:=UF ok.lt ok.len rows.length 0 [0] (Zq ok.pos) (by omega)
 rw[<-j]at this;exact this
theorem Zr(b:BI rows.length A (dl rows) o.length 0 o):o.length<=rows.length:=by
 have:=yH (m:=aF rows.length) b.nd λs j=>bR.mpr (b.lt s j)
 rwa [cY]at this
theorem zaA(j:near=o.map λs=>(rows.getD s []).map λg=>o.idxOf g)(q:k<o.length):near.getD k []=(rows.getD (o.getD k 0) []).map λg=>o.idxOf g:=by
 rw[j];exact vk q
theorem Yh(ok:OkR A rows)(b:BI rows.length A (dl rows) o.length 0 o)(j:near=o.map λs=>(rows.getD s []).map λg=>o.idxOf g)(z:a<A)(q:k<o.length):dl near a k=o.idxOf (dl rows a (o.getD k 0)):=by
 show(near.getD k []).getD a 0=_
 rw[zaA j q]
 exact vk (by rw[ok.len _ (b.lt _ (wj q))];exact z)
theorem UG(ok:OkR A rows)(b:BI rows.length A (dl rows) o.length 0 o)(j:near=o.map λs=>(rows.getD s []).map λg=>o.idxOf g):OkR A near/\near.length=o.length:=by
 have z:near.length=o.length:=by rw[j,aN]
 refine⟨⟨by rw[z];exact b.pos,λs q=>?_,λa s I q=>?_⟩,z⟩
 ·rw[z]at q
  rw[zaA j q,aN]
  exact ok.len _ (b.lt _ (wj q))
 ·rw[z]at q ⊢
  rw[Yh ok b j I q]
  exact XY b a s I q
theorem zdm(ok:OkR A rows)(ho:o=bfs rows rows.length 0 [0])(j:near=o.map λs=>(rows.getD s []).map λg=>o.idxOf g)(U:bs.length=A)(ac:∀i,i<A->Back near.length (λs=>(near.getD s []).getD i 0) (bs.getD i [])) 
  (J:part=λs=>(xi bs (o.map good)).getD s 0) (hk:kept=xb part o.length) (hr:rows'=kept.map λs=>(near.getD s []).map (vR part kept)) (hg:g'=λi=>good (o.getD (kept.getD i 0) 0)) :
  Lst A rows good rows' g'/\(xi bs (o.map good)).length=o.length/\(∀s∈kept,s<o.length)/\(∀s,s<o.length->part s∈kept.map part):=by
 have b:=vF ok ho
 obtain⟨Y,nl⟩:=UG ok b j
 have I:∀i,i<A->Back o.length (λk=>o.idxOf ((rows.getD (o.getD k 0) []).getD i 0)) (bs.getD i []):=λi hi=>by
  have q:=ac i hi
  rw[nl]at q
  refine⟨q.nd,λt s=>?_⟩
  rw[q.mem t s]
  constructor
  ·rintro⟨x,y⟩;exact⟨x,by rw[<-y];exact(Yh ok b j hi x).symm⟩
  ·rintro⟨x,y⟩;exact⟨x,by rw[<-y];exact Yh ok b j hi x⟩
 obtain⟨c,al⟩:=zdl ok.pos ok.lt ok.len ho U I J hk
 have K:=zcf part o.length
 rw[<-hk]at K
 have Z:=WM part o.length
 rw[<-hk]at Z
 have hl:rows'.length=kept.length:=by rw[hr,aN]
 have he:∀a s,a<A->s<kept.length->vR part kept (o.idxOf ((rows.getD (o.getD (kept.getD s 0) 0) []).getD a 0))=dl rows' a s:=λa s R z=>by
  have h1:rows'.getD s []=(near.getD (kept.getD s 0) []).map (vR part kept):=by rw[hr];exact vk z
  show _=(rows'.getD s []).getD a 0
  have aa:kept.getD s 0<o.length:=K.lt s z
  rw[h1,vk (by rw[Y.len _ (by rw[nl];exact aa)];exact R)]
  exact congrArg _ (Yh ok b j R aa).symm
 have ab:∀s,s<kept.length->(λi=>good (o.getD (kept.getD i 0) 0)) s=g' s:=λs _=>by rw[hg]
 have c':=c.congr he ab
 have ad:=yE.congr c.lt he ab c.pos al
 refine⟨⟨⟨by rw[hl];exact c.pos,λs z=>?_,λa s R z=>?_⟩,?_,by rw[hl];exact c',ad⟩,?_,Z.lt,λs z=>?_⟩
 ·rw[hl]at z
  have h1:rows'.getD s []=(near.getD (kept.getD s 0) []).map (vR part kept):=by rw[hr];exact vk z
  rw[h1,aN]
  exact Y.len _ (by rw[nl];exact K.lt s z)
 ·rw[hl]at z ⊢
  exact c'.lt a s R z
 ·have h2:kept.length<=o.length:=by
   have:=yH (l:=kept) (m:=aF o.length) (Z.up.imp λh=>by omega) λs z=>bR.mpr (Z.lt s z)
   rwa [cY]at this
  have:=Zr b
  omega
 ·have O:(o.map good).length=o.length:=aN _
  exact(Xm (A:=A) (δ:=λa k=>o.idxOf ((rows.getD (o.getD k 0) []).getD a 0)) (good:=o.map good) (λa s R z=>by rw[O]at z ⊢;exact XY b a s R z) U (λi hi=>by rw[O];exact I i hi)).1.trans O
 ·obtain⟨t,ht,e,_⟩:=Z.has s z
  exact e▸bA.mpr ⟨t,ht,rfl⟩
theorem Lst.one{r1 r2 q z:List (List Nat)}{g1 g2 h1 h2:Nat->Bool}(l1:Lst A r1 g1 q h1)(l2:Lst A r2 g2 z h2)(I:yE A (dl r1) (dl r2) g1 g2 0 0):q=z/\∀s,s<q.length->h1 s=h2 s:=by
 obtain⟨J,O,R⟩:=zgA l1.can l2.can ((l1.al.trans I).trans l2.al.symm)
 refine⟨?_,R⟩
 refine jV J λs a b=>?_
 have g1:q.getD s []=q[s]:=by simp[aX,a]
 have g2:z.getD s []=z[s]:=by simp[aX,b]
 rw[<-g1,<-g2]
 refine jV (by rw[l1.ok.len s a,l2.ok.len s b]) λi x y=>?_
 have:=O i s (by rw[<-l1.ok.len s a];exact x) a
 show(q.getD s [])[i]=(z.getD s [])[i]
 have j:(q.getD s []).getD i 0=(z.getD s []).getD i 0:=this
 rw[xW x,xW y]at j
 exact j
end
def wz(n2:Nat)(x y:List Nat):List Nat:=(x.zip y).map λp=>p.1*n2+p.2
def prR(r1 r2:List (List Nat)):List (List Nat):=(aF (r1.length*r2.length)).map λp=>wz r2.length (r1.getD (p/r2.length) []) (r2.getD (p%r2.length) [])
section
variable {A:Nat} {r1 r2:List (List Nat)}
theorem uo:(prR r1 r2).length=r1.length*r2.length:=by simp[prR]
theorem UH(h:p<r1.length*r2.length):(prR r1 r2).getD p []=wz r2.length (r1.getD (p/r2.length) []) (r2.getD (p%r2.length) []):=by
 unfold prR
 rw[aX,aY,fP h];rfl
theorem YI(j:OkR A r2)(h:p<r1.length*r2.length):p/r2.length<r1.length/\p%r2.length<r2.length :=
 ⟨pW (by rw[gW];exact h),lz _ j.pos⟩
theorem zhV(j:s<r1.length)(q:o<r2.length):s*r2.length+o<r1.length*r2.length:=by
 have:(s+1)*r2.length<=r1.length*r2.length:=iY _ j
 rw[Nat.add_mul]at this
 omega
theorem Yi{s o n2:Nat}(j:o<n2):(s*n2+o)/n2=s/\(s*n2+o)%n2=o:=by
 have q:0<n2:=by omega
 constructor
 ·rw[gW,pX q,pY j];rfl
 ·rw[gW,pZ,p0 j]
theorem zaB(h1:x.length=A)(h2:y.length=A):(wz n2 x y).length=A:=by simp[wz,h1,h2]
theorem zaC(h1:x.length=A)(h2:y.length=A)(z:a<A):(wz n2 x y).getD a 0=x.getD a 0*n2+y.getD a 0:=by
 unfold wz
 have j:x[a]?=some x[a]:=bK (by omega)
 have q:y[a]?=some y[a]:=bK (by omega)
 rw[aX,aY,bK (by simp;omega),qb,aX,aX,j,q]
 rfl
theorem ze9(q:OkR A r1)(j:OkR A r2)(z:a<A)(h:p<r1.length*r2.length):dl (prR r1 r2) a p=dl r1 a (p/r2.length)*r2.length+dl r2 a (p%r2.length):=by
 obtain⟨h1,h2⟩:=YI j h
 show((prR r1 r2).getD p []).getD a 0=_
 rw[UH h]
 exact zaC (q.len _ h1) (j.len _ h2) z
theorem Xw(q:OkR A r1)(j:OkR A r2):OkR A (prR r1 r2):=by
 refine⟨by rw[uo];exact qc q.pos j.pos,λs z=>?_,λa s I z=>?_⟩
 ·rw[uo]at z
  obtain⟨h1,h2⟩:=YI j z
  rw[UH z]
  exact zaB (q.len _ h1) (j.len _ h2)
 ·rw[uo]at z ⊢
  obtain⟨h1,h2⟩:=YI j z
  rw[ze9 q j I z]
  exact zhV (q.lt a _ I h1) (j.lt a _ I h2)
theorem zaD(j:OkR A r1)(q:OkR A r2):∀(w:List Nat) (s o:Nat),(∀a∈w,a<A)->s<r1.length->o<r2.length->yp (dl (prR r1 r2)) (s*r2.length+o) w=yp (dl r1) s w*r2.length+yp (dl r2) o w
 | [],s,o,_,_,_=>rfl
 | a::w,s,o,J,O,z=>by
  have I:=J a bN
  show yp (dl (prR r1 r2)) (dl (prR r1 r2) a (s*r2.length+o)) w=yp (dl r1) (dl r1 a s) w*r2.length+yp (dl r2) (dl r2 a o) w
  rw[ze9 j q I (zhV O z),(Yi z).1,(Yi z).2]
  exact zaD j q w _ _ (λb R=>J b (bO _ R)) (j.lt a s I O) (q.lt a o I z)
theorem XZ{o o':List Nat}{x:Nat}(h:o<+: o')(j:x∈o):o'.idxOf x=o.idxOf x:=by
 obtain⟨r,rfl⟩:=h
 rw[List.idxOf_append,if_pos j]
theorem Y0:o<+: zW o x:=by
 unfold zW;split
 ·exact lC _
 ·exact m5 _ _
theorem zdn:x∈zW o x:=by
 unfold zW;split
 ·assumption
 ·simp
theorem uA:∀(j:List Nat) (o:List Nat),o<+: j.foldl zW o
 | [],o=>lC _
 | g::r,o=>Y0.trans (uA r (zW o g))
theorem zaE:∀(j:List Nat) (o:List Nat),x∈j->x∈j.foldl zW o
 | g::r,o,h=>by
  rcases aU.mp h with rfl|h
  ·exact(uA r (zW o x)).subset zdn
  ·exact zaE r _ h
def vf(j:List (List Nat))(o:List Nat)(k:Nat):List (List Nat):=(o.take k).map λp=>(j.getD p []).map o.idxOf
theorem QM(h:k<=o.length):(vf j o k).length=k:=by simp[vf];omega
theorem zgC(h:o<+: o')(j:k<=o.length):o'.take k=o.take k:=by
 obtain⟨r,rfl⟩:=h
 exact lB j
theorem zdo{z:List (List Nat)}{o:List Nat}{k:Nat}(ok:OkR A z)(b:BI z.length A (dl z) k 0 o)(I:k<o.length):vf z o k++[(z.getD (o.getD k 0) []).map (wc z o k).idxOf]=vf z (wc z o k) (k+1):=by
 have p:o<+: wc z o k:=uA _ _
 have R:k<(wc z o k).length:=cI I p.length_le
 have ek:(wc z o k)[k]=o.getD k 0:=by
  obtain⟨r,hr⟩:=p
  have:(wc z o k)[k]?=some (o.getD k 0):=by
   rw[<-hr,dF I,bK I,aX,bK I];rfl
  exact(bE.mp this).2
 unfold vf
 rw[iG R,cL,ek,zgC p (fI I)]
 congr 1
 refine dC λq hq=>?_
 obtain⟨j,hj,ej⟩:=cS.mp hq
 have U:j<k:=by simp at hj;omega
 have J:j<o.length:=by omega
 have O:o.getD j 0=q:=by rw[m4]at ej;rw[xW J];exact ej
 have Y:q<z.length:=by rw[<-O];exact b.lt _ (wj J)
 refine dC λx hx=>(XZ p ?_).symm
 obtain⟨a,Z,ea⟩:=cS.mp hx
 have aa:a<A:=by rw[ok.len q Y]at Z;exact Z
 have:=b.cl j a aa (.inl U)
 rw[O]at this
 have e2:dl z a q=x:=by show(z.getD q []).getD a 0=x;rw[xW Z];exact ea
 rw[e2]at this
 exact this
theorem zgD(ok:OkR A j)(b:BI j.length A (dl j) k 0 o)(q:k<o.length):BI j.length A (dl j) (k+1) 0 (wc j o k):=by
 obtain⟨z,I⟩:=Xv (i:=k) ok.lt (j.getD (o.getD k 0) []) 0 o (by rw[ok.len _ (b.lt _ (wj q))];omega) q (λc _=>by rw[dQ]) b
 exact XX (show k<(wc j o k).length from cI q I) z
theorem zaF(b:BI j.length A (dl j) k 0 o):o.length<=j.length:=by
 have:=yH (m:=aF j.length) b.nd λs q=>bR.mpr (b.lt s q)
 rwa [cY]at this
theorem zgE(q:k<o.length)(z:o.length<=j.length):bfs j (j.length-k) k o=bfs j (j.length-(k+1)) (k+1) (wc j o k):=by
 rw[show j.length-k=(j.length-(k+1))+1 by omega]
 show(if k<o.length then _ else _)=_
 rw[if_pos q]
theorem zgF(j:¬k<o.length):bfs q f k o=o:=by
 cases f with
 | zero=>rfl
 | succ f=>unfold bfs;rw[if_neg j]
def xj(r1 r2:List (List Nat)):List Nat:=bfs (prR r1 r2) (prR r1 r2).length 0 [0]
theorem UI(j:OkR A r1)(q:OkR A r2):BI (prR r1 r2).length A (dl (prR r1 r2)) (xj r1 r2).length 0 (xj r1 r2):=vF (Xw j q) rfl
theorem QN:vf j o o.length=o.map λs=>(j.getD s []).map λg=>o.idxOf g:=by
 unfold vf;rw[fG]
def vL(r1 r2:List (List Nat)):List (List Nat):=vf (prR r1 r2) (xj r1 r2) (xj r1 r2).length
theorem zaG(j:OkR A r1)(q:OkR A r2):OkR A (vL r1 r2)/\(vL r1 r2).length=(xj r1 r2).length:=UG (Xw j q) (UI j q) QN
theorem zdp(q:OkR A r1)(j:OkR A r2)(h:Nat->Nat->Bool)(w:List Nat)(z:∀a∈w,a<A):
  (λk=>h ((xj r1 r2).getD k 0/r2.length) ((xj r1 r2).getD k 0%r2.length)) (yp (dl (vL r1 r2)) 0 w)=h (yp (dl r1) 0 w) (yp (dl r2) 0 w):=by
 have b:=UI q j
 have ok:=Xw q j
 have I:=zaG q j
 have U:=VR (g:=λp=>h (p/r2.length) (p%r2.length)) b 0 b.pos w z
 have e:yp (dl (vL r1 r2)) 0 w=yp (λa k=>(xj r1 r2).idxOf (dl (prR r1 r2) a ((xj r1 r2).getD k 0))) 0 w :=
  YH (n:=(vL r1 r2).length) I.1.lt (λa s Y O=>by rw[I.2]at O;exact Yh ok b QN Y O) w 0 z I.1.pos
 have Z:(xj r1 r2).getD 0 0=0:=b.hd
 rw[e]
 have J:h ((xj r1 r2).getD (yp (λa k=>(xj r1 r2).idxOf (dl (prR r1 r2) a ((xj r1 r2).getD k 0))) 0 w) 0/r2.length) ((xj r1 r2).getD (yp (λa k=>(xj r1 r2).idxOf (dl (prR r1 r2) a ((xj r1 r2).getD k 0))) 0 w) 0%r2.length)=h (yp (dl (prR r1 r2)) ((xj r1 r2).getD 0 0) w/r2.length) (yp (dl (prR r1 r2)) ((xj r1 r2).getD 0 0) w%r2.length):=U
 show h _ _=_
 rw[J,Z]
 have R:=zaD q j w 0 0 z q.pos j.pos
 rw[Nat.zero_mul,dQ]at R
 have h2:=vt j.lt w 0 z j.pos
 rw[R,(Yi h2).1,(Yi h2).2]
end
end Hop
namespace L2
open PySem PySem.Spec PyProof.Rows
section
variable {prog:aS} {w:aO} {A:bG} {E:aB->aD->Prop} {s:aD}
structure TSide (h:aK) (i l:aA) (k:Nat) (xs:Array aB):Prop where
 it:h.IsTupleIter i l k
 tp:h.IsTuple l xs
theorem TSide.but(x:TSide h i l k xs)(j:oF b h h')(h1:i≠b)(h2:l≠b):TSide h' i l k xs :=
 ⟨x.it.extBut j h1,by obtain⟨o,q,r⟩:=x.tp;exact⟨o,j _ _ h2 q,r⟩⟩
theorem UJ{z TI TO i1 i2 l1 l2:aA}{k1 k2:Nat}{xs ys:Array aB}{x y a b:aB}{Q:aB->aD->Prop}(D:jY z TI TO i1 i2 l1 l2) 
  (J:dU s.heap z TI TO .none) (ab:cO s.heap TI (.ref i1) (.ref i2)) (ac:cO s.heap TO a b)
  (h1:TSide s.heap i1 l1 k1 xs) (h2:TSide s.heap i2 l2 k2 ys) (hx:xs[k1]?=some x) (hy:ys[k2]?=some y)
  (hQ:∀h',dU h' z TI TO (fX s.heap.objs.size)->cO h' TO x y->h'.IsTupleIter i1 l1 (k1+1)->h'.IsTupleIter i2 l2 (k2+1)->cO h' s.heap.objs.size x y->h'.objs.size=s.heap.objs.size+1->
   (∀c o,c≠z->c≠TO->c≠i1->c≠i2->s.heap.get? c=some o->h'.get? c=some o)->Q (.ref s.heap.objs.size) {s with heap:=h'}) :
  wpAny (aJ prog w) A (fN.«zip.__next__» ⟨[.ref z],[]⟩) (λfin s'=>∃v,fin=.done (.ret v)/\Q v s') E s:=by
 show wpAny _ _ (fM (.ref z) 2>>=_) _ _ _
 refine aI (eC J rfl (x:=.bool false) rfl ?_)
 show wpAny _ _ (fM (.ref z) 3>>=_) _ _ _
 refine aI (eC J rfl (x:=.ref TI) rfl (aI (gG ab rfl ?_)))
 show wpAny _ _ (lD (.ref z)>>=_) _ _ _
 refine aI ?_
 unfold lD
 refine aI (eC J rfl (x:=.none) rfl (bJ ?_))
 simp only[if_true]
 refine aI (kY (aI (eC J rfl (x:=.ref TO) rfl (aI (iZ J (by simp) λg1 q O=>aI ?_)))))
 replace q:dU g1 z TI TO .ellipsis:=q
 simp only[qd,qe,jQ,mQ]
 have s1:=h1.but O.extBut D.i1z D.l1z
 refine aI (aI (lE ?_))
 show wpAny _ _ (gT (.ref i1)>>=_) _ _ _
 refine aI (wL s1.it s1.tp hx λg2 n1 R=>bJ ?_)
 have t2:cO g2 TO a b:=R.extBut _ _ D.TOi1 (O.extBut _ _ D.TOz ac)
 refine aI (gG t2 rfl (aI (m6 t2 λg3 t3 U=>aI (m7 (bJ ?_)))))
 replace t3:cO g3 TO x b:=t3
 have s2:=((h2.but O.extBut D.i2z D.l2z).but R.extBut D.i12.symm D.l2i1).but U.extBut D.TOi2.symm D.l2TO
 refine aI (aI (lE ?_))
 show wpAny _ _ (gT (.ref i2)>>=_) _ _ _
 refine aI (wL s2.it s2.tp hy λg4 n2 Y=>bJ ?_)
 have t4:cO g4 TO x b:=Y.extBut _ _ D.TOi2 t3
 refine aI (gG t4 rfl (aI (m6 t4 λg5 t5 Z=>aI (m7 (bJ (bJ ?_))))))
 replace t5:cO g5 TO x y:=t5
 refine aI (gG t5 rfl (aI (wpAny_newTuple ?_)))
 have hsz:g5.objs.size=s.heap.objs.size:=by rw[Z.1,Y.1,U.1,R.1,O.1]
 have z5:dU g5 z TI TO .ellipsis:=Z.extBut _ _ D.TOz.symm (Y.extBut _ _ D.i2z.symm (U.extBut _ _ D.TOz.symm (R.extBut _ _ D.i1z.symm q)))
 have k5:∀c o,c≠z->c≠TO->c≠i1->c≠i2->s.heap.get? c=some o->g5.get? c=some o:=λc o I c2 c3 c4 e=>
  Z.extBut _ _ c2 (Y.extBut _ _ c4 (U.extBut _ _ c2 (R.extBut _ _ c3 (O.extBut _ _ I e))))
 have m1:g5.IsTupleIter i1 l1 (k1+1):=((n1.extBut U.extBut D.TOi1.symm).extBut Y.extBut D.i12).extBut Z.extBut D.TOi1.symm
 have m2:g5.IsTupleIter i2 l2 (k2+1):=n2.extBut Z.extBut D.TOi2.symm
 have j:z<g5.objs.size:=bF z5
 show wpAny _ _ (qg (.ref z) (.ref g5.objs.size)>>=_) _ _ _
 refine aI ?_
 unfold qg
 have z6:dU (g5.push {cls:=.type "tuple",data:=.seq #[x,y]}) z TI TO .ellipsis:=bB _ z5
 refine aI (iZ z6 (by simp) λg7 z7 b7=>?_)
 replace z7:dU g7 z TI TO (fX g5.objs.size):=z7
 refine iZ z7 (by simp) λg8 z8 b8=>?_
 replace z8:dU g8 z TI TO (fX g5.objs.size):=z8
 have up:∀c o,c≠z->g5.get? c=some o->g8.get? c=some o:=λc o I e=>b8.extBut _ _ I (b7.extBut _ _ I (bB _ e))
 have aa:cO g8 g5.objs.size x y:=b8.extBut _ _ (jD j) (b7.extBut _ _ (jD j) (cK _ rfl))
 have e8:g8.objs.size=g5.objs.size+1:=by rw[b8.1,b7.1,fJ]
 rw[hsz]at z8 aa e8
 refine bJ ⟨_,rfl,?_⟩
 show Q (.ref g5.objs.size) _
 rw[hsz]
 exact hQ g8 z8 (up _ _ D.TOz t5) (m1.at λo e=>up _ o D.i1z e) (m2.at λo e=>up _ o D.i2z e) aa e8 λc o I c2 c3 c4 e=>up c o I (k5 c o I c2 c3 c4 e)
theorem Ja{z TI TO i1 i2 l1 l2:aA}{k1 k2:Nat}{xs ys:Array aB}{a b:aB}{Q:Fin->aD->Prop}(hh:A.handled=none)(D:jY z TI TO i1 i2 l1 l2) 
  (Y:dU s.heap z TI TO .none) (aa:cO s.heap TI (.ref i1) (.ref i2)) (ab:cO s.heap TO a b)
  (h1:TSide s.heap i1 l1 k1 xs) (h2:TSide s.heap i2 l2 k2 ys) (Z:xs[k1]?=none\/ys[k2]?=none)
  (hE:∀h' e,(∀c o,c≠z->c≠TO->c≠i1->c≠i2->s.heap.get? c=some o->h'.get? c=some o)->(∃o,h'.get? e=some o/\o.cls=.type "StopIteration")->E (.ref e) {s with heap:=h'}) :
  wpAny (aJ prog w) A (fN.«zip.__next__» ⟨[.ref z],[]⟩) Q E s:=by
 show wpAny _ _ (fM (.ref z) 2>>=_) _ _ _
 refine aI (eC Y rfl (x:=.bool false) rfl ?_)
 show wpAny _ _ (fM (.ref z) 3>>=_) _ _ _
 refine aI (eC Y rfl (x:=.ref TI) rfl (aI (gG aa rfl ?_)))
 show wpAny _ _ (lD (.ref z)>>=_) _ _ _
 refine aI ?_
 unfold lD
 refine aI (eC Y rfl (x:=.none) rfl (bJ ?_))
 simp only[if_true]
 refine aI (kY (aI (eC Y rfl (x:=.ref TO) rfl (aI (iZ Y (by simp) λg1 J b1=>aI ?_)))))
 replace J:dU g1 z TI TO .ellipsis:=J
 simp only[qd,qe,jQ,mQ]
 have s1:=h1.but b1.extBut D.i1z D.l1z
 refine aI (aI (lE ?_))
 show wpAny _ _ (gT (.ref i1)>>=_) _ _ _
 cases hx:xs[k1]? with
 | none=>
  refine aI (wV hh s1.it s1.tp hx λg2 e O ⟨oe,j,I⟩=>?_)
  have z2:dU g2 z TI TO .ellipsis:=O _ _ D.i1z.symm J
  have R:e≠z:=λq=>by subst q;rw[z2]at j;cases j;simp at I
  exact iZ z2 (by simp) λg3 _ U=>hE g3 e (λc o c1 _ c3 _ q=>U.extBut _ _ c1 (O _ _ c3 (b1.extBut _ _ c1 q))) ⟨oe,U.extBut _ _ R j,I⟩
 | some x=>
  have hy:ys[k2]?=none:=Z.resolve_left (by rw[hx];simp)
  refine aI (wL s1.it s1.tp hx λg2 n1 O=>bJ ?_)
  have t2:cO g2 TO a b:=O.extBut _ _ D.TOi1 (b1.extBut _ _ D.TOz ab)
  refine aI (gG t2 rfl (aI (m6 t2 λg3 t3 U=>aI (m7 (bJ ?_)))))
  have s2:=((h2.but b1.extBut D.i2z D.l2z).but O.extBut D.i12.symm D.l2i1).but U.extBut D.TOi2.symm D.l2TO
  refine aI (aI (lE ?_))
  show wpAny _ _ (gT (.ref i2)>>=_) _ _ _
  refine aI (wV hh s2.it s2.tp hy λg4 e b4 ⟨oe,j,I⟩=>?_)
  have z4:dU g4 z TI TO .ellipsis:=b4 _ _ D.i2z.symm (U.extBut _ _ D.TOz.symm (O.extBut _ _ D.i1z.symm J))
  have R:e≠z:=λq=>by subst q;rw[z4]at j;cases j;simp at I
  exact iZ z4 (by simp) λg5 _ b5=>hE g5 e (λc o c1 c2 c3 c4 q=>b5.extBut _ _ c1 (b4 _ _ c4 (U.extBut _ _ c2 (O.extBut _ _ c3 (b1.extBut _ _ c1 q))))) ⟨oe,b5.extBut _ _ R j,I⟩
theorem WN{z TI TO i1 i2 l1 l2:aA}{j q:Nat}{xs ys:Array aB}{x y a b:aB}{Q:Option aB->aD->Prop}(D:jY z TI TO i1 i2 l1 l2) 
  (O:dU s.heap z TI TO .none) (I:cO s.heap TI (.ref i1) (.ref i2)) (J:cO s.heap TO a b)
  (h1:TSide s.heap i1 l1 j xs) (h2:TSide s.heap i2 l2 q ys) (U:xs[j]?=some x) (Y:ys[q]?=some y)
  (Z:∀h',dU h' z TI TO (fX s.heap.objs.size)->cO h' TO x y->h'.IsTupleIter i1 l1 (j+1)->h'.IsTupleIter i2 l2 (q+1)->cO h' s.heap.objs.size x y->h'.objs.size=s.heap.objs.size+1->
   (∀c o,c≠z->c≠TO->c≠i1->c≠i2->s.heap.get? c=some o->h'.get? c=some o)->Q (some (.ref s.heap.objs.size)) {s with heap:=h'}) :
  wpAny (aJ prog w) A (fA (.ref z)) Q E s:=by
 have R:s.TypeIs (.ref z) "zip":=⟨_,O,rfl⟩
 unfold fA
 exact aI (jR (iR (name:=gF "__next__") R lF
  (iS lF R qh
   (UJ D O I J h1 h2 U Y λh' a1 a2 a3 a4 a5 a6 a7=>bJ (Z h' a1 a2 a3 a4 a5 a6 a7)) (qi _))))
theorem VS{z TI TO i1 i2 l1 l2:aA}{J O:Nat}{xs ys:Array aB}{a b:aB}{Q:Option aB->aD->Prop}(Y:A.handled=none)(D:jY z TI TO i1 i2 l1 l2) 
  (R:dU s.heap z TI TO .none) (q:cO s.heap TI (.ref i1) (.ref i2)) (I:cO s.heap TO a b)
  (h1:TSide s.heap i1 l1 J xs) (h2:TSide s.heap i2 l2 O ys) (j:xs[J]?=none\/ys[O]?=none)
  (Z:∀h',(∀c o,c≠z->c≠TO->c≠i1->c≠i2->s.heap.get? c=some o->h'.get? c=some o)->Q none {s with heap:=h'}):wpAny (aJ prog w) A (fA (.ref z)) Q E s:=by
 have U:s.TypeIs (.ref z) "zip":=⟨_,R,rfl⟩
 unfold fA
 refine aI (jR (iR (name:=gF "__next__") U lF
  (iS lF U qh (Ja Y D R q I h1 h2 j λh' e hk ⟨o,ho,hc⟩=>?_) (qi _))))
 exact aI (k4 (T:="StopIteration") (b:=true) ⟨o,ho,hc⟩ mK (bJ (Z _ hk)))
abbrev tIt(l:aA):aL:={cls:=.type "tuple_iterator",data:=.fields #[.ref l,.int 0 0]}
theorem UK(l1 l2:aA)(xs ys:Array aB):
  iT (fN.«zip.__new__» ⟨[.type "zip",.ref l1,.ref l2],[]⟩) (λ_ R s=>s.heap.IsTuple l1 xs/\s.heap.IsTuple l2 ys/\
   ∀a b c d h',a=s.heap.objs.size->b=a+1->c=a+2->d=a+3->h'=((((s.heap.push (tIt l1)).push (tIt l2)).push {cls:=.type "tuple",data:=.seq #[.ref a,.ref b]}).push {cls:=.type "tuple",data:=.seq #[.none,.none]}).push {cls:=.type "zip",data:=.fields #[.none,.bool false,.bool false,.ref c,.ref d]}->R (.ok (.ret (.ref (a+4)))) {s with heap:=h'}) :=
 .of_wp λprog w A R s h=>by
  obtain⟨hp,g,d,tk,os⟩:=s;obtain⟨hl1,hl2,h⟩:=h
  have hsub:=sub_zip
  have hL1:mH (mJ ⟨hp,g,d,tk,os⟩) l1 xs:=hl1
  have hL2:mH (mJ ⟨hp.push {cls:=.type "tuple_iterator",data:=.fields #[.ref l1,.int 0 0]},g,d,tk,os⟩) l2 ys:=hl2.push _
  wp_walk using iA hL1,iA hL2
  have e1:∀(h:aK) (o:aL),(h.push o).objs.size=h.objs.size+1:=λh o=>fJ ..
  refine⟨_,rfl,?_⟩
  have:=h hp.objs.size (hp.objs.size+1) (hp.objs.size+2) (hp.objs.size+3) _ rfl rfl rfl rfl rfl
  simp only[e1]at this ⊢
  exact this
end
end L2
namespace L2
open PySem PySem.Spec PyProof.Rows
section
variable {prog:aS} {w:aO} {A:bG} {E:aB->aD->Prop} {s:aD}
theorem zbA{l1 l2:aA}{xs ys:Array aB}{Q:aB->aD->Prop}(I:s.heap.IsTuple l1 xs)(J:s.heap.IsTuple l2 ys) 
  (h:∀h',dU h' (s.heap.objs.size+4) (s.heap.objs.size+2) (s.heap.objs.size+3) .none->cO h' (s.heap.objs.size+2) (.ref s.heap.objs.size) (.ref (s.heap.objs.size+1))->
   cO h' (s.heap.objs.size+3) .none .none->h'.IsTupleIter s.heap.objs.size l1 0->h'.IsTupleIter (s.heap.objs.size+1) l2 0->
   (∀c o,s.heap.get? c=some o->h'.get? c=some o)->Q (.ref (s.heap.objs.size+4)) {s with heap:=h'}) :
  wpAny (aJ prog w) A (call (.type "zip") [.ref l1,.ref l2]) Q E s:=by
 refine callType_new F.called_zip (by decide) (F.typeCall_zip_2 _ _) (F.newCall_zip_2 _ _) (λO=>F.args_object_init_3 O _ _) F.entry_zip_new
  (UK l1 l2 xs ys) ⟨I,J,?_⟩
 intro a b c d h' U Y Z ed eh
 have z:∀(h:aK) (o:aL),(h.push o).objs.size=h.objs.size+1:=λh o=>fJ ..
 have j:∀(h:aK) (o:aL) (n:aA),n=h.objs.size->o.isFreed=false->(h.push o).get? n=some o:=λh o n e q=>by rw[e];exact cK _ q
 subst U Y Z ed eh
 have R:(((((s.heap.push (tIt l1)).push (tIt l2)).push {cls:=.type "tuple",data:=.seq #[.ref s.heap.objs.size,.ref (s.heap.objs.size+1)]}).push {cls:=.type "tuple",data:=.seq #[.none,.none]}).push {cls:=.type "zip",data:=.fields #[.none,.bool false,.bool false,.ref (s.heap.objs.size+2),.ref (s.heap.objs.size+3)]}).get? (s.heap.objs.size+4)=some _:=j _ _ _ (by simp only[z]) rfl
 have g4:(((((s.heap.push (tIt l1)).push (tIt l2)).push {cls:=.type "tuple",data:=.seq #[.ref s.heap.objs.size,.ref (s.heap.objs.size+1)]}).push {cls:=.type "tuple",data:=.seq #[.none,.none]}).push {cls:=.type "zip",data:=.fields #[.none,.bool false,.bool false,.ref (s.heap.objs.size+2),.ref (s.heap.objs.size+3)]}).get? (s.heap.objs.size+3)=some _:=bB _ (j _ _ _ (by simp only[z]) rfl)
 have g3:(((((s.heap.push (tIt l1)).push (tIt l2)).push {cls:=.type "tuple",data:=.seq #[.ref s.heap.objs.size,.ref (s.heap.objs.size+1)]}).push {cls:=.type "tuple",data:=.seq #[.none,.none]}).push {cls:=.type "zip",data:=.fields #[.none,.bool false,.bool false,.ref (s.heap.objs.size+2),.ref (s.heap.objs.size+3)]}).get? (s.heap.objs.size+2)=some _:=bB _ (bB _ (j _ _ _ (by simp only[z]) rfl))
 have g2:(((((s.heap.push (tIt l1)).push (tIt l2)).push {cls:=.type "tuple",data:=.seq #[.ref s.heap.objs.size,.ref (s.heap.objs.size+1)]}).push {cls:=.type "tuple",data:=.seq #[.none,.none]}).push {cls:=.type "zip",data:=.fields #[.none,.bool false,.bool false,.ref (s.heap.objs.size+2),.ref (s.heap.objs.size+3)]}).get? (s.heap.objs.size+1)=some _:=bB _ (bB _ (bB _ (j _ _ _ (by simp only[z]) rfl)))
 have g1:(((((s.heap.push (tIt l1)).push (tIt l2)).push {cls:=.type "tuple",data:=.seq #[.ref s.heap.objs.size,.ref (s.heap.objs.size+1)]}).push {cls:=.type "tuple",data:=.seq #[.none,.none]}).push {cls:=.type "zip",data:=.fields #[.none,.bool false,.bool false,.ref (s.heap.objs.size+2),.ref (s.heap.objs.size+3)]}).get? s.heap.objs.size=some _:=bB _ (bB _ (bB _ (bB _ (j _ _ _ rfl rfl))))
 exact⟨⟨_,R,rfl⟩,h _ R g3 g4 ⟨_,g1,rfl,rfl⟩ ⟨_,g2,rfl,rfl⟩ λc o q=>
  bB _ (bB _ (bB _ (bB _ (bB _ q))))⟩
end
end L2
namespace L2
open PySem PySem.Spec PyProof.Rows
structure ZipRecT (z TI TO i1 i2 l1 l2:aA) (i:Nat) (h:aK):Prop where
 hz:dU h z TI TO .none
 hTI:cO h TI (.ref i1) (.ref i2)
 hTO:∃a b,cO h TO a b
 h1:h.IsTupleIter i1 l1 i
 h2:h.IsTupleIter i2 l2 i
 d1:l1≠z/\l1≠TO/\l1≠i1/\l1≠i2
 d2:l2≠z/\l2≠TO/\l2≠i1/\l2≠i2
theorem ZipRecT.apart{z TI TO i1 i2 l1 l2:aA}{i:Nat}{h:aK}(R:ZipRecT z TI TO i1 i2 l1 l2 i h)(D:ZipDiff z TI TO i1 i2):jY z TI TO i1 i2 l1 l2 :=
 ⟨D.TIz,D.TOz,D.i1z,D.i2z,D.TITO,D.TIi1,D.TIi2,D.TOi1,D.TOi2,D.i12,R.d1.1,R.d1.2.1,R.d1.2.2.1,R.d1.2.2.2,R.d2.1,R.d2.2.1,R.d2.2.2.1,R.d2.2.2.2⟩
theorem zfa{P:aS}{w:aO}{K:aE}{elts:List aG}{k:Nat}{tp:aR}{z TI TO i1 i2 l1 l2:aA}(D:ZipDiff z TI TO i1 i2):
  Turn P w K (.Tuple elts k tp) (Itz (λH xs=>SqT K H l1 xs) λH ys=>SqT K H l2 ys) [z,TI,TO,i1,i2] z (ZipRecT z TI TO i1 i2 l1 l2) where
 mem:=by simp
 obj:=λi h R b hb=>by
  obtain⟨a,b',hTO⟩:=R.hTO
  obtain⟨o1,e1,c1,d1⟩:=R.h1
  obtain⟨o2,e2,c2,d2⟩:=R.h2
  simp only[aU,gY,or_false]at hb
  rcases hb with q|q|q|q|q
  ·rw[q];exact⟨_,R.hz,λv z=>by
    have z':Data.fields _=Data.cell v:=z
    cases z'⟩
  ·rw[q];exact⟨_,R.hTI,λv z=>by
    have z':Data.seq _ _=Data.cell v:=z
    cases z'⟩
  ·rw[q];exact⟨_,hTO,λv z=>by
    have z':Data.seq _ _=Data.cell v:=z
    cases z'⟩
  ·rw[q];exact⟨_,e1,λv z=>by rw[d1]at z;cases z⟩
  ·rw[q];exact⟨_,e2,λv z=>by rw[d2]at z;cases z⟩
 keep:=λi h h' R k=>⟨k z (by simp) _ R.hz,k TI (by simp) _ R.hTI,(by obtain⟨a,b,q⟩:=R.hTO;exact⟨a,b,k TO (by simp) _ q⟩),R.h1.at λo q=>k i1 (by simp) o q,R.h2.at λo q=>k i2 (by simp) o q,R.d1,R.d2⟩
 item:=by
  intro X hP hw hK hc i pins s σ H E I hf R hg
  subst hP hw hK
  obtain⟨xs,ys,x,y,hq1,hq2,hx,hy⟩:=hg
  obtain⟨its,rv1,p1,hz1⟩:=I.tuple hq1
  obtain⟨jts,rv2,p2,hz2⟩:=I.tuple hq2
  obtain⟨u,hu,ru⟩:=rv1.get hx
  obtain⟨v,hv,rv⟩:=rv2.get hy
  have D':=R.apart D
  obtain⟨a,b,hTO⟩:=R.hTO
  refine WN D' R.hz R.hTI hTO ⟨R.h1,p1⟩ ⟨R.h2,p2⟩ (x:=u) (y:=v) (by simpa using hu) (by simpa using hv) λh' a1 a2 a3 a4 a5 a6 hk=>?_
  refine⟨_,rfl,wpAny_letOwnedTupleGo_zip a1 λh2 hz2' hs2=>?_⟩
  have lt:∀{c o},s.heap.get? c=some o->c≠s.heap.objs.size:=λe=>bT (bF e)
  have hk2:∀b o,b∉ [z,TI,TO,i1,i2]->s.heap.get? b=some o->h2.get? b=some o:=λb o nb q=>by
   simp only[aU,gY,or_false,not_or]at nb
   exact(hs2.2 b nb.1).trans (hk b o nb.1 nb.2.2.1 nb.2.2.2.1 nb.2.2.2.2 q)
  have I2:=Qu (tk':=s.toks) (cs:=[z,TI,TO,i1,i2]) (h':=h2) I (λb hb=>hf b hb) ru rv ((hs2.2 _ (aQ (lt R.hz))).trans a5) hk2
  refine⟨.ref s.heap.objs.size,_,I2,rfl,⟨_,x,y,I.hok.fresh (aP _),rfl,rfl,λzs hz=>by rw[I.tuple_inj hz hq1];exact hx,λzs hz=>by rw[I.tuple_inj hz hq2];exact hy⟩,⟨hz2',(hs2.2 _ D.TIz).trans (hk _ _ D.TIz D.TITO D.TIi1 D.TIi2 R.hTI),⟨_,_,(hs2.2 _ D.TOz).trans a2⟩,a3.at λo q=>(hs2.2 _ D.i1z).trans q,a4.at λo q=>(hs2.2 _ D.i2z).trans q,R.d1,R.d2⟩,λb hb=>?_⟩
  have hb':wH X pins H b:=hf b hb
  obtain⟨o1,e1,_⟩:=R.h1
  obtain⟨o2,e2,_⟩:=R.h2
  rw[ze (λq=>?_)]
  ·exact hb'.1
  ·simp only[aU,gY,or_false]at hb
   rcases hb with q'|q'|q'|q'|q'
   ·exact lt R.hz (q'.symm.trans q)
   ·exact lt R.hTI (q'.symm.trans q)
   ·exact lt hTO (q'.symm.trans q)
   ·exact lt e1 (q'.symm.trans q)
   ·exact lt e2 (q'.symm.trans q)
 done:=by
  intro X hP hw hK hc i pins s σ H E I hf R hg
  subst hP hw hK
  obtain⟨xs,ys,hq1,hq2,hx⟩:=hg
  obtain⟨its,rv1,p1,hz1⟩:=I.tuple hq1
  obtain⟨jts,rv2,p2,hz2⟩:=I.tuple hq2
  have D':=R.apart D
  obtain⟨a,b,hTO⟩:=R.hTO
  have n1:=rv1.length
  have n2:=rv2.length
  refine VS (I.ok.hd hc) D' R.hz R.hTI hTO ⟨R.h1,p1⟩ ⟨R.h2,p2⟩ (by
   rcases hx with hx|hx
   ·exact .inl (by simp;omega)
   ·exact .inr (by simp;omega)) λh' hk=>⟨rfl,Vv (cs:=[z,TI,TO,i1,i2]) I (λb hb=>hf b hb) λb o nb q=>?_⟩
  simp only[aU,gY,or_false,not_or]at nb
  exact hk b o nb.1 nb.2.2.1 nb.2.2.2.1 nb.2.2.2.2 q
 self:=λ_ _ _ _ _ R h=>qj R.hz h
section
variable {X:Cx}
def zlv(K:aE)(ta:TA):TI:=λσ H R=>ta σ H λvs H1=>∃a b,vs=[.ref a,.ref b]/\(∃xs,SqT K H1 a xs)/\(∃ys,SqT K H1 b ys)/\R (Itz (λH xs=>SqT K H a xs) λH ys=>SqT K H b ys) H1
theorem ziM{a b:aG}{ta:TA}{p pos tp:aR}{J:List aG}{k:Nat}(hg:Gl X "zip")(hm:X.mg "zip"=none)(ha:PA X [a,b] ta)(hs:bD [a,b] X.env=[(false,aW a X.env),(false,aW b X.env)]:=by rfl)(O:bD [b] X.env=[(false,aW b X.env)]:=by rfl):
  PI X (.Tuple J k tp) (.Call (.Name "zip" p) [a,b] [] pos) (zlv X.K ta):=by
 intro pins s σ H R I h
 refine Call_ (Zb I hg hm boot_zip (jE (thn (ha pos pins s σ H _ I h) λus s1 ⟨vs,H1,U,r1,q1⟩=>?_) (by rw[hs,O]) (by rw[O];rfl)))
 obtain⟨l,l',e,⟨xs,hq⟩,⟨ys,ac⟩,q⟩:=q1
 subst e
 cases r1 with
 | cons r rr=>
  cases rr with
  | cons r' rr=>
   cases rr
   cases r
   cases r'
   obtain⟨its,rv,pt,hz⟩:=U.tuple hq
   obtain⟨ad,ae,Y,af⟩:=U.tuple ac
   have Z:l<s1.heap.objs.size:=by obtain⟨o,e,_⟩:=pt;exact bF e
   have aa:l'<s1.heap.objs.size:=by obtain⟨o,e,_⟩:=Y;exact bF e
   refine zbA (xs:=its.toArray) (ys:=ad.toArray) pt Y λh' e1 e2 e3 e4 e5 hk=>?_
   refine qj e1 ?_
   have I2:Inv X pins σ H1 {s1 with heap:=h'}:=U.kept (t':=s1.toks) hk
   generalize hn:s1.heap.objs.size=n at e1 e2 e3 e4 e5 Z aa
   have ap:∀{b:aA},b<n->b≠n+4/\b≠n+3/\b≠n/\b≠n+1:=λ{b} j=>⟨λq=>by rw[q]at j;exact absurd j (by show ¬(n+4:Nat)<n;omega),λq=>by rw[q]at j;exact absurd j (by show ¬(n+3:Nat)<n;omega),λq=>by rw[q]at j;exact cV _ j,λq=>by rw[q]at j;exact absurd j (by show ¬(n+1:Nat)<n;omega)⟩
   refine⟨n+4,[n+4,n+2,n+3,n,n+1],_,_,H1,rfl,I2,zfa (z:=n+4) (TI:=n+2) (TO:=n+3) (i1:=n) (i2:=n+1) (l1:=l) (l2:=l') (zgd n),⟨e1,e2,⟨_,_,e3⟩,e4,e5,ap Z,ap aa⟩,λb j=>?_,q⟩
   have ab:s1.heap.objs.size<=b:=by
    simp only[aU,gY,or_false]at j
    show(s1.heap.objs.size:Nat)<=(b:Nat)
    rw[hn]
    rcases j with z|z|z|z|z <;>rw[z]
    ·exact jX n 4
    ·exact jX n 2
    ·exact jX n 3
    ·exact aP n
    ·exact jX n 1
   exact U.fpOk ab (U.hok.fresh ab)
end
end L2
namespace Pq
open PySem PySem.Spec L2 DD
open PyProof.Rows hiding St
open Pt (zP getD_some yI yj Ye)
open Hop (zW)
structure Ads where
 dx:aA
 r1:aA
 m1:aA
 r2:aA
 m2:aA
 wn:aA
 nu:aA
 me:aA
 mr:aA
 ro:aA
abbrev ZQ(g:Ads):List (aC×V):=[("one_rows",.ref g.r1),("one_marks",.ref g.m1),("other_rows",.ref g.r2),("other_marks",.ref g.m2),("wanted",.ref g.wn),("numbers",.ref g.nu),("met",.ref g.me),("marks",.ref g.mr),("rows",.ref g.ro)]
structure Par where
 r1:List (List Nat)
 b1:List Bool
 r2:List (List Nat)
 b2:List Bool
 wt:List (Bool×Bool)
def xQ(p:Par)(s t:Nat):Bool:=p.wt.any λq=>q==(p.b1.getD s false,p.b2.getD t false)
structure PSt where
 nu:List Nat
 me:List Nat
 mr:List Bool
 rs:List aA
 rows:List (List Nat)
def uq:Nat->List Nat->List (Key×V)
 | _,[]=>[]
 | k,p::r=>(Sum.inl (p:Int),V.int (k:Int))::uq (k+1) r
theorem zaH:∀(o:List Nat) (k:Nat),(uq k o).length=o.length
 | [],_=>rfl
 | _::r,k=>by show(uq (k+1) r).length+1=_;rw[zaH r];rfl
theorem ur(s:Nat):∀(l:List Nat) (k:Nat),xH (uq k l) (Sum.inl (s:Int))=if s∈l then some (.int ((k+l.idxOf s:Nat):Int))else none
 | [],_=>rfl
 | a::r,k=>by
  show xH (((Sum.inl (a:Int):Key),V.int (k:Int))::uq (k+1) r) _=_
  by_cases h:a=s
  ·subst h;rw[vO rfl];simp
  ·rw[vh (λz=>h (Ye.mp z)),ur s r]
   have:¬s=a:=λz=>h z.symm
   have j:(a==s)=false:=by simpa using h
   simp only[aU,this,false_or,m8,j,cond_false]
   rw[show k+1+r.idxOf s=k+(r.idxOf s+1) by omega]
theorem QO(p:Nat):∀(l:List Nat) (k:Nat),uq k (l++[p])=uq k l++[(Sum.inl (p:Int),V.int ((k+l.length:Nat):Int))]
 | [],k=>rfl
 | a::r,k=>by
  show _::uq (k+1) (r++[p])=_::(uq (k+1) r++_)
  rw[QO p r,cD,show k+1+r.length=k+(r.length+1) by omega]
theorem zgG{p:Nat}{l:List Nat}(h:p∉l):wf (uq 0 l) (Sum.inl (p:Int)) (V.int (l.length:Int))=uq 0 (l++[p]):=by
 rw[WD _ (by rw[ur,if_neg h]),QO,dQ]
def Rw(F:Hp)(j:aA)(rows:List (List Nat)):Prop:=∃rs:List aA,F j=some (.tup (rs.map V.ref))/\rs.length=rows.length/\∀(i:Nat) a,rs[i]?=some a->F a=some (.tup (zP (rows.getD i [])))
theorem Rw.mono(h:Rw F j rows)(s:zw F F'):Rw F' j rows:=by
 obtain⟨rs,h1,h2,q⟩:=h
 exact⟨rs,s _ _ h1,h2,λi a e=>s _ _ (q i a e)⟩
abbrev wDs(wt:List (Bool×Bool)):List D:=wt.map λp=>D.tup [.bl p.1,.bl p.2]
inductive KPr (K:aE):List aA->List (Bool×Bool)->Prop where
 | nil:KPr K [] []
 | cons {b:aA} {p:Bool×Bool} {as:List aA} {wt:List (Bool×Bool)} (h:∀H,SqT K H b [.bl p.1,.bl p.2]) (t:KPr K as wt):KPr K (b::as) (p::wt)
structure KW (K:aE) (a:aA) (wt:List (Bool×Bool)):Prop where
 ex:∃as:List aA,(∀H,SqT K H a (as.map V.ref))/\KPr K as wt
theorem zgH(I:Inv X pins σ H s):∀{as:List aA} {wt:List (Bool×Bool)} {us:List aB},KPr X.K as wt->zO (as.map V.ref) us->∃bs,iU s.heap us (toPs (wDs wt)) bs:=by
 intro as wt us h
 induction h generalizing us with
 | nil=>intro r;cases r;exact⟨_,.nil⟩
 | cons h1 _ q=>
  intro r
  cases r with
  | cons r1 r2=>
   cases r1
   obtain⟨bs,z⟩:=q r2
   obtain⟨its,J,⟨o,e,O,n,R⟩,_⟩:=I.tuple (h1 H)
   cases J with
   | cons U j=>
    cases j with
    | cons j Y=>
     cases Y
     cases U
     cases j
     exact⟨_,.cons (.tuple e O R (by simpa[toPs,toP]using ReadsAll.cons (.bool _) (.cons (.bool _) .nil))) z⟩
theorem WO:bZ (toP (.tup [.bl a,.bl b]))=true:=by cases a <;>cases b <;>decide
theorem zaI:∀(wt:List (Bool×Bool)) (q:eU),q∈toPs (wDs wt)->bZ q=true
 | [],_,h=>by cases h
 | (c,d)::r,q,h=>by
  rw[wDs,bI,toPs]at h
  rcases aU.mp h with rfl|h
  ·exact WO
  ·exact zaI r q h
theorem zfb:∀wt:List (Bool×Bool),(toPs (wDs wt)).any (λq=>bL q (toP (.tup [.bl a,.bl b])))=wt.any λq=>q==(a,b)
 | []=>rfl
 | (c,d)::r=>by
  rw[wDs,bI,toPs,fQ,fQ,zfb r]
  congr 1
  cases a <;>cases b <;>cases c <;>cases d <;>decide
def zmR(K:aE):R2:=λx y H Q=>∃t a wt c d,x=.ref t/\H t=some (.tup [.bl c,.bl d])/\y=.ref a/\KW K a wt/\Q (.bl (wt.any λq=>q==(c,d))) H
theorem zka(hu:X.A.units+128<bV):OpR X (cP .In) (zmR X.K):=by
 rintro pins s σ H x y v u Q I q z ⟨t,a,wt,c,d,ex,J,O,⟨as,h1,h2⟩,R⟩
 subst ex O
 cases q
 cases z
 have j:X.A.in1.units+64<bV:=by show X.A.units+1+64<bV;omega
 have U:Is X.K H (.tup [.bl c,.bl d]) (.ref t):=by
  simp only[Is]
  exact⟨t,_,rfl,J,.cons (by simp[Is]) (.cons (by simp[Is]) .nil)⟩
 obtain⟨bs,Y⟩:=Ur I (zw.refl H) _ U rfl (eE WO)
 obtain⟨its,Z,pl,hz⟩:=I.tuple (h1 H)
 obtain⟨cs,rs⟩:=zgH I h2 Z
 refine oP (eqR s.heap (toP (.tup [.bl c,.bl d]))) pl (λw hw=>Z5 Y WO j rs (zaI wt) w (by simpa using hw)) ⟨.bl _,H,I,rfl,?_⟩
 rw[show its.toArray.any (eqR s.heap (toP (.tup [.bl c,.bl d])))=its.any (eqR s.heap (toP (.tup [.bl c,.bl d]))) by simp,Z4 rs (zaI wt),zfb]
 exact R
structure Rep (K:aE) (C:aA) (p:Par) (B F H:Hp) (x:aA) (st:PSt) (g:Ads):Prop where
 bs:zw B F
 sm:zw F H
 ins:H x=some (.ins C g.dx (ZQ g))
 w1:Rw F g.r1 p.r1
 w2:Rw F g.r2 p.r2
 b1:F g.m1=some (.lst (p.b1.map V.bl))
 b2:F g.m2=some (.lst (p.b2.map V.bl))
 wn:KW K g.wn p.wt
 nu:H g.nu=some (.dK (uq 0 st.nu))
 me:H g.me=some (.lst (zP st.me))
 mr:H g.mr=some (.lst (st.mr.map V.bl))
 ro:H g.ro=some (.lst (st.rs.map V.ref))
 rl:st.rs.length=st.rows.length
 rr:∀(i:Nat) a,st.rs[i]?=some a->F a=some (.tup (zP (st.rows.getD i [])))
 rb:∀a∈st.rs,B a=none
 n1:g.me≠g.mr
 n2:g.me≠g.ro
 n3:g.mr≠g.ro
 f0:F x=none
 f1:F g.nu=none
 f2:F g.me=none
 f3:F g.mr=none
 f4:F g.ro=none
section
variable {K:aE} {C:aA} {p:Par} {B F H:Hp} {x:aA} {st:PSt} {g:Ads}
theorem Rep.nx(r:Rep K C p B F H x st g)(h:H q=some (.lst xs)):x≠q:=vX r.ins h (λz=>nomatch z)
theorem Rep.nxd(r:Rep K C p B F H x st g):x≠g.nu:=vX r.ins r.nu (λz=>nomatch z)
theorem Rep.nn(r:Rep K C p B F H x st g)(h:H q=some (.lst xs)):g.nu≠q:=vX r.nu h (λz=>nomatch z)
theorem Rep.setNu(r:Rep K C p B F H x st g)(l:List Nat):Rep K C p B F (upd H g.nu (.dK (uq 0 l))) x {st with nu:=l} g :=
 {r with
  sm:=yI r.sm r.f1 _
  ins:=by rw[ze r.nxd];exact r.ins
  nu:=zk
  me:=by rw[ze (aQ (r.nn r.me))];exact r.me
  mr:=by rw[ze (aQ (r.nn r.mr))];exact r.mr
  ro:=by rw[ze (aQ (r.nn r.ro))];exact r.ro}
theorem Rep.setMe(r:Rep K C p B F H x st g)(l:List Nat):Rep K C p B F (upd H g.me (.lst (zP l))) x {st with me:=l} g :=
 {r with
  sm:=yI r.sm r.f2 _
  ins:=by rw[ze (r.nx r.me)];exact r.ins
  nu:=by rw[ze (r.nn r.me)];exact r.nu
  me:=zk
  mr:=by rw[ze (aQ r.n1)];exact r.mr
  ro:=by rw[ze (aQ r.n2)];exact r.ro}
theorem Rep.setMk(r:Rep K C p B F H x st g)(l:List Bool):Rep K C p B F (upd H g.mr (.lst (l.map V.bl))) x {st with mr:=l} g :=
 {r with
  sm:=yI r.sm r.f3 _
  ins:=by rw[ze (r.nx r.mr)];exact r.ins
  nu:=by rw[ze (r.nn r.mr)];exact r.nu
  me:=by rw[ze r.n1];exact r.me
  mr:=zk
  ro:=by rw[ze (aQ r.n3)];exact r.ro}
theorem Rep.setRo(r:Rep K C p B F H x st g){t:aA}{row:List Nat}(ht:F t=some (.tup (zP row)))(hb:B t=none):Rep K C p B F (upd H g.ro (.lst ((st.rs++[t]).map V.ref))) x {st with rs:=st.rs++[t],rows:=st.rows++[row]} g :=
 {r with
  sm:=yI r.sm r.f4 _
  ins:=by rw[ze (r.nx r.ro)];exact r.ins
  nu:=by rw[ze (r.nn r.ro)];exact r.nu
  me:=by rw[ze r.n2];exact r.me
  mr:=by rw[ze r.n3];exact r.mr
  ro:=zk
  rl:=by simp[r.rl]
  rb:=λa ha=>by
   rcases bX.mp ha with q|q
   ·exact r.rb a q
   ·rw[bW.mp q];exact hb
  rr:=λi a h=>by
   show F a=some (.tup (zP ((st.rows++[row]).getD i [])))
   rw[aX]
   by_cases hi:i<st.rs.length
   ·rw[dF hi]at h
    rw[dF (by rw[<-r.rl];exact hi),<-aX]
    exact r.rr i a h
   ·have hl:=(bE.mp h).1
    simp at hl
    have e:i=st.rs.length:=by omega
    subst e
    rw[r.rl]
    have:a=t:=by simpa using h.symm
    subst this
    simpa using ht}
theorem Rep.ext(r:Rep K C p B F H x st g)(z:H t=none)(o:HO):Rep K C p B (upd F t o) (upd H t o) x st g:=by
 have s:zw F (upd F t o):=zK (r.sm.free z) _
 have j:∀{q:aA} {u:HO},H q=some u->q≠t:=λh=>zt h z
 refine⟨r.bs.trans s,λb u q=>?_,by rw[ze (j r.ins)];exact r.ins,r.w1.mono s,r.w2.mono s,s _ _ r.b1,s _ _ r.b2,r.wn,by rw[ze (j r.nu)];exact r.nu,by rw[ze (j r.me)];exact r.me,by rw[ze (j r.mr)];exact r.mr,by rw[ze (j r.ro)];exact r.ro,r.rl,λi a h=>s _ _ (r.rr i a h),r.rb,r.n1,r.n2,r.n3,by rw[ze (j r.ins)];exact r.f0,by rw[ze (j r.nu)];exact r.f1,by rw[ze (j r.me)];exact r.f2,by rw[ze (j r.mr)];exact r.f3,by rw[ze (j r.ro)];exact r.f4⟩
 by_cases e:b=t
 ·subst e;rw[zk]at q ⊢;exact q
 ·rw[ze e]at q ⊢;exact r.sm b u q
end
structure PCl (K:aE) (C:aA):Prop where
 cl:Cls K C
 n1:xy K C "one_rows"
 n2:xy K C "one_marks"
 n3:xy K C "other_rows"
 n4:xy K C "other_marks"
 n5:xy K C "wanted"
 n6:xy K C "numbers"
 n7:xy K C "met"
 n8:xy K C "marks"
 n9:xy K C "rows"
end Pq
namespace Pq
open PySem PySem.Spec L2 DD
open PyProof.Rows hiding St
open Pt (zP getD_some wy xt uG)
open Hop (OkR)
def UL(A:Nat)(rows:List (List Nat)):Bool:=decide (0<rows.length) && rows.all λr=>decide (r.length=A) && r.all λg=>decide (g<rows.length)
theorem zcg{A:Nat}{rows:List (List Nat)}(h:UL A rows=true):OkR A rows:=by
 unfold UL at h
 rw[dY,decide_eq_true_eq,dG]at h
 obtain⟨h0,h1⟩:=h
 have row:∀s,s<rows.length->(rows.getD s []).length=A/\∀g∈rows.getD s [],g<rows.length:=λs hs=>by
  have e:rows.getD s []=rows[s]:=by rw[aX,bK hs];rfl
  rw[e]
  have:=h1 _ (bY hs)
  rw[dY,decide_eq_true_eq,dG]at this
  exact⟨this.1,λg hg=>of_decide_eq_true (this.2 g hg)⟩
 exact⟨h0,λs hs=>(row s hs).1,λa s ha hs=>(row s hs).2 _ (Hop.wj (by rw[(row s hs).1];exact ha))⟩
theorem zfc{A:Nat}{rows:List (List Nat)}(h:OkR A rows):UL A rows=true:=by
 unfold UL
 rw[dY,decide_eq_true_eq,dG]
 refine⟨h.pos,λr hr=>?_⟩
 obtain⟨s,hs,rfl⟩:=cS.mp hr
 have e:rows.getD s []=rows[s]:=by rw[aX,bK hs];rfl
 have hl:=h.len s hs
 rw[e]at hl
 rw[dY,decide_eq_true_eq,dG]
 refine⟨hl,λg hg=>?_⟩
 obtain⟨a,ha,rfl⟩:=cS.mp hg
 have:=h.lt a s (by omega) hs
 have e2:Hop.dl rows a s=rows[s][a]:=by
  show(rows.getD s []).getD a 0=_
  rw[e,Hop.xW ha]
 rw[e2]at this
 exact decide_eq_true this
def VT:D->Option Int
 | .tup (.int a::_)=>some a
 | _=>none
def zaJ:D->Option (Int×List (List Nat))
 | .tup [.int a,.tup R,_]=>(wy R).map λr=>(a,r)
 | _=>none
def zaK:D->Option (List Bool)
 | .lst B=>xt B
 | _=>none
def zaL(a b:Int)(j p2:Int×List (List Nat))(q z:List Bool):Bool:=decide (a=b/\j.1=a/\p2.1=a/\0<=a/\a<2^22/\q.length=j.2.length/\z.length=p2.2.length/\j.2.length*p2.2.length<2^22) && (UL a.toNat j.2 && UL a.toNat p2.2)
abbrev X0(rows:List (List Nat)):List D:=rows.map λr=>D.tup (r.map λ(n:Nat)=>D.int (n:Int))
abbrev Zs(p:Par):List D:=((Hop.xj p.r1 p.r2).map λq=>xQ p (q/p.r2.length) (q%p.r2.length)).map D.bl
def uz(wt:List (Bool×Bool))(ck ls mm lr:List D->Option D):List D->Option D:=λds=>match ds with
 | [one,oth]=>(VT one).bind λa=>(VT oth).bind λb=>(ck [one]).bind λ_=>(ck [oth]).bind λ_=>(ls [one]).bind λl1=>(ls [oth]).bind λl2=>(zaJ l1).bind λp1=>(zaJ l2).bind λp2=>(mm [l1]).bind λB1=>(mm [l2]).bind λB2=>(zaK B1).bind λb1=>(zaK B2).bind λb2=>
  if zaL a b p1 p2 b1 b2=true then lr [.int a,.lst (X0 (Hop.vL p1.2 p2.2)),.lst (Zs ⟨p1.2,b1,p2.2,b2,wt⟩)]else none
 | _=>none
structure JOk (ck ls mm:List D->Option D) (one oth:D) (p:Par) (A:Nat):Prop where
 ex:∃t1 t2 c1 c2 R1 R2 G1 G2 B1 B2,one=.tup (.int (A:Int)::t1)/\oth=.tup (.int (A:Int)::t2)/\ck [one]=some c1/\ck [oth]=some c2/\ls [one]=some (.tup [.int (A:Int),.tup R1,G1])/\ls [oth]=some (.tup [.int (A:Int),.tup R2,G2])/\
  wy R1=some p.r1/\wy R2=some p.r2/\mm [.tup [.int (A:Int),.tup R1,G1]]=some (.lst B1)/\mm [.tup [.int (A:Int),.tup R2,G2]]=some (.lst B2)/\xt B1=some p.b1/\xt B2=some p.b2
 ok1:OkR A p.r1
 ok2:OkR A p.r2
 l1:p.b1.length=p.r1.length
 l2:p.b2.length=p.r2.length
 sz:p.r1.length*p.r2.length<2^22
 az:A<2^22
theorem zaM{d:D}{a:Int}(h:VT d=some a):∃t,d=.tup (.int a::t):=by
 unfold VT at h
 split at h
 ·cases h;exact⟨_,rfl⟩
 ·cases h
theorem zch{d:D}{q:Int×List (List Nat)}(h:zaJ d=some q):∃R G,d=.tup [.int q.1,.tup R,G]/\wy R=some q.2:=by
 unfold zaJ at h
 split at h
 ·obtain⟨r,j,rfl⟩:=eV.mp h
  exact⟨_,_,rfl,j⟩
 ·cases h
theorem zci(h:zaK d=some b):∃B,d=.lst B/\xt B=some b:=by
 unfold zaK at h
 split at h
 ·exact⟨_,rfl,h⟩
 ·cases h
theorem WP{wt:List (Bool×Bool)}{ck ls mm lr:List D->Option D}{ds:List D}{d:D}(h:uz wt ck ls mm lr ds=some d):∃one oth p A,ds=[one,oth]/\p.wt=wt/\JOk ck ls mm one oth p A/\lr [.int (A:Int),.lst (X0 (Hop.vL p.r1 p.r2)),.lst (Zs p)]=some d:=by
 unfold uz at h
 split at h
 ·rename_i one oth
  obtain⟨a,ha,h⟩:=eA.mp h
  obtain⟨b,hb,h⟩:=eA.mp h
  obtain⟨c1,hc1,h⟩:=eA.mp h
  obtain⟨c2,hc2,h⟩:=eA.mp h
  obtain⟨l1,hl1,h⟩:=eA.mp h
  obtain⟨l2,hl2,h⟩:=eA.mp h
  obtain⟨p1,hp1,h⟩:=eA.mp h
  obtain⟨p2,hp2,h⟩:=eA.mp h
  obtain⟨B1,hB1,h⟩:=eA.mp h
  obtain⟨B2,hB2,h⟩:=eA.mp h
  obtain⟨b1,hb1,h⟩:=eA.mp h
  obtain⟨b2,hb2,h⟩:=eA.mp h
  by_cases hc:zaL a b p1 p2 b1 b2=true
  ·rw[if_pos hc]at h
   have hfin:=h
   unfold zaL at hc
   rw[dY,dY,decide_eq_true_eq]at hc
   obtain⟨⟨e1,e2,e3,a0,a1,q1,q2,q3⟩,o1,o2⟩:=hc
   obtain⟨t1,rfl⟩:=zaM ha
   obtain⟨t2,rfl⟩:=zaM hb
   obtain⟨R1,G1,rfl,hR1⟩:=zch hp1
   obtain⟨R2,G2,rfl,hR2⟩:=zch hp2
   obtain⟨B1',rfl,hB1'⟩:=zci hb1
   obtain⟨B2',rfl,hB2'⟩:=zci hb2
   have ea:((a.toNat:Nat):Int)=a:=lh a0
   rw[e2]at hl1 hB1
   rw[e3]at hl2 hB2
   rw[<-e1]at hc2 hl2
   refine⟨_,_,⟨p1.2,b1,p2.2,b2,wt⟩,a.toNat,rfl,rfl,⟨⟨t1,t2,c1,c2,R1,R2,G1,G2,B1',B2',?_⟩,zcg o1,zcg o2,q1,q2,q3,by omega⟩,?_⟩
   ·rw[ea,<-e1];exact⟨rfl,rfl,hc1,hc2,hl1,hl2,hR1,hR2,hB1,hB2,hB1',hB2'⟩
   ·rw[ea];exact hfin
  ·rw[if_neg hc]at h;cases h
 ·cases h
theorem zgI{wt:List (Bool×Bool)}{ck ls mm lr:List D->Option D}{one oth:D}{p:Par}{A:Nat}(hw:p.wt=wt)(J:JOk ck ls mm one oth p A):uz wt ck ls mm lr [one,oth]=lr [.int (A:Int),.lst (X0 (Hop.vL p.r1 p.r2)),.lst (Zs p)]:=by
 obtain⟨t1,t2,c1,c2,R1,R2,G1,G2,B1,B2,rfl,rfl,h1,h2,h3,h4,h5,h6,h7,h8,h9,h10⟩:=J.ex
 have hc:zaL (A:Int) (A:Int) ((A:Int),p.r1) ((A:Int),p.r2) p.b1 p.b2=true:=by
  unfold zaL
  rw[dY,dY,decide_eq_true_eq]
  have:=J.az
  exact⟨⟨rfl,rfl,rfl,by omega,by omega,J.l1,J.l2,J.sz⟩,zfc J.ok1,zfc J.ok2⟩
 unfold uz
 simp only[VT,bH,h1,h2,h3,h4,zaJ,h5,h6,eL,h7,h8,zaK,h9,h10,hc,if_true]
 rw[<-hw]
end Pq
namespace HT
open PySem PySem.Spec PyProof.Rows
section
variable {prog:aS} {w:aO} {A:bG} {E:aB->aD->Prop} {s:aD}
end
end HT
namespace L2
open PySem PySem.Spec PyProof.Rows
section
variable {X:Cx} {e st:aG} {te:TE} {ts:TO} {pos p2:aR}
end
end L2
namespace DD
open PySem PySem.Spec L2
open PyProof.Rows hiding St
section
variable {X:Cx} {e st:aG} {f:G->Option B} {fs:G->Option (Option Int)} {pos p2:aR}
end
end DD
namespace Py
open PySem PySem.Spec L2 DD
open PyProof.Rows hiding St
def WF:Nat:=1000000
abbrev zgJ:List D->Option D:=Pt.Yf
def zdq:G->Option Out:=(zu (sIf (xOr (xT (zG vc (zc (za 0) (zc (xTy .bl) zg)))) (va (xT (zG vc (zc (za 0) (zc (xTy .int) zg)))))) (zS (xC (.bl false))) yr) (zS (x3 mLe mLe (za 1) (za 0) (za 2))))
def uN:List D->Option D:=mir 3 3 zdq
def Jn:G->Option Out:=(zS (Yw (zG vc (zc (za 0) (zc (xTy .tup) zg))) (x3 mLe mLe (za 1) (zG xB (zc (za 0) zg)) (za 2))))
def vu:List D->Option D:=mir 3 3 Jn
def VU:G->Option Out:=(zu (sIf (xT (x2 (mEq false) (za 0) (xC (.int 0)))) (zS (yQ (zc (xC (.int 1)) zg))) yr) (zu (sIf (xT (x2 (mEq false) (za 0) (x2 yi (za 1) (xC (.int 1))))) (zS (yQ (zc (vy (xC (.int 1))) zg))) yr) (zS (yQ (zc (xC (.int 1)) (zc (vy (xC (.int 1))) zg))))))
def Jo:List D->Option D:=mir 2 2 VU
def Jp:G->Option Out:=(zu (sIf (xT (zG vc (zc (za 0) (zc (xTy .str) zg)))) (zS (x2 (mIn false) (za 0) (xG [(.str "yes"),(.str "no")]))) yr) (zu (sIf (xOr (va (xT (xFn vu (zc (za 0) (zc (xC (.int 2)) (zc (xC (.int 2)) zg)))))) (va (xT (xFn uN (zc (x2 mIx (za 0) (xC (.int 0))) (zc (xC (.int 0)) (zc (x2 Wz (za 1) (xC (.int 1))) zg))))))) (zS (xC (.bl false))) yr) (zS (Yw (xFn uN (zc (x2 mIx (za 0) (xC (.int 1))) (zc (vy (xC (.int 1))) (zc (xC (.int 1)) zg)))) (x2 (mIn false) (x2 mIx (za 0) (xC (.int 1))) (za 2))))))
def Jq:List D->Option D:=mir 3 3 Jp
def WQ:G->Option B:=(xFn Jq (zc (za 1) (zc (za 2) (zc (xFn Jo (zc (za 0) (zc (za 3) zg))) zg))))
def zdr:G->Option Out:=(zu (sIf (va (xT (xFn vu (zc (za 0) (zc (x2 yi (za 2) (xC (.int 2))) (zc (x2 yi (za 2) (xC (.int 2))) zg)))))) (zS (xC (.bl false))) yr) (zS (zG WB (zc (xL (z0 (xEn (zc (za 0) zg)) [none,none,some 1,some 2] (xN 2 (z9 (zr 0) (z9 (zr 1) xY))) zI WQ)) zg))))
def Jr:List D->Option D:=mir 3 3 zdr
def UM:G->Option B:=(xFn Jr (zc (za 0) (zc (zG xB (zc (za 1) zg)) (zc (x2 mIx (za 2) (xC (.int 0))) zg))))
def zgK:G->Option Out:=(zu (sIf (xOr (va (xT (xFn vu (zc (za 0) (zc (xC (.int 2)) (zc (xC (.int 2)) zg)))))) (va (xT (xFn uN (zc (x2 mIx (za 0) (xC (.int 0))) (zc (xC (.int 1)) (zc (xC (.int 3)) zg))))))) (zS (xC (.bl false))) yr) (zu (zY 1 (x2 mIx (za 0) (xC (.int 1)))) (zu (sIf (va (xT (xFn vu (zc (za 1) (zc (xC (.int 1)) (zc (xC (.int 12)) zg)))))) (zS (xC (.bl false))) yr) (zS (zG WB (zc (xL (z0 (yt (za 1)) [none,some 1,some 0] (zr 0) zI UM)) zg))))))
def zds:List D->Option D:=mir 1 2 zgK
def zdt:G->Option Out:=(zu (sIf (va (xT (xFn zds (zc (za 0) zg)))) sNo yr) (zS (za 0)))
def ZE:List D->Option D:=mir 1 1 zdt
def WR:G->Option B:=(x2 mIx (za 0) (za 1))
def zdu:G->Option Out:=(zS (xL (z0 (yt (x2 mIx (za 0) (xC (.int 1)))) [none,some 1] (zr 0) zI WR)))
def v9:List D->Option D:=mir 2 2 zdu
def zdv:G->Option Out:=(zS (zG wv (zc (x2 yi (xL (xJ (zc (za 1) zg))) (za 0)) zg)))
def YJ:List D->Option D:=mir 2 2 zdv
def X1:G->Option B:=(xIf (xT (zG vc (zc (za 0) (zc (xTy .str) zg)))) (za 0) (x2 mIx (za 0) (xC (.int 0))))
def zgL:G->Option Out:=(zu (zY 1 (xL (z0 (yt (xFn v9 (zc (za 0) (zc (xC (.int 0)) zg)))) [none] (zr 0) zI X1))) (zS (xFn YJ (zc (za 1) (zc (x2 mIx (za 1) (xC (.int 0))) zg)))))
def zdw:List D->Option D:=mir 1 2 zgL
def wu:G->Option Out:=(zu (zY 5 (x2 mIx (za 1) (za 3))) (zu (sIf (xT (zG vc (zc (za 5) (zc (xTy .str) zg)))) (zS (za 5)) yr) (zu (sIf (xT (x2 (mEq false) (x2 mIx (za 5) (xC (.int 1))) (xC (.int 1)))) (zS (x2 mIx (za 5) (xC (.int 0)))) yr) (zu (zY 6 (x2 mIx (za 2) (x2 yi (x2 mIx (za 5) (xC (.int 0))) (xC (.int 1))))) (zu (sIf (xT (zG vc (zc (za 6) (zc (xTy .str) zg)))) (zS (za 6)) yr) (zY 3 (za 6)))))))
def zdx:G->Option Out:=(zu (zY 3 (za 0)) (zu (wX (xR1 (zc (zG xB (zc (za 1) zg)) zg)) (zr 4) wu) (zS (xC (.str "round")))))
def WS:List D->Option D:=mir 3 7 zdx
def UN:G->Option B:=(xFn WS (zc (za 0) (zc (za 1) (zc (za 2) zg))))
def zdy:G->Option Out:=(zu (zY 2 (xL (z0 (xR1 (zc (zG xB (zc (za 0) zg)) zg)) [none,some 0,some 1] (zr 0) zI UN))) (zu (zY 3 (x2 mIx (za 1) (xC (.int 0)))) (zu (sIf (xT (zG vc (zc (za 3) (zc (xTy .str) zg)))) (zS (xFn YJ (zc (za 2) (zc (za 3) zg)))) yr) (zS (xFn YJ (zc (za 2) (zc (x2 mIx (za 2) (za 3)) zg)))))))
def zdz:List D->Option D:=mir 2 4 zdy
def Js:G->Option Out:=(zu (sIf (xT (zG vc (zc (x2 mIx (za 1) (xC (.int 0))) (zc (xTy .str) zg)))) (zS (x2 mIx (za 1) (xC (.int 0)))) yr) (zS (xFn WS (zc (x2 mIx (za 1) (xC (.int 0))) (zc (xFn v9 (zc (za 0) (zc (x2 yi (x2 mIx (za 0) (xC (.int 0))) (xC (.int 1))) zg))) (zc (za 1) zg))))))
def VW:List D->Option D:=mir 2 2 Js
def UO:G->Option B:=(xFn v9 (zc (za 1) (zc (x2 yi (za 0) (xC (.int 1))) zg)))
def u2:G->Option Out:=(zu (zY 10 (xFn zdz (zc (za 9) (zc (za 6) zg)))) (zu (sIf (xT (x2 (Xh true) (za 10) (za 3))) (zu (Z9 3 (za 10) (zG xB (zc (za 2) zg))) (vx 2 (yQ (zc (x2 yi (za 5) (yQ (zc (za 8) zg))) (zc (za 10) zg))))) yr) (vx 7 (x2 Zz (za 3) (za 10)))))
def UP:G->Option Out:=(zu (zY 5 (x2 mIx (x2 mIx (za 2) (zG xB (zc (za 4) zg))) (xC (.int 0)))) (zu (zY 6 (x2 mIx (x2 mIx (za 2) (zG xB (zc (za 4) zg))) (xC (.int 1)))) (zu (vb 7 (xJ zg)) (zu (wX (Xi (zc (za 1) zg)) (xN 2 (z9 (zr 8) (z9 (zr 9) xY))) u2) (vx 4 (zG wv (zc (za 7) zg)))))))
def X2:G->Option Bool:=(xT (x2 mLt (zG xB (zc (za 4) zg)) (zG xB (zc (za 2) zg))))
def zgM:G->Option Out:=(zu (zY 1 (xL (z0 (xR1 (zc (x2 mIx (za 0) (xC (.int 0))) zg)) [none,some 0] (zr 0) zI UO))) (zu (vb 2 (xJ (zc (yQ (zc (yQ zg) (zc (xFn zdw (zc (za 0) zg)) zg))) zg))) (zu (Vt 3 (x2 mIx (x2 mIx (za 2) (xC (.int 0))) (xC (.int 1))) (xC (.int 0))) (zu (vb 4 (xJ zg)) (zu (xP X2 UP WF) (uH 4 (uH 2 (zS (yQ (zc (za 2) (zc (za 4) zg)))))))))))
def zaN:List D->Option D:=mir 1 11 zgM
def wS:G->Option Out:=(sIf (xT (x2 (Xh true) (za 5) (za 2))) (zu (Z9 2 (za 5) (xC (.bl true))) (vx 1 (za 5))) yr)
def vw:G->Option Out:=(zu (zY 4 (x2 mIx (za 0) (x2 mIx (za 1) (za 3)))) (zu (wX (yt (za 4)) (zr 5) wS) (zc3 3 (xC (.int 1)))))
def ut:G->Option Bool:=(xT (x2 mLt (za 3) (zG xB (zc (za 1) zg))))
def UQ:G->Option Out:=(zu (vb 1 (xJ (zc (xC (.int 0)) zg))) (zu (zeQ 2 0 true) (zu (zY 3 (xC (.int 0))) (zu (xP ut vw WF) (uH 1 (zS (za 1)))))))
def YK:List D->Option D:=mir 1 6 UQ
def wT:G->Option B:=(x2 YA (za 1) (za 0))
def xX:G->Option B:=(zG wv (zc (xL (z0 (yt (x2 mIx (za 1) (za 0))) [none,some 2] (zr 0) zI wT)) zg))
def UR:G->Option Out:=(zS (zG wv (zc (xL (z0 (yt (za 1)) [none,some 0,some 2] (zr 0) zI xX)) zg)))
def ua:List D->Option D:=mir 3 3 UR
def X3:G->Option B:=(yQ (zc (za 1) (zc (za 0) zg)))
def X4:G->Option B:=(x2 mIx (za 1) (za 0))
def Yj:G->Option Out:=(sIf (xT (x2 (Xh true) (za 11) (za 8))) (zu (Z9 8 (za 11) (zG xB (zc (za 9) zg))) (vx 9 (za 10))) yr)
def Yk:G->Option B:=(x2 Zz (za 1) (za 0))
def X5:G->Option B:=(za 0)
def Yl:G->Option Bool:=(xT (x2 mIx (za 2) (za 1)))
def zgN:G->Option Out:=(zu (zY 3 (xFn YK (zc (za 1) zg))) (zu (Vx 4 (zc (xL (z0 (Xi (zc (za 3) zg)) [none,none] (xN 2 (z9 (zr 0) (z9 (zr 1) xY))) zI X3)) zg)) (uH 4 (zu (zY 5 (xFn ua (zc (za 1) (zc (za 3) (zc (za 4) zg))))) (zu (zY 6 (xL (z0 (yt (za 3)) [none,some 2] (zr 0) zI X4))) (zu (zY 7 (xFn zgJ (zc (za 0) (zc (za 5) (zc (za 6) zg))))) (zu (zcY 8) (zu (vb 9 (xJ zg)) (zu (wX (Xi (zc (za 7) zg)) (xN 2 (z9 (zr 10) (z9 (zr 11) xY))) Yj) (uH 8 (uH 9 (zu (zY 12 (xFn ua (zc (za 5) (zc (za 9) (zc (xL (z0 (yt (za 7)) [none,some 8] (zr 0) zI Yk)) zg))))) (zS (yQ (zc (za 0) (zc (za 12) (zc (zG wv (zc (xL (z0 (Xi (zc (za 9) zg)) [none,none,some 6] (xN 2 (z9 (zr 0) (z9 (zr 1) xY))) Yl X5)) zg)) zg)))))))))))))))))
def uO:List D->Option D:=mir 3 13 zgN
def US:G->Option B:=(xFn uN (zc (za 0) (zc (xC (.int 0)) (zc (x2 Wz (za 1) (xC (.int 1))) zg))))
def zgO:G->Option Out:=(zS (Yw (zG vc (zc (za 0) (zc (xTy .tup) zg))) (zG WB (zc (xL (z0 (yt (za 0)) [none,some 1] (zr 0) zI US)) zg))))
def zaO:List D->Option D:=mir 2 2 zgO
def UT:G->Option B:=(x2 mLt (x2 mIx (za 1) (za 0)) (x2 mIx (za 1) (x2 yi (za 0) (xC (.int 1)))))
def zgP:G->Option Out:=(zS (zG WB (zc (xL (z0 (xR1 (zc (x2 Wz (zG xB (zc (za 0) zg)) (xC (.int 1))) zg)) [none,some 0] (zr 0) zI UT)) zg)))
def zdA:List D->Option D:=mir 1 1 zgP
def UU:G->Option B:=(Yw (xFn zaO (zc (za 0) (zc (zG xB (zc (za 1) zg)) zg))) (x2 (mEq false) (zG xB (zc (za 0) zg)) (x2 mIx (za 2) (xC (.int 0)))))
def zgQ:G->Option Out:=(zu (sIf (xOr (va (xT (xFn vu (zc (za 0) (zc (xC (.int 3)) (zc (xC (.int 3)) zg)))))) (va (xT (xFn uN (zc (x2 mIx (za 0) (xC (.int 0))) (zc (xC (.int 1)) (zc (xC (.int 3)) zg))))))) (zS (xC (.bl false))) yr) (zu (zY 1 (x2 mIx (za 0) (xC (.int 1)))) (zu (sIf (va (xT (xFn vu (zc (za 1) (zc (xC (.int 1)) (zc (xC (.int 2000)) zg)))))) (zS (xC (.bl false))) yr) (zu (sIf (va (xT (zG WB (zc (xL (z0 (yt (za 1)) [none,some 1,some 0] (zr 0) zI UU)) zg)))) (zS (xC (.bl false))) yr) (zS (Yw (xFn zaO (zc (x2 mIx (za 0) (xC (.int 2))) (zc (zG xB (zc (za 1) zg)) zg))) (xFn zdA (zc (x2 mIx (za 0) (xC (.int 2))) zg))))))))
def zdB:List D->Option D:=mir 1 2 zgQ
def zgR:G->Option Out:=(zu (sIf (va (xT (xFn zdB (zc (za 0) zg)))) sNo yr) (zS (za 0)))
def WT:List D->Option D:=mir 1 1 zgR
def zaP:G->Option B:=(xC (.bl false))
def zaQ:G->Option Out:=(Jk 1 (za 2) (xC (.bl true)))
def zdC:G->Option Out:=(zu (vb 1 (z0 (yt (x2 mIx (za 0) (xC (.int 1)))) [none] (zr 0) zI zaP)) (zu (wX (yt (x2 mIx (za 0) (xC (.int 2)))) (zr 2) zaQ) (uH 1 (zS (za 1)))))
def YL:List D->Option D:=mir 1 3 zdC
def zdD:G->Option Out:=(zu (Zy (xFn WT (zc (za 0) zg))) (zS (xFn uO (zc (x2 mIx (za 0) (xC (.int 0))) (zc (x2 mIx (za 0) (xC (.int 1))) (zc (xFn YL (zc (za 0) zg)) zg))))))
def VX:List D->Option D:=mir 1 1 zdD
abbrev zhW:List D->Option D:=Pq.uz [(true,true)] WT VX YL uO
def X6:G->Option B:=(x2 (mEq false) (xFn VW (zc (za 1) (zc (x2 mIx (za 0) (xC (.int 1))) zg))) (za 2))
def zgS:G->Option Out:=(zu (Zy (xFn ZE (zc (za 0) zg))) (zu (sIf (xOr (va (xT (zG vc (zc (za 1) (zc (xTy .str) zg))))) (xT (x2 (mIn true) (za 1) (xG [(.str "yes"),(.str "no"),(.str "round")])))) sNo yr) (zu (zY 2 (xFn zaN (zc (za 0) zg))) (zu (zY 3 (xL (z0 (yt (x2 mIx (za 2) (xC (.int 0)))) [none,some 0,some 1] (zr 0) zI X6))) (zS (xFn uO (zc (x2 mIx (za 0) (xC (.int 0))) (zc (x2 mIx (za 2) (xC (.int 1))) (zc (za 3) zg)))))))))
def YM:List D->Option D:=mir 2 4 zgS
def zgT:G->Option Out:=(sIf (xT (x2 mGt (za 0) (xC (.int 12)))) sNo yr)
def UV:List D->Option D:=mir 1 1 zgT
def Jt:G->Option Out:=(zu (sIf (xT (zG vc (zc (za 0) (zc (xTy .str) zg)))) (zS (za 0)) yr) (zS (yQ (zc (x2 yi (x2 mIx (za 0) (xC (.int 0))) (za 1)) (zc (x2 mIx (za 0) (xC (.int 1))) zg)))))
def Ju:List D->Option D:=mir 2 2 Jt
def UW:G->Option Out:=(zu (zY 5 (xIf (xT (x2 (mEq false) (za 3) (xC (.int 0)))) (xC (.int 1)) (vy (xC (.int 1))))) (vx 2 (xIf (xT (x2 (mEq false) (za 4) (xC (.str "yes")))) (yQ (zc (za 1) (zc (za 5) zg))) (za 4))))
def zgU:G->Option Out:=(zu (vb 2 (xJ zg)) (zu (wX (xEn (zc (za 0) zg)) (xN 2 (z9 (zr 3) (z9 (zr 4) xY))) UW) (zS (zG wv (zc (za 2) zg)))))
def zdE:List D->Option D:=mir 2 6 zgU
def UX:G->Option B:=(xFn zdE (zc (za 0) (zc (za 1) zg)))
def UY:G->Option B:=(xFn Ju (zc (za 0) (zc (x2 yi (za 1) (xC (.int 1))) zg)))
def UZ:G->Option B:=(zG wv (zc (xL (z0 (yt (za 0)) [none,some 1] (zr 0) zI UY)) zg))
def zgV:G->Option Out:=(zu (Zy (xFn ZE (zc (za 0) zg))) (zu (Zy (xFn ZE (zc (za 1) zg))) (zu (zY 2 (x2 mIx (za 0) (xC (.int 0)))) (zu (sIf (xT (x2 (mEq true) (za 2) (x2 mIx (za 1) (xC (.int 0))))) sNo yr) (zu (zY 3 (zG xB (zc (x2 mIx (za 0) (xC (.int 1))) zg))) (zu (Zy (xFn UV (zc (x2 yi (x2 yi (za 3) (xC (.int 1))) (zG xB (zc (x2 mIx (za 1) (xC (.int 1))) zg))) zg))) (zu (zY 4 (xL (z0 (yt (x2 mIx (za 0) (xC (.int 1)))) [none,some 3] (zr 0) zI UX))) (zu (zY 5 (xL (z0 (yt (x2 mIx (za 1) (xC (.int 1)))) [none,some 3] (zr 0) zI UZ))) (zu (zY 6 (x2 yi (yQ (zc (x2 mIx (x2 mIx (za 5) (xC (.int 0))) (xC (.int 0))) zg)) (x2 v6 (yQ (zc (yQ (zc (za 3) (zc (vy (xC (.int 1))) zg))) zg)) (x2 yi (za 2) (xC (.int 1)))))) (zS (yQ (zc (za 2) (zc (zG wv (zc (x2 yi (x2 yi (za 4) (xL (xJ (zc (za 6) zg)))) (za 5)) zg)) zg)))))))))))))
def zdF:List D->Option D:=mir 2 7 zgV
def zaR:G->Option Out:=(zu (sIf (xT (x2 mLt (za 1) (zG xB (zc (za 0) zg)))) (zS (x2 mIx (za 0) (za 1))) yr) (zu (sIf (xT (x2 (mEq false) (za 0) (xL (xJ zg)))) (zS (xC (.int 0))) yr) (zS (x2 yi (x2 ZL (x2 mIx (za 0) (x2 ZM (za 1) (zG xB (zc (za 0) zg)))) (xC (.int 31))) (za 1)))))
def zdG:List D->Option D:=mir 2 2 zaR
def zgW:G->Option Out:=(zu (zY 3 (x2 ZM (x2 ZL (x2 yi (x2 yi (xFn zdG (zc (za 0) (zc (za 1) zg))) (x2 ZL (xC (.int 7919)) (za 1))) (xC (.int 1))) (xC (.int 48271))) (xC (.int 2147483647)))) (zS (x2 ZM (x2 ZM (x2 yi (x2 yi (x2 ZL (za 3) (za 3)) (x2 ZL (xC (.int 7)) (za 3))) (za 1)) (xC (.int 2147483629))) (za 2))))
def YN:List D->Option D:=mir 3 4 zgW
def Jv:G->Option Out:=(zu (zY 4 (xFn YN (zc (za 0) (zc (za 1) (zc (x2 ZL (xC (.int 40)) (za 2)) zg))))) (zu (sIf (xT (x2 mLt (x2 ZM (za 4) (xC (.int 20))) (xC (.int 4)))) (zS (x2 mIx (xL (xJ (zc (xC (.str "yes")) (zc (xC (.str "no")) zg)))) (x2 ZM (za 4) (xC (.int 2))))) yr) (zS (yQ (zc (x2 JJ (za 4) (xC (.int 40))) (zc (x2 mIx (za 3) (x2 ZM (x2 JJ (za 4) (xC (.int 20))) (zG xB (zc (za 3) zg)))) zg))))))
def X7:List D->Option D:=mir 4 5 Jv
def U0:G->Option B:=(xFn X7 (zc (za 1) (zc (x2 yi (x2 yi (za 2) (xC (.int 1))) (za 0)) (zc (za 3) (zc (xL (xJ (zc (xC (.int 1)) (zc (vy (xC (.int 1))) zg)))) zg)))))
def X8:G->Option Out:=(zu (zY 7 (x2 yi (x2 yi (za 1) (xC (.int 1))) (x2 ZL (xC (.int 5)) (za 6)))) (zu (vb 8 (xJ (zc (xFn X7 (zc (za 0) (zc (za 7) (zc (za 4) (zc (xL (xJ (zc (xC (.int 1)) zg))) zg))))) zg))) (zu (JQ 8 (xL (z0 (xR1 (zc (za 2) zg)) [none,some 0,some 7,some 4] (zr 0) zI U0))) (vx 5 (zG wv (zc (x2 yi (za 8) (xL (xJ (zc (xFn X7 (zc (za 0) (zc (x2 yi (za 7) (xC (.int 4))) (zc (za 4) (zc (xL (xJ (zc (vy (xC (.int 1))) zg))) zg))))) zg)))) zg))))))
def zgX:G->Option Out:=(zu (zY 4 (x2 yi (xC (.int 1)) (xFn YN (zc (za 0) (zc (za 1) (zc (za 3) zg)))))) (zu (vb 5 (xJ zg)) (zu (wX (xR1 (zc (za 4) zg)) (zr 6) X8) (zS (yQ (zc (za 2) (zc (zG wv (zc (za 5) zg)) zg)))))))
def WU:List D->Option D:=mir 4 9 zgX
def U1:G->Option B:=(x2 yi (za 1) (yQ (zc (za 0) zg)))
def X9:G->Option Out:=(JQ 5 (xL (z0 (xR1 (zc (za 0) zg)) [none,some 6] (zr 0) zI U1)))
def Wa:G->Option Out:=(zu (vb 5 (xJ zg)) (zu (wX (yt (za 3)) (zr 6) X9) (uH 5 (zu (zY 3 (za 5)) (zY 2 (x2 yi (za 2) (za 3)))))))
def zgY:G->Option Out:=(zu (zY 2 (xL (xJ (zc (yQ zg) zg)))) (zu (zY 3 (xL (xJ (zc (yQ zg) zg)))) (zu (wX (xR1 (zc (za 1) zg)) (zr 4) Wa) (zS (za 2)))))
def zdH:List D->Option D:=mir 2 7 zgY
def zaS:G->Option Out:=(zu (sIf (xT (x2 (mEq false) (za 2) (xC (.int 0)))) (zS (xC (.int 0))) yr) (zu (sIf (xT (x2 mGt (za 2) (zG xB (zc (za 1) zg)))) (zS (x2 yi (x2 mIx (za 0) (xC (.int 0))) (xC (.int 1)))) yr) (zS (x2 yi (xC (.int 1)) (x2 mIx (za 1) (x2 Wz (za 2) (xC (.int 1))))))))
def zdI:List D->Option D:=mir 3 3 zaS
def wK:G->Option Out:=(zu (zf0 (xN 2 (z9 (zr 3) (z9 (zr 4) xY))) (x2 mIx (za 2) (vy (xC (.int 1))))) (zu (zY 5 (x2 mIx (x2 mIx (x2 mIx (za 0) (xC (.int 1))) (za 3)) (xFn zdI (zc (za 0) (zc (za 1) (zc (za 4) zg)))))) (zu (sIf (xT (zG vc (zc (za 5) (zc (xTy .str) zg)))) (zS (yQ (zc (za 5) (zc (zG xB (zc (za 2) zg)) zg)))) yr) (zu (zY 6 (yQ (zc (x2 mIx (za 5) (xC (.int 0))) (zc (x2 yi (za 4) (x2 mIx (za 5) (xC (.int 1)))) zg)))) (zu (sIf (xT (x2 (mIn false) (za 6) (za 2))) (zS (yQ (zc (xC (.str "round")) (zc (x2 Yb (za 2) (za 6)) (zc (x2 Wz (zG xB (zc (za 2) zg)) (x2 Yb (za 2) (za 6))) zg))))) yr) (vx 2 (za 6)))))))
def YO:G->Option Bool:=(xT (xC (.bl true)))
def zdJ:G->Option Out:=(zu (vb 2 (xJ (zc (yQ (zc (xC (.int 0)) (zc (xC (.int 0)) zg))) zg))) (xP YO wK WF))
def uY:List D->Option D:=mir 2 7 zdJ
def zdK:G->Option Out:=(zu (sIf (xT (zG vc (zc (za 0) (zc (xTy .str) zg)))) (zS (za 0)) yr) (zS (yQ (zc (x2 yi (x2 mIx (za 0) (xC (.int 0))) (za 1)) (zc (x2 mIx (za 0) (xC (.int 1))) zg)))))
def WV:List D->Option D:=mir 2 2 zdK
def WW:G->Option Out:=(vx 5 (x2 mIx (xL (xJ (zc (x2 mIx (za 4) (za 6)) (zc (yQ (zc (za 2) (zc (x2 mIx (xL (xJ (zc (vy (xC (.int 1))) (zc (xC (.int 1)) zg)))) (zG XV (zc (x2 (mEq false) (za 6) (xC (.int 0))) zg))) zg))) zg)))) (zG XV (zc (x2 (mEq false) (x2 mIx (za 4) (za 6)) (xC (.str "yes"))) zg))))
def YQ:G->Option Out:=(zu (vb 5 (xJ zg)) (zu (wX (xR1 (zc (zG xB (zc (za 4) zg)) zg)) (zr 6) WW) (vx 3 (zG wv (zc (za 5) zg)))))
def WX:G->Option B:=(xFn WV (zc (za 0) (zc (x2 yi (za 1) (xC (.int 1))) zg)))
def WY:G->Option Out:=(vx 3 (zG wv (zc (xL (z0 (yt (za 4)) [none,some 2] (zr 0) zI WX)) zg)))
def zdL:G->Option Out:=(zu (zY 2 (zG xB (zc (x2 mIx (za 0) (xC (.int 1))) zg))) (zu (vb 3 (xJ zg)) (zu (wX (yt (x2 mIx (za 0) (xC (.int 1)))) (zr 4) YQ) (zu (vx 3 (x2 yi (yQ (zc (xFn WV (zc (x2 mIx (x2 mIx (x2 mIx (za 1) (xC (.int 1))) (xC (.int 0))) (xC (.int 0))) (zc (x2 yi (za 2) (xC (.int 1))) zg))) zg)) (x2 v6 (yQ (zc (yQ (zc (za 2) (zc (vy (xC (.int 1))) zg))) zg)) (x2 yi (x2 mIx (za 0) (xC (.int 0))) (xC (.int 1)))))) (zu (wX (yt (x2 mIx (za 1) (xC (.int 1)))) (zr 4) WY) (zS (yQ (zc (x2 mIx (za 0) (xC (.int 0))) (zc (zG wv (zc (za 3) zg)) zg)))))))))
def Jw:List D->Option D:=mir 2 7 zdL
def WZ:G->Option Out:=(zu (zY 6 (x2 mIx (xFn uY (zc (za 2) (zc (za 5) zg))) (xC (.int 0)))) (zu (zY 7 (x2 mIx (xFn uY (zc (za 3) (zc (za 5) zg))) (xC (.int 0)))) (zu (zY 8 (za 6)) (zu (sIf (xT (x2 (mEq false) (za 6) (xC (.str "yes")))) (zY 8 (za 7)) yr) (sIf (xT (x2 (mEq true) (x2 mIx (xFn uY (zc (za 4) (zc (za 5) zg))) (xC (.int 0))) (za 8))) (zS (xC (.bl false))) yr)))))
def zdM:G->Option Out:=(zu (zY 1 (x2 yi (xC (.int 1)) (xFn YN (zc (za 0) (zc (xC (.int 0)) (zc (xC (.int 2)) zg)))))) (zu (zY 2 (xFn WU (zc (za 0) (zc (xC (.int 1)) (zc (za 1) (zc (xC (.int 2)) zg)))))) (zu (zY 3 (xFn WU (zc (za 0) (zc (xC (.int 20)) (zc (za 1) (zc (xC (.int 2)) zg)))))) (zu (zY 4 (xFn zdF (zc (za 2) (zc (za 3) zg)))) (zu (sIf (xT (x2 (mEq true) (za 4) (xFn Jw (zc (za 2) (zc (za 3) zg))))) (zS (xC (.bl false))) yr) (zu (wX (yt (xFn zdH (zc (za 1) (zc (xC (.int 4)) zg)))) (zr 5) WZ) (zS (x2 (mEq false) (xFn YM (zc (za 4) (zc (xC (.str "yes")) zg))) (xFn zhW (zc (xFn YM (zc (za 2) (zc (xC (.str "yes")) zg))) (zc (xFn YM (zc (za 3) (zc (xC (.str "yes")) zg))) zg)))))))))))
def Wb:List D->Option D:=mir 1 9 zdM
end Py
namespace Py
open PySem L2 DD Pu
theorem zfd{i:Int}(h:-(2^64)<i/\i<2^64):wa i=true:=by unfold wa;simp only[h.1,h.2,decide_true,Bool.and_self]
theorem zkb{ns:List Int}{k:Nat}:∃v:Int,zdG [.scr ns,.int k]=some (.int v):=by
 by_cases h:k<ns.length
 ·refine⟨ns[k],zZ rfl ?_⟩
  simp[zaR,zC,xI,h]
 ·by_cases h2:ns=[]
  ·subst h2
   refine⟨0,zZ rfl ?_⟩
   have e:¬((k:Int)<0):=by omega
   simp[zaR,zC,zce,e]
  ·have q:0<ns.length:=qk.mpr h2
   have z:(k:Int)%(ns.length:Int)=((k%ns.length:Nat):Int):=by simp
   have j:k%ns.length<ns.length:=lz _ q
   refine⟨ns[k%ns.length]*31+k,zZ rfl ?_⟩
   have e:¬((k:Int)<(ns.length:Int)):=by omega
   have I:(0:Int)<(ns.length:Int):=by omega
   simp[zaR,zC,zce,h2,e,ZB I]
   rw[z,xI]
   simp[j,ZA (.inr (show wa 31=true by decide))]
theorem U2{ns:List Int}{k many:Nat}(J:0<many):∃v:Nat,v<many/\YN [.scr ns,.int k,.int many]=some (.int v):=by
 obtain⟨c,z⟩:=zkb (ns:=ns) (k:=k)
 have j:(0:Int)<many:=by omega
 generalize q:(c+7919*(k:Int)+1)*48271%2147483647=d
 have O:0<=d:=by rw[<-q];exact m9 _ (by decide)
 have R:d<2147483647:=by rw[<-q];exact ql _ (by decide)
 refine⟨((d*d+7*d+k)%2147483629%many).toNat,?_,zZ rfl ?_⟩
 ·have h1:=m9 ((d*d+7*d+k)%2147483629) (b:=(many:Int)) (by omega)
  have h2:=ql ((d*d+7*d+k)%2147483629) j
  omega
 ·have h1:=m9 ((d*d+7*d+k)%2147483629) (b:=(many:Int)) (by omega)
  have I:wa d=true:=zfd ⟨by omega,by omega⟩
  have s1:wa 7919=true:=by decide
  have s2:wa 48271=true:=by decide
  have s3:wa 7=true:=by decide
  simp[zgW,zC,z,ZA (.inl s1),ZA (.inr s2),ZB (show(0:Int)<2147483647 by decide),q,ZA (.inl s3),ZA (.inl I),ZB (show(0:Int)<2147483629 by decide),ZB j]
  omega
abbrev yk:aC:=gF "yes"
abbrev xf:aC:=gF "no"
abbrev yd:aC:=gF "round"
def zp:Mv aC->D
 | .fin s=>.str s
 | .go r b=>.tup [.int r,.int (if b then 1 else-1)]
def zi(j:List (Mv aC)):D:=.tup (j.map zp)
def zn(L:Nat)(rooms:List (List (Mv aC))):D:=.tup [.int L,.tup (rooms.map zi)]
def yf(w:List Nat):D:=.tup (w.map λ(a:Nat)=>D.int (a:Int))
@[simp] theorem zmS:(B.d (zn L rooms)).seq=some [.int L,.tup (rooms.map zi)]:=id rfl
@[simp] theorem zmT {w:List Nat}:(B.d (yf w)).seq=some (w.map λ(a:Nat)=>D.int (a:Int)):=id rfl
def YR(n L c:Nat):Mv aC->Prop
 | .fin s=>s=yk\/s=xf
 | .go r b=>r<n/\(c=0->b=true)/\(c=L+1->b=false)
structure OkRoom (n L:Nat) (rm:List (Mv aC)):Prop where
 len:rm.length=L+2
 mvs:∀(c:Nat) (h:c<rm.length),YR n L c rm[c]
structure OkM (L:Nat) (rooms:List (List (Mv aC))):Prop where
 l1:1<=L
 l3:L<=3
 r1:1<=rooms.length
 r12:rooms.length<=12
 all:∀rm∈rooms,OkRoom rooms.length L rm
theorem zaT{ns:List Int}{k many:Nat}{ways:List Bool}(Z:0<many)(J:0<ways.length)(O:ways.length<1000):∃m:Mv aC,X7 [.scr ns,.int k,.int many,.lst (ways.map λb=>.int (if b then 1 else-1))]=some (zp m)/\match m with
  | .fin s=>s=yk\/s=xf
  | .go r b=>r<many/\b∈ways:=by
 obtain⟨v,hv,j⟩:=U2 (ns:=ns) (k:=k) (many:=40*many) (by omega)
 have s1:wa 40=true:=by decide
 have q:((40*many:Nat):Int)=40*(many:Int):=by omega
 rw[q]at j
 by_cases h:v%20<4
 ·have h':(v:Int)%20<4:=by omega
  have R:(v:Int)%2=((v%2:Nat):Int):=by omega
  refine⟨.fin (if v%2=0 then yk else xf),zZ rfl ?_,?_⟩
  ·simp[Jv,zC,ZA (.inl s1),j,ZB (show(0:Int)<20 by decide),h',ZB (show(0:Int)<2 by decide)]
   rw[R,xI]
   rcases Nat.mod_two_eq_zero_or_one v with z|z <;>simp[z,zp,yk,xf]
  ·by_cases z:v%2=0 <;>simp[z]
 ·have h':¬(v:Int)%20<4:=by omega
  have I:v/20%ways.length<ways.length:=lz _ J
  have U:(v:Int)/20%(ways.length:Int)=((v/20%ways.length:Nat):Int):=by simp
  have Y:(0:Int)<(ways.length:Int):=by omega
  refine⟨.go (v/40) ways[v/20%ways.length],zZ rfl ?_,?_,bY _⟩
  ·simp[Jv,zC,ZA (.inl s1),j,ZB (show(0:Int)<20 by decide),h',zhU (show(0:Int)<40 by decide) (by decide),zhU (show(0:Int)<20 by decide) (by decide),ZB Y]
   rw[U,xI]
   simp[I,zp]
  ·omega
theorem zkc{ns:List Int}{a L n k:Nat}{most:Int}{s6 s7 s8:S}{rooms:List (List (Mv aC))}(hL:L<=3)(hn:0<n)(hr:rooms.length<1000):∃g2 rm,X8 [.v (.scr ns),.v (.int a),.v (.int L),.v (.int most),.v (.int n),.ol (rooms.map zi),.v (.int k),s7,s8]=some (.nx g2)/\OkRoom n L rm/\
  ∃s6 s7 s8,g2=[.v (.scr ns),.v (.int a),.v (.int L),.v (.int most),.v (.int n),.ol ((rooms++[rm]).map zi),s6,s7,s8]:=by
 have s5:wa 5=true:=by decide
 obtain⟨I,J,O⟩:=zaT (ns:=ns) (k:=a+1+5*k) (many:=n) (ways:=[true]) hn (by simp) (by simp)
 obtain⟨Y,R,U⟩:=zaT (ns:=ns) (k:=a+1+5*k+4) (many:=n) (ways:=[false]) hn (by simp) (by simp)
 obtain⟨ms,hc,aa,ab⟩:=YF zp (t:=zr 0) (cond:=zI) (el:=U0)
  (Γ:=[.v (.scr ns),.v (.int a),.v (.int L),.v (.int most),.v (.int n),.ol (rooms.map zi),.v (.int k),.v (.int (a+1+5*k)),.ol [zp I]]) (ms:=[none,some 0,some 7,some 4]) (ds:=yS 0 L)
  (λ_ m=>match m with|.fin s=>s=yk\/s=xf|.go r b=>r<n) (by simp;omega) (by
   intro j Z
   have ac:j<L:=by simpa using Z
   obtain⟨m,hm,ho⟩:=zaT (ns:=ns) (k:=a+1+5*k+1+j) (many:=n) (ways:=[true,false]) hn (by simp) (by simp)
   refine⟨_,m,rfl,rfl,?_,?_⟩
   ·have e2:((a+1+5*k+1+j:Nat):Int)=(a:Int)+1+5*k+1+j:=by omega
    rw[e2]at hm
    simp at hm
    simp[yT,U0,hm]
   ·cases m with
    | fin s=>exact ho
    | go r b=>exact ho.1)
 have e3:((a+1+5*k:Nat):Int)=(a:Int)+1+5*k:=by omega
 have e4:((a+1+5*k+4:Nat):Int)=(a:Int)+1+5*k+4:=by omega
 rw[e3]at J
 rw[e4]at R
 simp at J R
 have q:ms.length=L:=by simpa using aa
 refine⟨[.v (.scr ns),.v (.int a),.v (.int L),.v (.int most),.v (.int n),.ol ((rooms++[I::ms++[Y]]).map zi),.v (.int k),.v (.int (a+1+5*k)),.ol ((I::ms).map zp)],I::ms++[Y],?_,⟨by simp[q],λc hc=>?_⟩,_,_,_,rfl⟩
 ·have c1:¬16777216<1+L:=by omega
  have c2:1+L<=16777216:=by omega
  have c3:L+1+1<=16777216:=by omega
  have c4:rooms.length<16777216:=by omega
  simp[X8,ZA (.inl s5),J,wJ,wR (show L<1000000 by omega),hc,R,q,c2,c3,c4,zi]
 ·have ad:c<L+2:=by simpa[q]using hc
  by_cases h0:c=0
  ·subst h0
   cases I with
   | fin s=>exact O
   | go r b=>exact⟨O.1,λ_=>by simpa using O.2,λz=>by omega⟩
  ·by_cases h1:c=L+1
   ·subst h1
    have:(I::ms++[Y])[L+1]'hc=Y:=by simp[q]
    rw[this]
    cases Y with
    | fin s=>exact U
    | go r b=>exact⟨U.1,λz=>by omega,λ_=>by simpa using U.2⟩
   ·obtain⟨j,rfl⟩:∃j,c=j+1:=⟨c-1,by omega⟩
    have Z:j<ms.length:=by omega
    have:(I::ms++[Y])[j+1]'hc=ms[j]:=by simp[List.getElem_append_left,Z]
    rw[this]
    have:=ab j Z
    cases hq:ms[j]with
    | fin s=>rw[hq]at this;exact this
    | go r b=>rw[hq]at this;exact⟨this,λz=>by omega,λz=>by omega⟩
theorem QP{ns:List Int}{a L most:Nat}(J:L<=3)(O:0<most)(R:most<=12):∃rooms:List (List (Mv aC)),WU [.scr ns,.int a,.int L,.int most]=some (zn L rooms)/\1<=rooms.length/\rooms.length<=most/\∀z∈rooms,OkRoom rooms.length L z:=by
 obtain⟨v,hv,U⟩:=U2 (ns:=ns) (k:=a) O
 obtain⟨g,h1,s6,s7,s8,rooms,Y,I,j⟩:=wE (t:=zr 6) (fb:=X8) (yS 0 (1+v))
  (λk Γ=>∃s6 s7 s8,∃rooms:List (List (Mv aC)),Γ=[.v (.scr ns),.v (.int a),.v (.int L),.v (.int most),.v (.int ((1+v:Nat):Int)),.ol (rooms.map zi),s6,s7,s8]/\rooms.length=k/\∀z∈rooms,OkRoom (1+v) L z)
  [.v (.scr ns),.v (.int a),.v (.int L),.v (.int most),.v (.int ((1+v:Nat):Int)),.ol [],.un,.un,.un] ⟨.un,.un,.un,[],rfl,rfl,by simp⟩ (by
   rintro k Γ Z ⟨s6,s7,s8,rooms,rfl,hl,j⟩
   have aa:k<1+v:=by simpa using Z
   obtain⟨g2,z,h2,h3,h4⟩:=zkc (ns:=ns) (a:=a) (L:=L) (n:=1+v) (k:=k) (most:=most) (s6:=s6) (s7:=s7) (s8:=s8) (rooms:=rooms) J (by omega) (by omega)
   refine⟨_,g2,?_,h2,?_⟩
   ·simp
   ·obtain⟨t6,t7,t8,rfl⟩:=h4
    refine⟨_,_,_,rooms++[z],rfl,by simp[hl],λr hr=>?_⟩
    rcases bX.mp hr with h|h
    ·exact j r h
    ·simp at h;subst h;exact h3)
 have q:rooms.length=1+v:=by simpa using I
 refine⟨rooms,zZ rfl ?_,by omega,by omega,by rw[q];exact j⟩
 have e:(1:Int)+(v:Int)=((1+v:Nat):Int):=by omega
 subst Y
 simp only[zgX,zC,ye,v8,vQ,zdd,XW,yJ,Zn,zag]
 simp[U]
 rw[e,wR (by omega),vV,h1]
 simp[zn]
@[simp] theorem zni:isi .int .bl=false:=by decide
@[simp] theorem znj:isi .int .int=true:=by decide
@[simp] theorem znk:isi .int .str=false:=by decide
@[simp] theorem znl:isi .str .str=true:=by decide
@[simp] theorem znm:isi .tup .str=false:=by decide
@[simp] theorem znn:isi .tup .tup=true:=by decide
theorem zaU{i lo hi:Int}:uN [.int i,.int lo,.int hi]=some (.bl (decide (lo<=i/\i<=hi))):=by
 refine zZ rfl ?_
 simp[zdq,zC]
 rw[VH (k:=hi) (by simp)]
 simp
theorem zdN{ds:List D}{lo hi:Int}:vu [.tup ds,.int lo,.int hi]=some (.bl (decide (lo<=ds.length/\ds.length<=hi))):=by
 refine zZ rfl ?_
 simp[Jn,zC]
 rw[VH (k:=hi) (by simp)]
 simp
def ways(c L:Nat):List Bool:=if c=0 then [true]else if c=L+1 then [false]else [true,false]
def ZS(b:Bool):D:=.int (if b then 1 else-1)
theorem zkd{c L:Nat}:Jo [.int c,.int L]=some (.tup ((ways c L).map ZS)):=by
 refine zZ rfl ?_
 unfold ways
 by_cases q:c=0
 ·subst q
  simp[VU,zC,ZS]
 ·by_cases h1:c=L+1
  ·subst h1
   have z:((L+1:Nat):Int)≠0:=by omega
   have j:¬((L:Int)+1=0):=by omega
   simp[VU,zC,ZS,j]
  ·have z:¬((c:Int)=0):=by omega
   have I:¬((c:Int)=(L:Int)+1):=by omega
   simp[VU,zC,ZS,q,h1,I]
theorem ziN:OkD 0 (ZS b):=OkD.int
theorem u7:eD yk=true:=by decide+kernel
theorem Wc:eD xf=true:=by decide+kernel
theorem Xx:eD yd=true:=by decide+kernel
theorem zke(h:YR n L c m):Jq [zp m,.int n,.tup ((ways c L).map ZS)]=some (.bl true):=by
 refine zZ rfl ?_
 cases m with
 | fin s=>
  have O:eD s=true:=by rcases h with rfl|rfl <;>decide+kernel
  simp[Jp,zC,zp]
  rw[zdi (n:=0) (x:=.str s) (b:=.c [.str yk,.str xf]) (ds:=[.str yk,.str xf]) (OkD.str O) rfl (by
   intro d j
   simp at j
   rcases j with rfl|rfl
   ·exact OkD.str u7
   ·exact OkD.str Wc)]
  rcases h with rfl|rfl <;>simp[toP,bL]
 | go r b=>
  obtain⟨h1,h2,R⟩:=h
  have I:(0:Int)<=r/\(r:Int)<=(n:Int)-1:=by omega
  have J:(-1:Int)<=(if b then 1 else-1)/\((if b then 1 else-1:Int))<=1:=by cases b <;>simp
  have U:b∈ways c L:=by
   unfold ways
   by_cases q:c=0
   ·rw[if_pos q,h2 q];simp
   ·rw[if_neg q]
    by_cases z:c=L+1
    ·rw[if_pos z,R z];simp
    ·rw[if_neg z];cases b <;>simp
  simp[Jp,zC,zp,zdN,zaU,I.1,I.2,J.1,J.2]
  rw[zdi (n:=0) (x:=.int (if b then 1 else-1)) (b:=.d (.tup ((ways c L).map ZS))) (ds:=(ways c L).map ZS) OkD.int rfl (by
   intro d j
   obtain⟨Y,_,rfl⟩:=bA.mp j
   exact ziN)]
  have:((ways c L).map ZS).any (λd=>bL (toP d) (toP (.int (if b then 1 else-1))))=true:=by
   rw[jA]
   exact⟨ZS b,bA.mpr ⟨b,U,rfl⟩,Zp _⟩
  simp[this]
theorem zkf{n L:Nat}{j:List (Mv aC)}(U:L<=3)(h:OkRoom n L j):Jr [zi j,.int n,.int L]=some (.bl true):=by
 refine zZ rfl ?_
 obtain⟨ys,h1,h2,I⟩:=YF (λ(b:Bool)=>D.bl b) (t:=xN 2 (z9 (zr 0) (z9 (zr 1) xY))) (cond:=zI) (el:=WQ) (Γ:=[.v (zi j),.v (.int n),.v (.int L)]) (ms:=[none,none,some 1,some 2]) (ds:=ya (j.map zp)) (λ_ b=>b=true) (by simp[h.len];omega) (by
  intro k q
  have z:k<j.length:=by simpa using q
  refine⟨[.v (.int k),.v (zp j[k]),.v (.int n),.v (.int L)],true,by simp[yT],rfl,?_,rfl⟩
  simp[WQ,zkd,zke (h.mvs k z)])
 have J:(v4 (ys.map λb=>D.bl b)).map (λbs=>D.bl (bs.all id))=some (.bl true):=uV _ (by
  intro x O
  obtain⟨b,R,rfl⟩:=bA.mp O
  obtain⟨k,q,rfl⟩:=cS.mp R
  rw[I k q])
 simp[zi]at h1
 simp[zdr,zC,zi,zdN,h.len,h1,J]
theorem zfe(h:OkM L rooms):zds [zn L rooms]=some (.bl true):=by
 refine zZ rfl ?_
 obtain⟨ys,h1,h2,J⟩:=YF (λ(b:Bool)=>D.bl b) (t:=zr 0) (cond:=zI) (el:=UM) (Γ:=[.v (zn L rooms),.v (.tup (rooms.map zi))]) (ms:=[none,some 1,some 0]) (ds:=rooms.map zi) (λ_ b=>b=true) (by have:=h.r12;simp;omega) (by
  intro k j
  have q:k<rooms.length:=by simpa using j
  refine⟨_,true,rfl,rfl,?_,rfl⟩
  simp[yT,UM,zn,zkf h.l3 (h.all _ (bY q))])
 have O:(v4 (ys.map λb=>D.bl b)).map (λbs=>D.bl (bs.all id))=some (.bl true):=uV _ (by
  intro x R
  obtain⟨b,U,rfl⟩:=bA.mp R
  obtain⟨k,j,rfl⟩:=cS.mp U
  rw[J k j])
 have z:(1:Int)<=L/\(L:Int)<=3:=by have:=h.l1;have:=h.l3;omega
 have I:(1:Int)<=(rooms.length:Int)/\(rooms.length:Int)<=12:=by have:=h.r1;have:=h.r12;omega
 simp[zn]at h1
 simp[zgK,zC,zn,zdN,zaU,z.1,z.2,I.1,I.2,h1,O]
theorem Xy(h:OkM L rooms):ZE [zn L rooms]=some (zn L rooms):=by
 refine zZ rfl ?_
 simp[zdt,zC,zfe h]
def zB(rooms:List (List (Mv aC)))(r c:Nat):Mv aC:=(rooms.getD r []).getD c (.fin xf)
theorem OkM.mv(h:OkM L rooms)(q:r<rooms.length)(I:c<L+2):YR rooms.length L c (zB rooms r c):=by
 have z:=h.all _ (bY q)
 have j:c<rooms[r].length:=by rw[z.len];exact I
 have:=z.mvs c j
 simpa[zB,aX,q,j]using this
def wA(c:Nat×Nat):D:=.tup [.int c.1,.int c.2]
theorem zaV:bL (toP (wA x)) (toP (wA c))=decide (x=c):=by
 unfold wA
 rw[ze1,gO,decide_eq_true_eq,decide_eq_true_eq]
 obtain⟨x1,x2⟩:=x
 obtain⟨j,q⟩:=c
 simp only[pM]
 omega
theorem okC:OkD 1 (wA c):=OkD.tup (n:=0) (by simp[OkD.int])
def x4(rooms:List (List (Mv aC)))(c:Nat):List (Mv aC):=rooms.map λj=>j.getD c (.fin xf)
def yz:Res aC->D
 | .fin s=>.str s
 | .out r=>.int r
noncomputable def zR (rooms:List (List (Mv aC))) (w:List Nat) (c:Nat×Nat):Res aC:=xv (zB rooms) yd w c
noncomputable def yN (rooms:List (List (Mv aC))) (w:List Nat):List (Res aC):=zR rooms w (0,0)::(aF rooms.length).map λr=>zR rooms w (r,w.length)
noncomputable def yv (rooms:List (List (Mv aC))) (w:List Nat):D:=.tup ((yN rooms w).map yz)
theorem zdO:yz (.fin s)=.str s:=rfl
theorem zdP:yz (.out b)=.int b:=rfl
section
variable {L:Nat} {rooms:List (List (Mv aC))}
theorem Xz(h:r<(x4 rooms c).length):(x4 rooms c)[r]=zB rooms r c:=by
 have h':r<rooms.length:=by simpa[x4]using h
 simp[x4,zB,aX,h']
@[simp] theorem zmm:(x4 rooms c).length=rooms.length:=by simp[x4]
theorem YS(h:OkM L rooms)(q:c<L+2):v9 [zn L rooms,.int c]=some (.lst ((x4 rooms c).map zp)):=by
 refine zZ rfl ?_
 have h1:=yC zp (t:=zr 0) (cond:=zI) (el:=WR) (Γ:=[.v (zn L rooms),.v (.int c)]) (ms:=[none,some 1]) (ds:=rooms.map zi) (x4 rooms c) (by simp) (by have:=h.r12;simp;omega) (by
  intro k z
  have j:k<rooms.length:=by simpa using z
  refine⟨_,rfl,rfl,?_⟩
  have I:=(h.all _ (bY j)).len
  rw[Xz]
  simp[yT,WR,zi,xI,zB,aX,j,I,q])
 simp[zn]at h1
 simp[zdu,zC,zn,h1]
theorem zff(q:ends.length<1000):YJ [.lst ends,first]=some (.tup (first::ends)):=by
 refine zZ rfl ?_
 have j:1+ends.length<=16777216:=by omega
 simp[zdv,zC,j]
theorem U3(h:OkM L rooms)(J:∀x∈w,x<L)(q:c.1<rooms.length):
  match zL (zB rooms) w c with
  | .inl (.fin s)=>s=yk\/s=xf
  | .inl (.out b)=>b<rooms.length
  | .inr d=>d.1<rooms.length:=by
 unfold zL
 by_cases I:w.length<c.2
 ·rw[if_pos I];exact q
 ·rw[if_neg I]
  have O:col w c.2<L+2:=by
   unfold col
   split
   ·omega
   ·have j:c.2-1<w.length:=by omega
    have:=J _ (bY j)
    simp[aX,j]
    omega
  have:=h.mv q O
  revert this
  cases zB rooms c.1 (col w c.2)with
  | fin s=>exact λz=>z
  | go r b=>cases b <;>exact λz=>z.1
theorem zfg(h:OkM L rooms)(j:∀x∈w,x<L):∀{k:Nat} {c:Nat×Nat} {x:Res aC},c.1<rooms.length->run (zL (zB rooms) w) k c=.inl x->match x with
  | .fin s=>s=yk\/s=xf
  | .out b=>b<rooms.length
 | 0,_,_,_,e=>by cases e
 | k+1,c,x,z,e=>by
  have st:=U3 h j z
  cases q:zL (zB rooms) w c with
  | inl y=>rw[q]at st;rw[xo _ q]at e;cases e;cases x <;>exact st
  | inr d=>rw[q]at st;rw[yD _ q]at e;exact zfg h j st e
theorem Ym(h : OkM L rooms){w : List Nat}(hw : ∀ x ∈ w, x < L){c : Nat × Nat}(hr : c.1 < rooms.length): match zR rooms w c with
    | .fin s => s = yk ∨ s = xf ∨ s = yd
    | .out b => b < rooms.length := by
  unfold zR xv
  by_cases z : ∃ x, x0 (zL (zB rooms) w) c x
  · obtain ⟨x, z⟩ := z
    rw [yW z]
    obtain ⟨k, hk⟩ := z
    have := zfg h hw hr hk
    cases x with
    | fin s => rcases this with e | e
               · exact .inl e
               · exact .inr (.inl e)
    | out b => exact this
  · rw [yX fun x q => z ⟨x, q⟩]; exact .inr (.inr rfl)
theorem U4(h:OkM L rooms):zdw [zn L rooms]=some (yv rooms []):=by
 refine zZ rfl ?_
 have j:∀r,r<rooms.length->zR rooms [] (r,0)=match zB rooms r 0 with
   | .fin s=>.fin s
   | .go I _=>.out I:=λr U=>by
  have z:=h.mv U (c:=0) (by omega)
  unfold zR xv
  cases q:zB rooms r 0 with
  | fin s=>exact xV (by simp[zL,col,q])
  | go I b=>
   rw[q]at z
   have Y:b=true:=z.2.1 rfl
   subst Y
   rw[xc (show zL (zB rooms) [] (r,0)=.inr (I,1) by simp[zL,col,q])]
   exact xV (by simp[zL])
 have h1:=yC yz (t:=zr 0) (cond:=zI) (el:=X1) (Γ:=[.v (zn L rooms),.un]) (ms:=[none]) (ds:=(x4 rooms 0).map zp) ((aF rooms.length).map λr=>zR rooms [] (r,0)) (by simp) (by have:=h.r12;simp;omega) (by
  intro k z
  have J:k<rooms.length:=by simpa using z
  refine⟨_,rfl,rfl,?_⟩
  simp only[eG,lG,j k J,Xz]
  cases zB rooms k 0 with
  | fin s=>simp[yT,X1,zp,yz]
  | go r b=>simp[yT,X1,zp,yz])
 have Z:0<rooms.length:=h.r1
 have c0:(aF rooms.length).length=rooms.length:=cY
 have hm:=YS h (c:=0) (by omega)
 have R:=zff (ends:=((aF rooms.length).map λr=>zR rooms [] (r,0)).map yz) (first:=yz (zR rooms [] (0,0))) (by have:=h.r12;simp;omega)
 have O:v9 [zn L rooms,.int 0]=some (.lst ((x4 rooms 0).map zp)):=hm
 simp at R h1
 simp[zgL,zC,O,h1,Z,R,yv,yN]
theorem zgZ(j:r<rooms.length):(yN rooms w)[r+1]?=some (zR rooms w (r,w.length)):=by
 simp[yN,j]
theorem Wd:vd (zB rooms) yd w a r=match zB rooms r (a+1)with
 | .fin s=>.inl (.fin s)
 | .go j true=>.inl (.out j)
 | .go j false=>match zR rooms w (j,w.length)with
  | .fin s=>.inl (.fin s)
  | .out b=>.inr b:=by
 unfold vd hop zR
 simp only
 cases zB rooms r (a+1)with
 | fin s=>rfl
 | go j b=>
  cases b with
  | true=>rfl
  | false=>simp only;cases xv (zB rooms) yd w (j,w.length) <;>rfl
noncomputable abbrev Zt (rooms:List (List (Mv aC))) (w:List Nat) (a r at_:Nat) (s4 s5 s6:S):G:=[.v (.int r),.v (.lst ((x4 rooms (a+1)).map zp)),.v (yv rooms w),.v (.int at_),s4,s5,s6]
theorem zaW(h:OkM L rooms){w:List Nat}{a r I:Nat}{s4 s5 s6:S}(hw:∀x∈w,x<L)(ha:a<=L)(O:I<rooms.length):
  match vd (zB rooms) yd w a I with
  | .inl x=>wu (Zt rooms w a r I s4 s5 s6)=some (.rt (yz x))
  | .inr b=>b<rooms.length/\∃t5 t6,wu (Zt rooms w a r I s4 s5 s6)=some (.nx (Zt rooms w a r b s4 t5 t6)):=by
 have R:=h.mv O (c:=a+1) (by omega)
 have j:(x4 rooms (a+1))[I]?=some (zB rooms I (a+1)):=by
  rw[bK (by simpa using O),Xz]
 rw[Wd]
 cases q:zB rooms I (a+1)with
 | fin s=>
  rw[q]at j
  simp[wu,Zt,xI,j,zp,yz]
 | go J b=>
  rw[q]at j R
  cases b with
  | true=>simp[wu,Zt,xI,j,zp,yz]
  | false=>
   have U:J<rooms.length:=R.1
   have Y:=zgZ (w:=w) U
   have Z:=Ym h hw (c:=(J,w.length)) U
   have e1:(J:Int)+1=((J+1:Nat):Int):=by omega
   simp only
   cases z:zR rooms w (J,w.length)with
   | fin s=>
    rw[z]at Y
    simp[wu,Zt,xI,WL,j,zp,yz,yv,Y]
   | out b=>
    rw[z]at Y Z
    refine⟨Z,.v (.tup [.int J,.int (-1)]),.v (.int b),?_⟩
    simp[wu,Zt,xI,WL,j,zp,yz,yv,Y]
theorem zaX(h:OkM L rooms){w:List Nat}{a r:Nat}(R:∀x∈w,x<L)(U:a<=L):∀(ds:List D) (j:Nat) (s4 s5 s6:S),j<rooms.length->
  (match run (vd (zB rooms) yd w a) ds.length j with
  | .inl x=>wI (zr 4) wu ds (Zt rooms w a r j s4 s5 s6)=some (.rt (yz x))
  | .inr b=>∃g,wI (zr 4) wu ds (Zt rooms w a r j s4 s5 s6)=some (.nx g))
 | [],j,s4,s5,s6,_=>⟨_,rfl⟩
 | d::ds,j,s4,s5,s6,J=>by
  have z:=zaW h (r:=r) (s4:=.v d) (s5:=s5) (s6:=s6) R U J
  have e:wI (zr 4) wu (d::ds) (Zt rooms w a r j s4 s5 s6)=(wu (Zt rooms w a r j (.v d) s5 s6)).bind λo=>match o with
   | .nx I=>wI (zr 4) wu ds I
   | .ct I=>wI (zr 4) wu ds I
   | .bk I=>some (.nx I)
   | .rt d=>some (.rt d):=rfl
  rw[e]
  show match run (vd (zB rooms) yd w a) (ds.length+1) j with|.inl x=>_|.inr b=>_
  cases q:vd (zB rooms) yd w a j with
  | inl x=>
   rw[q]at z
   rw[xo _ q]
   simp only at z ⊢
   rw[z];rfl
  | inr b=>
   rw[q]at z
   obtain⟨O,Y,Z,z⟩:=z
   rw[yD _ q,z]
   exact zaX h R U ds b (.v d) Y Z O
theorem zhX(h:OkM L rooms)(z:∀x∈w,x<L)(I:a<=L)(J:r<rooms.length):WS [.int r,.lst ((x4 rooms (a+1)).map zp),yv rooms w]=some (yz (zR rooms (w++[a]) (r,w.length+1))):=by
 have j:=zaX h (r:=r) z I (yS 0 rooms.length) r .un .un .un J
 have O:=ze4 (f:=vd (zB rooms) yd w a) (rd:=.fin yd) (aF rooms.length) (by
  intro x Y y Z
  have R:=zaW h (r:=r) (s4:=.un) (s5:=.un) (s6:=.un) z I (bR.mp Y)
  rw[Z]at R
  exact bR.mpr R.1) (bR.mpr J)
 rw[UD,Xu,cY]at O
 refine zZ rfl ?_
 unfold zR
 rw[<-O]
 rw[VJ]at j
 have U:rooms.length<1000000:=by have:=h.r12;omega
 cases q:run (vd (zB rooms) yd w a) rooms.length r with
 | inl x=>
  rw[q]at j
  simp only at j ⊢
  simp[zdx,zC,wR U,j]
 | inr b=>
  rw[q]at j
  obtain⟨g,j⟩:=j
  simp[zdx,zC,wR U,j,yz]
theorem zbB(h:OkM L rooms)(O:∀x∈w,x<L)(ha:a<L):zdz [.lst ((x4 rooms (a+1)).map zp),yv rooms w]=some (yv rooms (w++[a])):=by
 refine zZ rfl ?_
 have R:rooms.length<1000000:=by have:=h.r12;omega
 have h1:=yC yz (t:=zr 0) (cond:=zI) (el:=UN) (Γ:=[.v (.lst ((x4 rooms (a+1)).map zp)),.v (yv rooms w),.un,.un]) (ms:=[none,some 0,some 1]) (ds:=yS 0 rooms.length) ((aF rooms.length).map λr=>zR rooms (w++[a]) (r,w.length+1)) (by simp) (by have:=h.r12;simp;omega) (by
  intro k hk
  have J:k<rooms.length:=by simpa using hk
  refine⟨_,rfl,rfl,?_⟩
  have:=zhX h O (fI ha) J
  simp[yT,UN,this])
 have U:=λfirst=>zff (ends:=((aF rooms.length).map λr=>zR rooms (w++[a]) (r,w.length+1)).map yz) (first:=first) (by have:=h.r12;simp;omega)
 have Y:=uX (zB rooms) yd w a
 have q:(yN rooms w).map yz=yz (zR rooms w (0,0))::((aF rooms.length).map λr=>zR rooms w (r,w.length)).map yz:=by simp[yN]
 have Z:=Ym h O (c:=(0,0)) h.r1
 have I:yv rooms (w++[a])=.tup (yz (zR rooms (w++[a]) (0,0))::((aF rooms.length).map λr=>zR rooms (w++[a]) (r,w.length+1)).map yz):=by simp[yv,yN]
 cases z:zR rooms w (0,0)with
 | fin s=>
  have e:zR rooms (w++[a]) (0,0)=.fin s:=by
   unfold zR at z ⊢
   rw[Y,z]
  rw[I,e]
  have j:=U (.str s)
  simp at j
  simp[zdy,zC,wR R,h1]
  simp[yv,q,z,yz,j]
 | out b=>
  have hb:b<rooms.length:=by rw[z]at Z;exact Z
  have e:zR rooms (w++[a]) (0,0)=zR rooms (w++[a]) (b,w.length+1):=by
   unfold zR at z ⊢
   rw[Y,z]
  rw[I,e]
  have j:=U (yz (zR rooms (w++[a]) (b,w.length+1)))
  simp at j
  simp[zdy,zC,wR R,h1]
  simp[yv,q,z,zdP,xI,hb,j]
end
section
variable {L:Nat} {rooms:List (List (Mv aC))}
def xw(L:Nat)(w:List Nat)(p:Nat):Nat:=if p=0 then 0 else if w.length<p then L+1 else w.getD (p-1) 0+1
def yy(L:Nat)(rooms:List (List (Mv aC)))(w:List Nat)(c:Nat×Nat):Sum aC (Nat×Nat):=match zB rooms c.1 (xw L w c.2)with
 | .fin s=>.inl s
 | .go r true=>.inr (r,c.2+1)
 | .go r false=>.inr (r,c.2-1)
def onMet(met:List (Nat×Nat))(c:Nat×Nat):D:=.tup [.str yd,.int (met.idxOf c:Nat),.int ((met.length:Int)-(met.idxOf c:Nat))]
def onEnd(met:List (Nat×Nat))(s:aC):D:=.tup [.str s,.int ((met.length:Int)+1)]
theorem uu(q:∀x∈w,x<L):xw L w p<L+2:=by
 unfold xw
 split
 ·omega
 ·split
  ·omega
  ·have j:p-1<w.length:=by omega
   have:=q _ (bY j)
   simp[aX,j]
   omega
theorem vS(h:OkM L rooms)(I:∀x∈w,x<L)(J:c.1<rooms.length)(O:c.2<=w.length+1):
  match yy L rooms w c with
  | .inl s=>s=yk\/s=xf
  | .inr d=>d.1<rooms.length/\d.2<=w.length+1:=by
 have j:=h.mv J (uu I (p:=c.2))
 unfold yy
 cases q:zB rooms c.1 (xw L w c.2)with
 | fin s=>rw[q]at j;exact j
 | go r b=>
  rw[q]at j
  cases b with
  | true=>
   refine⟨j.1,?_⟩
   have:xw L w c.2≠L+1:=λz=>by have:=j.2.2 z;cases this
   have:c.2≠w.length+1:=λz=>this (by unfold xw;rw[if_neg (by omega),if_pos (by omega)])
   show c.2+1<=_
   omega
  | false=>exact⟨j.1,by show c.2-1<=_;omega⟩
theorem zdQ(h:OkM L rooms){w:List Nat}(q:∀x∈w,x<L){c:Nat×Nat}{r:Nat}(I:c.1<rooms.length)(e:zB rooms c.1 (xw L w c.2)=.go r false):c.2≠0:=λz=>by
 have j:=h.mv I (uu q (p:=c.2))
 rw[e]at j
 have:=j.2.1 (by rw[z];rfl)
 cases this
end
section
variable {L:Nat} {rooms:List (List (Mv aC))}
theorem zfh{w:List Nat}{p:Nat}(J:p<=w.length+1):zdI [zn L rooms,yf w,.int p]=some (.int (xw L w p:Nat)):=by
 refine zZ rfl ?_
 unfold xw
 by_cases j:p=0
 ·subst j
  simp[zaS,zC]
 ·have O:¬((p:Int)=0):=by omega
  by_cases h1:w.length<p
  ·have z:((w.length:Int)<p):=by omega
   simp[zaS,zC,j,h1]
  ·have q:p-1<w.length:=by omega
   have z:¬((w.length:Int)<p):=by omega
   have I:(p:Int)-1=((p-1:Nat):Int):=by omega
   simp[zaS,zC,j,h1]
   rw[I,xI]
   simp[q,aX]
   omega
theorem zcj:∀{met:List (Nat×Nat)},c∈met->(toPs (met.map wA)).findIdx? (λp=>bL p (toP (wA c)))=some (met.idxOf c)
 | [],h=>nomatch h
 | x::r,h=>by
  rw[bI,toPs,List.findIdx?_cons,zaV]
  by_cases e:x=c
  ·simp[e]
  ·have j:c∈r:=by
    rcases aU.mp h with h|h
    ·exact absurd h.symm e
    ·exact h
   rw[zcj j,m8]
   have:(x==c)=false:=by simpa using e
   simp[e,this]
theorem ziO{c:Nat×Nat}{met:List (Nat×Nat)}(h:c∈met):Yb (.l (met.map wA)) (.d (wA c))=some (.int (met.idxOf c:Nat)):=by
 have h1:(toPs (met.map wA)).all bZ=true:=by
  rw[Yy,dG]
  intro p j
  obtain⟨d,q,rfl⟩:=bA.mp j
  obtain⟨x,_,rfl⟩:=bA.mp q
  exact okC.shp (by decide)
 unfold Yb
 simp only[zj5,bH,ZO]
 rw[if_pos ⟨okC.shp (by decide),h1⟩,zcj h];rfl
theorem zkg{c:Nat×Nat}{met:List (Nat×Nat)}:mIn false (.d (wA c)) (.l (met.map wA))=some (.bl (decide (c∈met))):=by
 rw[zdi (n:=1) (x:=wA c) (ds:=met.map wA) okC rfl (by
  intro d hd
  obtain⟨c',_,rfl⟩:=bA.mp hd
  exact okC)]
 have:(met.map wA).any (λd=>bL (toP d) (toP (wA c)))=decide (c∈met):=by
  rw[pT,gO,jA,decide_eq_true_eq]
  constructor
  ·rintro⟨x,hx,e⟩
   simp only[nc,zaV,decide_eq_true_eq]at e
   exact e▸hx
  ·intro hx
   exact⟨c,hx,Zp _⟩
 simp[this]
abbrev lrG(L:Nat)(rooms:List (List (Mv aC)))(w:List Nat)(row:List (Nat×Nat))(s3 s4 s5 s6:S):G:=[.v (zn L rooms),.v (yf w),.ol (row.map wA),s3,s4,s5,s6]
theorem zfi(h:OkM L rooms){w:List Nat}(hw:∀x∈w,x<L){c:Nat×Nat}{met:List (Nat×Nat)}{s3 s4 s5 s6:S}(R:c.1<rooms.length)(hp:c.2<=w.length+1)(hm:met.length<10000000):
  match yy L rooms w c with
  | .inl s=>wK (lrG L rooms w (met++[c]) s3 s4 s5 s6)=some (.rt (onEnd met s))
  | .inr d=>if d∈met++[c]then wK (lrG L rooms w (met++[c]) s3 s4 s5 s6)=some (.rt (onMet (met++[c]) d))else
    ∃Y Z t5 t6,wK (lrG L rooms w (met++[c]) s3 s4 s5 s6)=some (.nx (lrG L rooms w (met++[c]++[d]) Y Z t5 t6)):=by
 have hk:=h.all _ (bY R)
 have z:rooms[c.1][xw L w c.2]?=some (zB rooms c.1 (xw L w c.2)):=by
  have aa:xw L w c.2<rooms[c.1].length:=by rw[hk.len];exact uu hw
  simp[zB,aX,R,aa]
 have hq:=zfh (L:=L) (rooms:=rooms) hp
 have j:atI ((met++[c]).map wA) (-1)=some (.tup [.int c.1,.int c.2]):=by rw[cL];exact zgt
 have ab:met.length+1<16777216:=by omega
 unfold yy
 cases q:zB rooms c.1 (xw L w c.2)with
 | fin s=>
  rw[q]at z
  simp only[lrG]
  simp only[wK,ye,zap,vQ,Zn,zai,zdd,lH,ng,bH,Xn,Xo,vP,zan,zam]
  rw[j]
  simp[hq,xI,R,zi,z,zp,onEnd]
 | go r b=>
  rw[q]at z
  have fin:∀(d:Nat×Nat) (m1:Int),zp (.go r b)=.tup [.int d.1,.int m1]->(c.2:Int)+m1=(d.2:Int)->(if d∈met++[c]then wK (lrG L rooms w (met++[c]) s3 s4 s5 s6)=some (.rt (onMet (met++[c]) d))else
    ∃Y Z t5 t6,wK (lrG L rooms w (met++[c]) s3 s4 s5 s6)=some (.nx (lrG L rooms w (met++[c]++[d]) Y Z t5 t6))):=λd m1 he hd=>by
   have hi:=zkg (c:=d) (met:=met++[c])
   have U:mIn false (.d (.tup [.int d.1,.int d.2])) (.l ((met++[c]).map wA))=some (.bl (decide (d∈met++[c]))):=hi
   by_cases I:d∈met++[c]
   ·rw[if_pos I]
    have hx:=ziO I
    have ac:Yb (.l ((met++[c]).map wA)) (.d (.tup [.int d.1,.int d.2]))=some (.int ((met++[c]).idxOf d:Nat)):=hx
    simp only[lrG]
    simp only[wK,ye,zap,vQ,Zn,zai,zdd,lH,ng,bH,Xn,Xo,vP,zan,zam]
    rw[j]
    generalize J:(met++[c]).map wA=row at*
    have O:row.length=met.length+1:=by rw[<-J];simp
    simp[hq,xI,R,zi,z,he,hd,U,I,ac,onMet,O]
   ·rw[if_neg I]
    refine⟨.v (.int c.1),.v (.int c.2),.v (zp (.go r b)),.v (wA d),?_⟩
    simp only[lrG]
    simp only[wK,ye,zap,vQ,Zn,zai,zdd,lH,ng,bH,Xn,Xo,vP,zan,zam]
    rw[j,cL (l₁:=met++[c])]
    generalize J:(met++[c]).map wA=row at*
    have O:row.length=met.length+1:=by rw[<-J];simp
    have ad:row.length<16777216:=by omega
    simp[hq,xI,R,zi,z,he,hd,U,I,wJ,O,ab,wA]
  cases b with
  | true=>exact fin (r,c.2+1) 1 rfl (by simp)
  | false=>
   have ae:=zdQ h hw R q
   exact fin (r,c.2-1) (-1) rfl (by simp only;omega)
theorem QQ(h:OkM L rooms)(O:∀x∈w,x<L):∀(j:Nat) (c:Nat×Nat) (met:List (Nat×Nat)) (s3 s4 s5 s6:S) (y:D),c.1<rooms.length->c.2<=w.length+1->c∉met->met.length+j<=1000000->vK (yy L rooms w) onMet onEnd j met c=some y->
  xP YO wK j (lrG L rooms w (met++[c]) s3 s4 s5 s6)=some (.rt y)
 | 0,_,_,_,_,_,_,_,_,_,_,_,e=>by cases e
 | j+1,c,met,s3,s4,s5,s6,y,R,U,Y,hf,e=>by
  have Z:YO (lrG L rooms w (met++[c]) s3 s4 s5 s6)=some true:=by simp[YO]
  unfold vK at e
  rw[if_neg Y]at e
  unfold xP
  rw[Z,bH,if_pos rfl]
  have z:=zfi h O (met:=met) (s3:=s3) (s4:=s4) (s5:=s5) (s6:=s6) R U (by omega)
  have J:=vS h O R U
  cases q:yy L rooms w c with
  | inl s=>
   rw[q]at e z
   cases e
   simp only at z
   rw[z];rfl
  | inr d=>
   rw[q]at e z J
   simp only at e z
   by_cases I:d∈met++[c]
   ·rw[if_pos I]at z
    cases j with
    | zero=>cases e
    | succ j=>
     unfold vK at e
     rw[if_pos I]at e
     cases e
     rw[z];rfl
   ·rw[if_neg I]at z
    obtain⟨t3,t4,t5,t6,z⟩:=z
    rw[z]
    exact QQ h O j d (met++[c]) t3 t4 t5 t6 y J.1 J.2 I (by rw[bM,cN];omega) e
theorem zlw(h:OkM L rooms)(j:∀x∈w,x<L)(q:vK (yy L rooms w) onMet onEnd WF [] (0,0)=some y):uY [zn L rooms,yf w]=some y:=by
 refine zZ rfl ?_
 have:=QQ h j WF (0,0) [] .un .un .un .un y h.r1 (by simp) (by simp) (by simp[WF]) q
 simp[zdJ,zC]
 exact this
theorem zg0(h:OkM L rooms)(j:∀x∈w,x<L)(I:w.length<50000):∃y,vK (yy L rooms w) onMet onEnd WF [] (0,0)=some y:=by
 refine VO (rd:=yd) (x:=sem (yy L rooms w) yd (0,0)) (VL (UE rooms.length (w.length+2)) ?_ (um.mpr ⟨h.r1,by omega⟩) ?_)
 ·rintro⟨r,p⟩ q ⟨J,O⟩ z
  obtain⟨h1,h2⟩:=um.mp q
  have:=vS h j (c:=(r,p)) h1 (by simp only;omega)
  rw[z]at this
  exact um.mpr ⟨this.1,by have:=this.2;simp only at this;omega⟩
 ·have:rooms.length*(w.length+2)<=12*50002:=lI h.r12 (by omega)
  rw[zax]
  show _<1000000
  omega
theorem zaY(h:OkM L rooms)(O:∀x∈w,x<L):∀(z:Nat) (c:Nat×Nat) (met:List (Nat×Nat)) (y:D),c.1<rooms.length->c.2<=w.length+1->vK (yy L rooms w) onMet onEnd z met c=some y->∃s i J,y=.tup (.str s::.int i::J)/\eD s=true/\(J=[]\/∃j,J=[.int j])
 | 0,_,_,_,_,_,e=>by cases e
 | z+1,c,met,y,U,Y,e=>by
  unfold vK at e
  by_cases R:c∈met
  ·rw[if_pos R]at e;cases e
   exact⟨_,_,_,rfl,Xx,.inr ⟨_,rfl⟩⟩
  ·rw[if_neg R]at e
   have I:=vS h O U Y
   cases q:yy L rooms w c with
   | inl s=>
    rw[q]at e I
    cases e
    refine⟨_,_,_,rfl,?_,.inl rfl⟩
    rcases I with rfl|rfl
    ·exact u7
    ·exact Wc
   | inr d=>
    rw[q]at e I
    exact zaY h O z d _ y I.1 I.2 e
end
end Py
namespace Pu
section
variable {α ρ ρ':Type} {f:α->Sum ρ α} {g:α->Sum ρ' α} {φ:ρ->ρ'} {S:α->Prop}
theorem U5 (j:∀x,S x->∀y,f x=.inr y->S y) (z:∀x,S x->g x=match f x with
  | .inl r=>.inl (φ r)
  | .inr y=>.inr y):∀(k:Nat) (a:α),S a->run g k a=match run f k a with
  | .inl r=>.inl (φ r)
  | .inr y=>.inr y
 | 0,a,_=>rfl
 | k+1,a,I=>by
  have:=z a I
  cases q:f a with
  | inl r=>rw[q]at this;rw[xo _ q,xo _ this]
  | inr b=>rw[q]at this;rw[yD _ q,yD _ this];exact U5 j z k b (j a I b q)
theorem zck {rd:ρ} (I:∀x,S x->∀y,f x=.inr y->S y) (J:∀x,S x->g x=match f x with
  | .inl r=>.inl (φ r)
  | .inr y=>.inr y) {a:α} (O:S a):sem g (φ rd) a=φ (sem f rd a):=by
 by_cases z:∃x,x0 f a x
 ·obtain⟨x,z⟩:=z
  rw[yW z]
  obtain⟨k,j⟩:=z
  refine yW ⟨k,?_⟩
  rw[U5 I J k a O,j]
 ·rw[yX (f:=f) λx q=>z ⟨x,q⟩]
  refine yX λx ⟨k,j⟩=>?_
  rw[U5 I J k a O]at j
  cases q:run f k a with
  | inl r=>exact z ⟨r,k,q⟩
  | inr y=>rw[q]at j;cases j
end
theorem zfj{α ρ:Type}{f g:α->Sum ρ α}{S:α->Prop}{rd:ρ}(j:∀x,S x->∀y,f x=.inr y->S y)(q:∀x,S x->g x=f x){a:α}(z:S a):sem g rd a=sem f rd a :=
 zck (φ:=id) (S:=S) j (λx I=>by rw[q x I];cases f x <;>rfl) z
def vM:List Nat->List Nat->Bool
 | [],[]=>false
 | [],_::_=>true
 | _::_,[]=>false
 | x::xs,y::ys=>if x=y then vM xs ys else decide (x<y)
theorem VY:∀xs ys,xs.length=ys.length->vM xs ys=true->vM (xs++[a]) (ys++[b])=true
 | [],[],_,h=>by cases h
 | [],_::_,h,_=>by simp at h
 | _::_,[],h,_=>by simp at h
 | x::xs,y::ys,j,h=>by
  unfold vM at h
  show vM (x::(xs++[a])) (y::(ys++[b]))=true
  unfold vM
  by_cases e:x=y
  ·rw[if_pos e]at h ⊢;exact VY xs ys (by simpa using j) h
  ·rw[if_neg e]at h ⊢;exact h
theorem VZ(h:a<b):∀xs,vM (xs++[a]) (xs++[b])=true
 | []=>by show vM [a] [b]=true;unfold vM;rw[if_neg (by omega)];simpa using h
 | x::xs=>by show vM (x::(xs++[a])) (x::(xs++[b]))=true;unfold vM;rw[if_pos rfl];exact VZ h xs
def slt(u v:List Nat):Prop:=u.length<v.length\/(u.length=v.length/\vM u v=true)
def sle(u v:List Nat):Prop:=u=v\/slt u v
theorem zaZ(h:slt u v):slt (u++[a]) (v++[b]):=by
 rcases h with h|⟨h1,h2⟩
 ·exact .inl (by simp;omega)
 ·exact .inr ⟨by simp[h1],VY u v h1 h2⟩
theorem za0(h:a<b):slt (u++[a]) (u++[b]):=.inr ⟨by simp,VZ h u⟩
theorem zcl:slt [] (u++[a]):=.inl (by simp)
section
variable {δ:Type} [DecidableEq δ] (done:List Nat->δ) (L:Nat)
def We(i b k a:Nat):Prop:=i<k\/(i=k/\b<a)
structure Bfs (ws:List (List Nat)) (k a:Nat):Prop where
 one:ws[0]?=some []
 nd:(ws.map done).Nodup
 sorted:∀(i j:Nat) (u v:List Nat),i<j->ws[i]?=some u->ws[j]?=some v->slt u v
 from_:∀(j:Nat) (x:List Nat),ws[j]?=some x->x=[]\/∃i b u,We i b k a/\ws[i]?=some u/\x=u++[b]
 good:∀x∈ws,∀y∈x,y<L
 closed:∀(i b:Nat) (u:List Nat),We i b k a->b<L->ws[i]?=some u->∃x∈ws,done x=done (u++[b])/\sle x (u++[b])
variable {done L}
theorem Bfs.start:Bfs done L [[]] 0 0 where
 one:=rfl
 nd:=by simp
 sorted:=λi j u v h h1 h2=>by
  have:=(bE.mp h2).1
  simp at this;omega
 from_:=λj x h=>by
  have:=cE h
  simp at this;exact .inl this
 good:=λx hx y hy=>by simp at hx;rw[hx]at hy;exact nomatch hy
 closed:=λi b u h=>by rcases h with h|h <;>omega
theorem V0(h:We i b k (a+1)):We i b k a\/(i=k/\b=a):=by
 rcases h with h|⟨h1,h2⟩
 ·exact .inl (.inl h)
 ·by_cases e:b=a
  ·exact .inr ⟨h1,e⟩
  ·exact .inl (.inr ⟨h1,by omega⟩)
theorem V1(h:We i b k a):We i b k (a+1):=by
 rcases h with h|⟨h1,h2⟩
 ·exact .inl h
 ·exact .inr ⟨h1,by omega⟩
theorem Bfs.known{ws:List (List Nat)}{k a:Nat}{w:List Nat}(B:Bfs done L ws k a)(hw:ws[k]?=some w)(h:done (w++[a])∈ws.map done):Bfs done L ws k (a+1) where
 one:=B.one
 nd:=B.nd
 sorted:=B.sorted
 from_:=λj x hx=>by
  rcases B.from_ j x hx with h|⟨i,b,u,h1,h2⟩
  ·exact .inl h
  ·exact .inr ⟨i,b,u,V1 h1,h2⟩
 good:=B.good
 closed:=λi b u hb hL hu=>by
  rcases V0 hb with hb|⟨rfl,rfl⟩
  ·exact B.closed i b u hb hL hu
  ·rw[hw]at hu;cases hu
   obtain⟨x,hx,e⟩:=bA.mp h
   refine⟨x,hx,e,?_⟩
   obtain⟨j,hj⟩:=qm.mp hx
   rcases B.from_ j x hj with rfl|⟨i',b',u',h1,h2,rfl⟩
   ·exact .inr zcl
   ·rcases h1 with h1|⟨rfl,h1⟩
    ·exact .inr (zaZ (B.sorted i' i u' w h1 h2 hw))
    ·rw[hw]at h2;cases h2
     exact .inr (za0 h1)
theorem Bfs.fresh(B:Bfs done L ws k a)(ha:a<L)(I:ws[k]?=some w)(h:done (w++[a])∉ws.map done):Bfs done L (ws++[w++[a]]) k (a+1):=by
 have J:∀(j:Nat) (x:List Nat),ws[j]?=some x->(ws++[w++[a]])[j]?=some x:=λj x hx=>by
  rw[dF (bE.mp hx).1];exact hx
 have all:∀(j:Nat) (x:List Nat),(ws++[w++[a]])[j]?=some x->ws[j]?=some x\/(j=ws.length/\x=w++[a]):=λj x hx=>by
  by_cases Z:j<ws.length
  ·rw[dF Z]at hx;exact .inl hx
  ·rw[fF (by omega)]at hx
   have:=(bE.mp hx).1
   simp at this
   have e:j=ws.length:=by omega
   subst e
   simp at hx
   exact .inr ⟨rfl,hx.symm⟩
 have U:∀(j:Nat) (x:List Nat),ws[j]?=some x->slt x (w++[a]):=λj x hx=>by
  rcases B.from_ j x hx with rfl|⟨i',b',u',h1,h2,rfl⟩
  ·exact zcl
  ·rcases h1 with h1|⟨rfl,h1⟩
   ·exact zaZ (B.sorted i' k u' w h1 h2 I)
   ·rw[I]at h2;cases h2
    exact za0 h1
 refine⟨J 0 _ B.one,?_,λi j u v Y h1 h2=>?_,λj x hx=>?_,λx hx y q=>?_,λi b u R hL O=>?_⟩
 ·rw[cL,dZ]
  refine⟨B.nd,by simp,λx hx y q=>?_⟩
  simp at q
  subst q
  exact λz=>h (z▸hx)
 ·rcases all j v h2 with h2|⟨rfl,rfl⟩
  ·have aa:=(bE.mp h2).1
   rcases all i u h1 with h1|⟨rfl,_⟩
   ·exact B.sorted i j u v Y h1 h2
   ·omega
  ·rcases all i u h1 with h1|⟨rfl,_⟩
   ·exact U i u h1
   ·omega
 ·rcases all j x hx with hx|⟨rfl,rfl⟩
  ·rcases B.from_ j x hx with h|⟨i,b,u,h1,h2,h3⟩
   ·exact .inl h
   ·exact .inr ⟨i,b,u,V1 h1,J i u h2,h3⟩
  ·exact .inr ⟨k,a,w,.inr ⟨rfl,by omega⟩,J k w I,rfl⟩
 ·rcases bX.mp hx with hx|hx
  ·exact B.good x hx y q
  ·simp at hx;subst hx
   rcases bX.mp q with q|q
   ·exact B.good w (cE I) y q
   ·simp at q;omega
 ·rcases V0 R with R|⟨rfl,rfl⟩
  ·rcases all i u O with O|⟨rfl,rfl⟩
   ·obtain⟨x,hx,e,l⟩:=B.closed i b u R hL O
    exact⟨x,eJ _ hx,e,l⟩
   ·have:=(bE.mp I).1
    rcases R with R|⟨R,_⟩ <;>omega
  ·rcases all i u O with O|⟨rfl,_⟩
   ·rw[I]at O;cases O
    exact⟨w++[b],by simp,rfl,.inl rfl⟩
   ·have:=(bE.mp I).1
    omega
theorem Bfs.next{ws:List (List Nat)}{k:Nat}(B:Bfs done L ws k L):Bfs done L ws (k+1) 0 where
 one:=B.one
 nd:=B.nd
 sorted:=B.sorted
 from_:=λj x hx=>by
  rcases B.from_ j x hx with h|⟨i,b,u,h1,h2⟩
  ·exact .inl h
  ·exact .inr ⟨i,b,u,by rcases h1 with h1|⟨h1,_⟩ <;>exact .inl (by omega),h2⟩
 good:=B.good
 closed:=λi b u hb hL hu=>B.closed i b u (by
  rcases hb with hb|⟨_,hb⟩
  ·by_cases e:i=k
   ·exact .inr ⟨e,hL⟩
   ·exact .inl (by omega)
  ·omega) hL hu
end
def wZ{α:Type}(A:List α):Nat->List (List α)
 | 0=>[[]]
 | n+1=>A.flatMap λx=>(wZ A n).map λr=>x::r
theorem za1{α:Type}{A:List α}:∀{n:Nat} {xs:List α},xs.length=n->(∀x∈xs,x∈A)->xs∈wZ A n
 | 0,xs,h,_=>by
  have:xs=[]:=gJ.mp h
  subst this;simp[wZ]
 | n+1,[],h,_=>by cases h
 | n+1,x::xs,h,j=>by
  unfold wZ
  rw[jS]
  exact⟨x,j x bN,bA.mpr ⟨xs,za1 (by simpa using h) λy q=>j y (bO _ q),rfl⟩⟩
theorem za2{α:Type}{A:List α}:∀n:Nat,(wZ A n).length=A.length^n
 | 0=>rfl
 | n+1=>by
  unfold wZ
  rw[List.length_flatMap]
  have:∀B:List α,(B.map λx=>((wZ A n).map λr=>x::r).length).sum=B.length*A.length^n:=λB=>by
   induction B with
   | nil=>simp
   | cons b r j=>rw[bI,List.sum_cons,j,aN,za2 n,cD,jN,jO]
  rw[this,qp,gW]
end Pu
namespace DD
open PySem L2
section
variable {Γ:G}
def znR(o:Option (List B)):Option (List D):=o.bind λbs=>match bs with
 | [.d (.lst xs),.d (.lst ys)]=>some (zmH xs ys)
 | _=>none
def zhY(i:Nat)(o:Option (List B))(Γ:G):Option Out:=o.bind λbs=>match bs with
 | [.d (.lst ds)]=>(Zm ds).bind λkvs=>if kvs.length<=100000 then some (.nx (Γ.set i (.ok (uF [] kvs))))else none
 | _=>none
@[simp] theorem zdR {i ds}:zhY i (some [.d (.lst ds)]) Γ=(Zm ds).bind λkvs=>if kvs.length<=100000 then some (.nx (Γ.set i (.ok (uF [] kvs))))else none:=id rfl
@[simp] theorem zg1 {i fs}:Vx i fs Γ=zhY i (fs Γ) Γ:=id rfl
theorem zkh(j:ds≠[])(h1:1<=k)(h2:ds.length*k<=aH)(R:k<1000000):v6 (.d (.tup ds)) (.d (.int k))=some (.tup (aZ k ds).flatten):=by
 by_cases e:k=1
 ·subst e
  have:Yd (.d (.tup ds)) (.d (.int (1:Nat)))=some (.tup ds):=by unfold Yd;exact if_pos rfl
  unfold v6 mOr
  rw[this,Option.some_or]
  simp only[fL,List.replicate_zero,gR,List.flatten_nil,gB]
 ·have q:¬((k:Int)=1):=by omega
  have z:(2:Int)<=k:=by omega
  have I:(k:Int)<2^62:=by omega
  have J:Yd (.d (.tup ds)) (.d (.int k))=none:=if_neg q
  have O:Jj (.d (.tup ds)) (.d (.int k))=some (.tup (aZ (k:Int).toNat ds).flatten):=if_pos ⟨j,z,I,by rw[gH];exact h2⟩
  unfold v6 mOr
  rw[J,O,Option.none_or,gH]
end
end DD
namespace L2
open PySem PySem.Spec PyProof.Rows
section
variable {M:hV} {A:bG} {E:aB->aD->Prop} {s:aD}
end
section
variable {X:Cx} {pins:List (aA×aL)} {σ:St} {H:Hp} {s s':aD} {C a:aA} {e:aB}
end
section
variable {P:aS} {w:aO} {K:aE} {mg:aC->Option aB} {base:aK} {N:List aC} {qual:aC} {scope:cB} {f C:aA} {cdv:aB} {A:bG} {outer:List cA} {s₀:aD} {H₀:Hp} {E:XK}
end
section
variable {X:Cx} {C:aA} {H0:Hp}
end
end L2
namespace DD
open PySem PySem.Spec L2
open PyProof.Rows hiding St
section
variable {X:Cx} {C:aA} {e:aG} {es:List aG} {fs:G->Option (List B)} {x x1 x2:G->Bool} {f:G->Option Out} {pos:aR}
end
section
variable {P:aS} {w:aO} {K:aE} {mg:aC->Option aB} {base:aK} {N:List aC} {qual:aC} {scope:cB} {f C:aA} {cdv:aB} {A:bG} {outer:List cA} {s₀:aD} {H₀:Hp} {E:XK}
end
end DD
namespace L2
open PySem PySem.Spec PyProof.Rows
section
variable {M:hV} {A:bG} {E:aB->aD->Prop} {s:aD}
end
section
variable {X:Cx} {pins:List (aA×aL)} {σ:St} {H2:Hp} {s2 s3:aD} {Ce D C:aA} {scope:cB} {cl:List (aC×aA)} {N:List aC} {fp:List aA} {use:Option (aB->cW Unit)} {Q:aB->aD->Prop} {acc:aB}
end
section
variable {X:Cx} {pins:List (aA×aL)} {σ:St} {H:Hp} {s:aD}
end
end L2
namespace L2
open PySem PySem.Spec PyProof.Rows
end L2
namespace DD
open PySem PySem.Spec L2
open PyProof.Rows hiding St
section
variable {X:Cx} {Ce:aA} {elt tg iter:aG} {pos:aR}
end
end DD
namespace L2
open PySem PySem.Spec PyProof.Rows
section
variable {X:Cx} {pins:List (aA×aL)} {σ:St} {H:Hp} {s:aD} {M:hV} {A:bG} {E:aB->aD->Prop}
end
end L2
namespace DD
open PySem PySem.Spec L2
open PyProof.Rows hiding St
section
variable {X:Cx}
end
end DD
namespace DD
open PySem PySem.Spec L2
end DD
namespace DD
open PySem PySem.Spec L2
end DD
namespace DD
open PySem L2
section
variable {Γ:G}
@[simp] theorem za3:XV [.d (.bl k)]=some (.int (if k then 1 else 0)):=id rfl
end
end DD
namespace Py
open PySem L2 DD Pu
theorem zcm{δ:Type} [DecidableEq δ] {done:List Nat->δ} {L:Nat} {ws:List (List Nat)} {k a:Nat} (B:Bfs done L ws k a):∀(n j:Nat) (x:List Nat),j<=n->ws[j]?=some x->x.length<=j:=λn=>by
 induction n with
 | zero=>
  intro j x hj hx
  have:j=0:=by omega
  subst this
  rw[B.one]at hx;cases hx;exact aP _
 | succ n ih=>
  intro j x hj hx
  rcases B.from_ j x hx with rfl|⟨i,b,u,_,h2,rfl⟩
  ·exact dJ _
  ·have hij:i<j:=by
    apply jW
    intro z
    by_cases e:i=j
    ·subst e
     rw[h2]at hx
     injection hx with hx
     have:=congrArg l8 hx
     simp at this
    ·have:=B.sorted j i _ u (by omega) hx h2
     rcases this with t|⟨t,_⟩ <;>simp at t <;>omega
   have:=ih i u (by omega) h2
   simp;omega
def kvG{α:Type}(key:α->List Key)(val:Nat->α->D):Nat->List α->List (List Key×D)
 | _,[]=>[]
 | k,x::r=>(key x,val k x)::kvG key val (k+1) r
section
variable {α:Type} {key:α->List Key} {val:Nat->α->D}
theorem zcn:∀{k:Nat} {xs:List α},(kvG key val k xs).length=xs.length
 | _,[]=>rfl
 | k,c::r=>by simp[kvG,zcn]
theorem za4:∀{k:Nat} {xs:List α} {c:α},kvG key val k (xs++[c])=kvG key val k xs++[(key c,val (k+xs.length) c)]
 | _,[],_=>by simp[kvG]
 | k,x::r,c=>by
  simp only[lp,kvG]
  rw[za4,cD,show k+1+r.length=k+(r.length+1) by omega]
theorem W0:∀{k:Nat} {xs:List α} {q:List Key},q∉xs.map key->y8 (kvG key val k xs) q=none
 | _,[],_,_=>rfl
 | k,x::r,q,h=>by
  have j:¬key x=q:=λz=>h (by simp[z])
  have I:y8 (kvG key val k (x::r)) q=y8 (kvG key val (k+1) r) q:=by simp[kvG,y8,eF,j]
  rw[I]
  exact W0 λz=>h (by rw[bI];exact bO _ z)
theorem ziP(I:key c∉xs.map key):vj (kvG key val 0 xs) (key c) (val xs.length c)=kvG key val 0 (xs++[c]):=by
 have:((kvG key val 0 xs).any λj=>decide (j.1=key c))=false:=by
  cases q:(kvG key val 0 xs).any λj=>decide (j.1=key c)with
  | false=>rfl
  | true=>
   have z:=W0 (val:=val) (k:=0) I
   obtain⟨p,J,e⟩:=jA.mp q
   unfold y8 at z
   rw[Option.map_eq_none_iff,List.find?_eq_none]at z
   exact absurd e (z p J)
 unfold vj
 rw[this,if_neg (by simp),za4,dQ]
end
theorem QR(q:Nat->D){t:D->G->Option G}{cond:G->Option Bool}{el:G->Option B}{Γ:G}(p:Nat->Bool):∀(ds:List D) (j:Nat),(∀k (h:k<ds.length),∃g,t ds[k] Γ=some g/\cond g=some (p (j+k))/\(p (j+k)=true->el g=some (.d (q (j+k)))))->
  uS t cond el Γ ds=some (((cT j ds.length).filter p).map q)
 | [],j,_=>rfl
 | d::r,j,h=>by
  obtain⟨g,h1,h2,I⟩:=h 0 (by simp)
  have J:=QR q p r (j+1) λk O=>by
   obtain⟨g,a,b,c⟩:=h (k+1) (by simpa using O)
   rw[show j+(k+1)=j+1+k by omega]at b c
   exact⟨g,a,b,c⟩
  rw[qq]at h2 I
  unfold uS
  rw[show t d Γ=some g from h1,bH,h2,bH,cD,jZ]
  cases z:p j with
  | true=>
   rw[if_pos rfl,I z,bH,J,iW,if_pos z,bI];rfl
  | false=>
   rw[if_neg (by simp),J,iW,if_neg (by simp[z])]
theorem zfk(j:Nat->D){t:D->G->Option G}{cond:G->Option Bool}{el:G->Option B}{Γ:G}{ms:List (Option Nat)}{ds:List D}(p:Nat->Bool)(q:ds.length<=16777216)(z:∀k (h:k<ds.length),∃g,t ds[k] (yT ms Γ)=some g/\cond g=some (p k)/\(p k=true->el g=some (.d (j k)))):
  wG (some ds) ms t cond el Γ=some (((aF ds.length).filter p).map j):=by
 unfold wG
 rw[bH,if_pos (show ds.length<=aH from q),QR j p ds 0 (by simpa using z),nh]
def yB(n:Nat)(g:Nat->Bool):List Nat:=(aF n).filter g
theorem ZF:s∈yB n g↔s<n/\g s=true:=by simp[yB]
theorem Ws(h:∀s,s<n->g s=g' s):yB n g=yB n g':=List.filter_congr λs j=>h s (bR.mp j)
theorem zg2:(yB n g).Pairwise (· < ·):=rg _ List.pairwise_lt_range
theorem QS:(yB n g).length<=n:=by
 have:=la g (aF n)
 rwa [cY]at this
def x9:Res aC->Key
 | .fin s=>.inr s
 | .out r=>.inl r
theorem V2(h:x9 x=x9 y):x=y:=by
 cases x <;>cases y <;>simp[x9]at h ⊢
 ·exact h
 ·omega
theorem QT:∀xs:List (Res aC),wp (xs.map yz)=some (xs.map x9)
 | []=>rfl
 | x::r=>by
  rw[bI]
  unfold wp
  have:Xg (yz x)=some (x9 x):=by cases x <;>rfl
  rw[this,bH,QT r];rfl
section
variable {L:Nat} {rooms:List (List (Mv aC))}
noncomputable def zT (rooms:List (List (Mv aC))) (w:List Nat):List Key:=(yN rooms w).map x9
theorem QU:Zk (yv rooms w)=some (zT rooms w):=QT _
theorem zco{α β:Type}{f:α->β}(j:∀x y,f x=f y->x=y):∀xs ys:List α,xs.map f=ys.map f->xs=ys
 | [],[],_=>rfl
 | [],_::_,h=>by cases h
 | _::_,[],h=>by cases h
 | x::xs,y::ys,h=>by
  rw[bI,bI]at h
  injection h with h1 h2
  rw[j x y h1,zco j xs ys h2]
theorem za5(h:zT rooms u=zT rooms v):yN rooms u=yN rooms v:=zco (λ_ _=>V2) _ _ h
theorem zki(h:OkM L rooms)(O:∀x∈w,x<L)(U:a<=L)(R:r<rooms.length)(e:vd (zB rooms) yd w a r=.inr b):b<rooms.length:=by
 rw[Wd]at e
 have j:=h.mv R (c:=a+1) (by omega)
 cases q:zB rooms r (a+1)with
 | fin s=>rw[q]at e;cases e
 | go I d=>
  rw[q]at e j
  cases d with
  | true=>cases e
  | false=>
   have J:=Ym h O (c:=(I,w.length)) j.1
   simp only at e
   cases z:zR rooms w (I,w.length)with
   | fin s=>rw[z]at e;cases e
   | out Y=>rw[z]at e J;cases e;exact J
theorem zcp(e:yN rooms u=yN rooms v):zR rooms u (0,0)=zR rooms v (0,0)/\∀r,r<rooms.length->zR rooms u (r,u.length)=zR rooms v (r,v.length):=by
 unfold yN at e
 injection e with j q
 refine⟨j,λr z=>?_⟩
 have:=congrArg (λl=>l[r]?) q
 simpa[z]using this
theorem za6(h:OkM L rooms)(I:∀x∈u,x<L)(J:a<=L)(e:yN rooms u=yN rooms v)(O:r<rooms.length):zR rooms (v++[a]) (r,v.length+1)=zR rooms (u++[a]) (r,u.length+1):=by
 have h1:=UD (zB rooms) yd u a r
 have h2:=UD (zB rooms) yd v a r
 unfold zR
 rw[<-h1,<-h2]
 refine zfj (S:=λr=>r<rooms.length) (λx z y R=>zki h I J z R) (λx z=>?_) O
 rw[Wd,Wd]
 have j:=h.mv z (c:=a+1) (by omega)
 cases q:zB rooms x (a+1)with
 | fin s=>rfl
 | go U d=>
  rw[q]at j
  cases d with
  | true=>rfl
  | false=>simp only;rw[(zcp e).2 U j.1]
theorem V3(h:OkM L rooms)(q:∀x∈u,x<L)(J:a<=L)(e:yN rooms u=yN rooms v):zR rooms (v++[a]) (0,0)=zR rooms (u++[a]) (0,0):=by
 have h1:=uX (zB rooms) yd u a
 have h2:=uX (zB rooms) yd v a
 have j:=Ym h q (c:=(0,0)) h.r1
 unfold zR at j ⊢
 rw[h1,h2]
 have I:=(zcp e).1
 unfold zR at I
 rw[<-I]
 cases z:xv (zB rooms) yd u (0,0)with
 | fin s=>rfl
 | out b=>rw[z]at j;exact za6 h q J e j
theorem zfl(h:OkM L rooms)(j:∀x∈u,x<L)(q:a<L)(e:yN rooms u=yN rooms v):yN rooms (u++[a])=yN rooms (v++[a]):=by
 unfold yN
 rw[V3 h j (fI q) e]
 congr 1
 refine dC λr z=>?_
 have:=za6 h j (fI q) e (bR.mp z)
 simp only[bM,cN]
 exact this.symm
noncomputable def zU (L:Nat) (rooms:List (List (Mv aC))) (w:List Nat):aC:=sem (yy L rooms w) yd (0,0)
theorem ziQ(h:OkM L rooms)(z:∀x∈w,x<L)(I:c.1<rooms.length)(J:c.2<=w.length+1):zL (zB rooms) (w++[L]) c=match yy L rooms w c with
  | .inl s=>.inl (.fin s)
  | .inr d=>.inr d:=by
 have q:col (w++[L]) c.2=xw L w c.2:=by
  unfold col xw
  by_cases j:c.2=0
  ·rw[if_pos j,if_pos j]
  ·rw[if_neg j,if_neg j]
   by_cases h1:w.length<c.2
   ·have e:c.2=w.length+1:=by omega
    rw[if_pos h1,e]
    simp[aX]
   ·rw[if_neg h1,aX,aX,dF (by omega)]
 unfold zL yy
 rw[bM,cN,if_neg (by omega),q]
 cases zB rooms c.1 (xw L w c.2)with
 | fin s=>rfl
 | go r b=>cases b <;>rfl
theorem za7(h:OkM L rooms)(q:∀x∈w,x<L):zR rooms (w++[L]) (0,0)=.fin (zU L rooms w):=by
 unfold zR xv zU
 exact zck (φ:=Res.fin) (S:=λc=>c.1<rooms.length/\c.2<=w.length+1) (λx j y z=>by
  have:=vS h q j.1 j.2
  rw[z]at this
  exact this) (λx j=>by rw[ziQ h q j.1 j.2];cases yy L rooms w x <;>rfl) ⟨h.r1,by simp⟩
theorem zfm(h:OkM L rooms)(q:∀x∈u,x<L)(z:∀x∈v,x<L)(e:yN rooms u=yN rooms v):zU L rooms u=zU L rooms v:=by
 have h1:=za7 h q
 have h2:=za7 h z
 have j:=V3 h q (aP L) e
 rw[h1,h2]at j
 injection j with j
 exact j.symm
theorem QV:∀{n:Nat} {met:List (Nat×Nat)} {c:Nat×Nat} {s:aC} {y:D},ZD (yy L rooms w) yd n met c=some s->vK (yy L rooms w) onMet onEnd n met c=some y->∃r,y=.tup (.str s::r)
 | 0,_,_,_,_,h,_=>by cases h
 | n+1,met,c,s,y,h,h'=>by
  unfold ZD at h
  unfold vK at h'
  by_cases j:c∈met
  ·rw[if_pos j]at h h'
   cases h;cases h'
   exact⟨_,rfl⟩
  ·rw[if_neg j]at h h'
   cases q:yy L rooms w c with
   | inl z=>rw[q]at h h';cases h;cases h';exact⟨_,rfl⟩
   | inr d=>rw[q]at h h';exact QV h h'
theorem uZ(h:OkM L rooms)(q:∀x∈w,x<L)(z:w.length<50000):∃r,uY [zn L rooms,yf w]=some (.tup (.str (zU L rooms w)::r))/\eD (zU L rooms w)=true:=by
 obtain⟨y,j⟩:=zg0 h q z
 have I:=VL (f:=yy L rooms w) (rd:=yd) (UE rooms.length (w.length+2)) (by
  rintro⟨r,p⟩ J ⟨R,U⟩ j
  obtain⟨h1,h2⟩:=um.mp J
  have:=vS h q (c:=(r,p)) h1 (by simp only;omega)
  rw[j]at this
  exact um.mpr ⟨this.1,by have:=this.2;simp only at this;omega⟩) (n:=WF) (a:=(0,0)) (um.mpr ⟨h.r1,by omega⟩) (by
  have:rooms.length*(w.length+2)<=12*50002:=lI h.r12 (by omega)
  rw[zax]
  show _<1000000
  omega)
 obtain⟨r,rfl⟩:=QV I j
 obtain⟨s,i,Y,e,O,_⟩:=zaY h q WF (0,0) [] _ h.r1 (by simp) j
 refine⟨r,zlw h q j,?_⟩
 injection e with e
 injection e with e _
 injection e with e
 rw[show zU L rooms w=s from e];exact O
def xg(n:Nat):List Key:=[.inr yk,.inr xf,.inr yd]++(aF n).map λ(r:Nat)=>Sum.inl (r:Int)
theorem W1(h:OkM L rooms)(z:∀x∈w,x<L):zT rooms w∈wZ (xg rooms.length) (rooms.length+1):=by
 have one:∀c:Nat×Nat,c.1<rooms.length->x9 (zR rooms w c)∈xg rooms.length:=λc I=>by
  have:=Ym h z I
  unfold xg
  cases q:zR rooms w c with
  | fin s=>
   rw[q]at this
   rcases this with rfl|rfl|rfl <;>simp[x9]
  | out b=>
   rw[q]at this
   refine dH _ (bA.mpr ⟨b,bR.mpr this,rfl⟩)
 refine za1 (by simp[zT,yN]) λk j=>?_
 unfold zT yN at j
 obtain⟨x,hx,rfl⟩:=bA.mp j
 rcases aU.mp hx with rfl|hx
 ·exact one _ h.r1
 ·obtain⟨r,J,rfl⟩:=bA.mp hx
  exact one _ (bR.mp J)
end
end Py
namespace Py
open PySem L2 DD
theorem zkj{Γ:G}{i j:Nat}{k:Int}{q z:G->Option B}{ds:List D}{v:D}(h1:wJ Γ i=some ds)(h2:z Γ=some (.d v))(I:q Γ=some (.d (.int k)))(J:ixN ds.length k=some j):Jk i q z Γ=some (.nx (Γ.set i (.ol (ds.set j v)))):=by
 unfold Jk
 rw[h1,bH,h2,bH,Jl,bH,I,bH,zlp,bH,J]
 rfl
end Py
namespace Py
open PySem L2 DD Pu
open Hop (yp yE Canon dl OkR)
theorem zfn:yp δ s (w++[a])=δ a (yp δ s w):=by simp[yp]
section
variable {A n1 n2:Nat} {δ1 δ2:Nat->Nat->Nat} {s t:Nat}
end
section
variable {A m:Nat} {δ:Nat->Nat->Nat} {g:Nat->Bool}
end
end Py
namespace Py
open PySem L2 DD Pu
open Hop (yp yE Canon dl OkR Lst)
def kix{κ:Type} [DecidableEq κ] (q:κ):List κ->Nat
 | []=>0
 | x::r=>if x=q then 0 else kix q r+1
theorem zfo{κ:Type} [DecidableEq κ] {q:κ}:∀{l:List κ},q∈l->kix q l<l.length
 | [],h=>nomatch h
 | x::r,h=>by
  unfold kix
  split
  ·simp
  ·rename_i e
   have:=zfo (l:=r) ((aU.mp h).resolve_left λz=>e z.symm)
   simp;exact this
theorem zcq{κ:Type} [DecidableEq κ] {q:κ}:∀{l:List κ},q∈l->l[kix q l]?=some q
 | [],h=>nomatch h
 | x::r,h=>by
  unfold kix
  split
  ·rename_i e;simp[e]
  ·rename_i e
   have:=zcq (l:=r) ((aU.mp h).resolve_left λz=>e z.symm)
   simpa using this
theorem zcr{κ:Type} [DecidableEq κ] {q:κ} {m:List κ}:∀{l:List κ},q∈l->kix q (l++m)=kix q l
 | [],h=>nomatch h
 | x::r,h=>by
  show kix q (x::(r++m))=_
  unfold kix
  split
  ·rfl
  ·rename_i e
   rw[zcr ((aU.mp h).resolve_left λz=>e z.symm)]
theorem U6{α:Type}{key:α->List Key}{val:Nat->α->D}:∀{k:Nat} {xs:List α} {q:List Key},q∈xs.map key->∃y,xs[kix q (xs.map key)]?=some y/\key y=q/\y8 (kvG key val k xs) q=some (val (k+kix q (xs.map key)) y)
 | _,[],_,h=>nomatch h
 | k,x::r,q,h=>by
  by_cases e:key x=q
  ·have j:kix q ((x::r).map key)=0:=by rw[bI];unfold kix;rw[if_pos e]
   refine⟨x,?_,e,?_⟩
   ·rw[j];rfl
   ·rw[j];simp[kvG,y8,eF,e]
  ·have z:q∈r.map key:=by
    rw[bI]at h
    rcases aU.mp h with h|h
    ·exact absurd h.symm e
    ·exact h
   obtain⟨y,h1,h2,I⟩:=U6 (val:=val) (k:=k+1) z
   have j:kix q ((x::r).map key)=kix q (r.map key)+1:=by
    rw[bI];show kix q (key x::r.map key)=_;unfold kix;rw[if_neg e]
    cases r <;>rfl
   refine⟨y,by rw[j];simpa using h1,h2,?_⟩
   rw[j,show k+(kix q (r.map key)+1)=k+1+kix q (r.map key) by omega,<-I]
   simp[kvG,y8,eF,e]
section
variable {κ:Type} [DecidableEq κ] {key:List Nat->κ} {A:Nat}
def x6(key:List Nat->κ)(A:Nat)(ws:List (List Nat))(w:List Nat):List Nat:=(aF A).map λa=>kix (key (w++[a])) (ws.map key)
theorem XZ{ws ws':List (List Nat)}{q:κ}(h:ws<+: ws')(j:q∈ws.map key):kix q (ws'.map key)=kix q (ws.map key):=by
 obtain⟨r,rfl⟩:=h
 rw[cL,zcr j]
theorem QW(h:ws<+: ws')(j:∀a,a<A->key (w++[a])∈ws.map key):x6 key A ws' w=x6 key A ws w :=
 dC λa q=>XZ h (j a (bR.mp q))
def wd(key:List Nat->κ)(A:Nat)(ws:List (List Nat)):List (List Nat):=ws.map (x6 key A ws)
variable {ws:List (List Nat)}
theorem vW:(wd key A ws).length=ws.length:=by simp[wd]
theorem QX(j:ws[i]?=some w):(wd key A ws).getD i []=x6 key A ws w:=by
 unfold wd
 rw[aX,aY,j];rfl
theorem za8{i a:Nat}{w:List Nat}(hw:ws[i]?=some w)(ha:a<A):dl (wd key A ws) a i=kix (key (w++[a])) (ws.map key):=by
 show((wd key A ws).getD i []).getD a 0=_
 rw[QX hw]
 unfold x6
 rw[Hop.vk (by simpa using ha)]
 rw[aX,fP ha];rfl
theorem zcs(B:Bfs key A ws ws.length 0){i a:Nat}{w:List Nat}(j:ws[i]?=some w)(q:a<A):key (w++[a])∈ws.map key:=by
 obtain⟨x,z,e,_⟩:=B.closed i a w (.inl (bE.mp j).1) q j
 exact e▸bA.mpr ⟨x,z,rfl⟩
theorem zg3(B:Bfs key A ws ws.length 0):OkR A (wd key A ws):=by
 have q:0<ws.length:=(bE.mp B.one).1
 refine⟨by rw[vW];exact q,λs j=>?_,λa s z j=>?_⟩
 ·rw[vW]at j
  rw[QX (bK j)]
  simp[x6]
 ·rw[vW]at j ⊢
  rw[za8 (bK j) z]
  have:=zfo (zcs B (bK j) z)
  rwa [aN]at this
theorem ziR{q:κ}(h:q∈ws.map key):∃u,ws[kix q (ws.map key)]?=some u/\key u=q:=by
 have h1:=zcq h
 rw[aY]at h1
 cases e:ws[kix q (ws.map key)]? with
 | none=>rw[e]at h1;cases h1
 | some u=>rw[e]at h1;exact⟨u,rfl,by simpa using h1⟩
theorem V4(B:Bfs key A ws ws.length 0)(j:∀u v a,a<A->(∀x∈u,x<A)->(∀x∈v,x<A)->key u=key v->key (u++[a])=key (v++[a])):∀(n:Nat) (w:List Nat),w.length=n->(∀x∈w,x<A)->∃u,ws[yp (dl (wd key A ws)) 0 w]?=some u/\key u=key w
 | 0,w,q,hw=>by
  have:w=[]:=gJ.mp q
  subst this
  exact⟨[],B.one,rfl⟩
 | n+1,u,q,R=>by
  have I:u≠[]:=λz=>by rw[z]at q;cases q
  obtain⟨v,a,rfl⟩:∃v a,u=v++[a]:=⟨u.dropLast,u.getLast I,(mV I).symm⟩
  have U:∀x∈v,x<A:=λx J=>R x (eJ _ J)
  have O:a<A:=R a (by simp)
  obtain⟨x,J,e⟩:=V4 B j n v (by simp at q;exact q) U
  rw[zfn,za8 J O]
  obtain⟨y,Y,Z⟩:=ziR (zcs B J O)
  exact⟨y,Y,Z.trans (j x v a O (B.good x (cE J)) U e)⟩
end
structure Tells (A:Nat) (P:List Nat->Bool) (rows:List (List Nat)) (g:Nat->Bool):Prop where
 ok:OkR A rows
 can:Canon A rows.length (dl rows) g
 is:∀w,(∀x∈w,x<A)->g (yp (dl rows) 0 w)=P w
theorem Tells.one(j:Tells A P r1 g1)(q:Tells A P r2 g2):r1=r2/\∀s,s<r1.length->g1 s=g2 s:=by
 have I:yE A (dl r1) (dl r2) g1 g2 0 0:=λw z=>(j.is w z).trans (q.is w z).symm
 exact Lst.one ⟨j.ok,aP _,j.can,λ_ _=>rfl⟩ ⟨q.ok,aP _,q.can,λ_ _=>rfl⟩ I
theorem Tells.congr(t:Tells A P r g)(h:∀w,(∀x∈w,x<A)->P w=Q w):Tells A Q r g:=⟨t.ok,t.can,λw j=>(t.is w j).trans (h w j)⟩
theorem za9(l:Lst A rows g rows' g')(h:∀w,(∀x∈w,x<A)->g (yp (dl rows) 0 w)=P w):Tells A P rows' g':=⟨l.ok,l.can,λw j=>(l.al w j).trans (h w j)⟩
end Py
namespace Py
open PySem L2 DD Pu
section
variable {L:Nat} {rooms:List (List (Mv aC))}
noncomputable def vz (rooms:List (List (Mv aC))) (w:List Nat):D:=.tup [yf w,yv rooms w]
def YT(L:Nat)(rooms:List (List (Mv aC))):List D:=(aF L).map λa=>D.lst ((x4 rooms (a+1)).map zp)
noncomputable abbrev kvN (rooms:List (List (Mv aC))) (ws:List (List Nat)):List (List Key×D):=kvG (zT rooms) (λk _=>.int (k:Int)) 0 ws
noncomputable abbrev exG (L:Nat) (rooms:List (List (Mv aC))) (ws:List (List Nat)) (rs:List D) (s5 s6 s7 s8 s9 s10:S):G:=[.v (zn L rooms),.v (.lst (YT L rooms)),.ol (ws.map (vz rooms)),.ot (kvN rooms ws),.ol rs,s5,s6,s7,s8,s9,s10]
abbrev dI(l:List Nat):List D:=l.map λ(n:Nat)=>D.int (n:Int)
theorem QY{w:List Nat}{a:Nat}(j:w.length<10000000):yi (.d (yf w)) (.d (.tup [.int (a:Int)]))=some (yf (w++[a])):=by
 have c:w.length+1<=16777216:=by omega
 unfold yf
 simp[c]
theorem ziS(h:OkM L rooms){N:Nat}(hN:N<=1000000-1)(aa:∀ws k a,Bfs (zT rooms) L ws k a->ws.length<=N){ws:List (List Nat)}{k a:Nat}{w:List Nat}{rs:List D}{s10:S}(B:Bfs (zT rooms) L ws k a)(I:ws[k]?=some w)(ha:a<L):
  ∃ws' ab,u2 (exG L rooms ws rs (.v (yf w)) (.v (yv rooms w)) (.ol (dI (x6 (zT rooms) a ws w))) (.v (.int a)) (.v (.lst ((x4 rooms (a+1)).map zp))) s10)=some (.nx (exG L rooms ws' rs (.v (yf w)) (.v (yv rooms w)) (.ol (dI (x6 (zT rooms) (a+1) ws' w))) (.v (.int a)) (.v (.lst ((x4 rooms (a+1)).map zp))) ab))/\
   Bfs (zT rooms) L ws' k (a+1)/\ws'[k]?=some w/\ws<+: ws':=by
 have O:∀x∈w,x<L:=B.good w (cE I)
 have hd:=zbB h O ha
 have ag:=aa _ _ _ B
 have ah:=zcm B k k w (aP _) I
 have ac:=(bE.mp I).1
 have ai:=h.l3
 have aj:(dI (x6 (zT rooms) a ws w)).length=a:=by simp[x6]
 have q:(dI (x6 (zT rooms) a ws w)).length<16777216:=by omega
 have z:=QU (rooms:=rooms) (w:=w++[a])
 have succ:∀ws',x6 (zT rooms) (a+1) ws' w=x6 (zT rooms) a ws' w++[kix (zT rooms (w++[a])) (ws'.map (zT rooms))]:=λws'=>by simp[x6,lx]
 have U:∀b,b<a->zT rooms (w++[b])∈ws.map (zT rooms):=λb hb=>by
  obtain⟨x,hx,e,_⟩:=B.closed k b w (.inr ⟨rfl,hb⟩) (by omega) I
  exact e▸bA.mpr ⟨x,hx,rfl⟩
 by_cases Y:zT rooms (w++[a])∈ws.map (zT rooms)
 ·obtain⟨y,hy,e1,Z⟩:=U6 (val:=λk _=>.int (k:Int)) (k:=0) Y
  rw[dQ]at Z
  refine⟨ws,.v (yv rooms (w++[a])),?_,B.known I Y,I,lC _⟩
  rw[succ]
  generalize x6 (zT rooms) a ws w=R at q ⊢
  have j:R.length<16777216:=by simpa using q
  simp[u2,exG,hd,z,Z,wJ,j]
 ·have Z:=W0 (val:=λk _=>D.int (k:Int)) (k:=0) Y
  have J:WE (.ot (kvN rooms ws)) (yv rooms (w++[a])) (.int (ws.length:Int))=some (.ot (kvN rooms (ws++[w++[a]]))):=by
   unfold WE
   simp only
   rw[z,bH,if_pos (by show _<aH;rw[zcn,szv];omega)]
   have:=ziP (val:=λk _=>D.int (k:Int)) Y
   rw[this]
  have ad:zT rooms (w++[a])∈(ws++[w++[a]]).map (zT rooms):=by simp
  obtain⟨y,hy,e1,e3⟩:=U6 (val:=λk _=>.int (k:Int)) (k:=0) ad
  rw[dQ]at e3
  have ae:ws.length<16777216:=by omega
  have af:=QY (w:=w) (a:=a) (by omega)
  refine⟨ws++[w++[a]],.v (yv rooms (w++[a])),?_,B.fresh ha I Y,by rw[dF ac];exact I,m5 _ _⟩
  rw[succ,QW (ws:=ws) (ws':=ws++[w++[a]]) (m5 _ _) U]
  generalize x6 (zT rooms) a ws w=R at q ⊢
  have j:R.length<16777216:=by simpa using q
  simp only[kvN]at J
  generalize ak:kix (zT rooms (w++[a])) ((ws++[w++[a]]).map (zT rooms))=ix at e3 ⊢
  simp[u2,exG,hd,z,Z,J,wJ,j,ae,af,e3,vz]
theorem zkk(h:OkM L rooms){N:Nat}(hN:N<=1000000-1)(J:∀ws k a,Bfs (zT rooms) L ws k a->ws.length<=N){ws:List (List Nat)}{k:Nat}{w:List Nat}{rs:List D}{s8 s9 s10:S}(B:Bfs (zT rooms) L ws k 0)(hw:ws[k]?=some w):
  ∃ws' q z j,wI (xN 2 (z9 (zr 8) (z9 (zr 9) xY))) u2 (ya (YT L rooms)) (exG L rooms ws rs (.v (yf w)) (.v (yv rooms w)) (.ol []) s8 s9 s10)=some (.nx (exG L rooms ws' rs (.v (yf w)) (.v (yv rooms w)) (.ol (dI (x6 (zT rooms) L ws' w))) q z j))/\
   Bfs (zT rooms) L ws' k L/\ws'[k]?=some w/\ws<+: ws':=by
 have I:(YT L rooms).length=L:=by simp[YT]
 obtain⟨g,h1,ws',q,z,j,hg,hB,O,R⟩:=wE (t:=xN 2 (z9 (zr 8) (z9 (zr 9) xY))) (fb:=u2) (ya (YT L rooms))
  (λa Γ=>∃ws' q z j,Γ=exG L rooms ws' rs (.v (yf w)) (.v (yv rooms w)) (.ol (dI (x6 (zT rooms) a ws' w))) q z j/\Bfs (zT rooms) L ws' k a/\ws'[k]?=some w/\ws<+: ws')
  (exG L rooms ws rs (.v (yf w)) (.v (yv rooms w)) (.ol []) s8 s9 s10) ⟨ws,s8,s9,s10,rfl,B,hw,lC _⟩ (by
   rintro a Γ ha ⟨ae,q,z,j,rfl,B1,U,Y⟩
   have Z:a<L:=by simpa[I]using ha
   obtain⟨aa,ab,e,B2,ac,ad⟩:=ziS h hN J (rs:=rs) (s10:=j) B1 U Z
   refine⟨_,_,?_,e,aa,_,_,ab,rfl,B2,ac,Y.trans ad⟩
   simp[exG,YT])
 rw[Xr,I]at hB hg
 exact⟨ws',q,z,j,by rw[h1,hg],hB,O,R⟩
noncomputable def uP (L:Nat) (rooms:List (List (Mv aC))) (ws:List (List Nat)) (k:Nat):List D:=(ws.take k).map λw=>D.tup (dI (x6 (zT rooms) L ws w))
theorem zfp(B:Bfs (zT rooms) L ws k 0)(z:ws'[k]?=some w)(Y:k<ws.length)(p:ws<+: ws'):uP L rooms ws k++[.tup (dI (x6 (zT rooms) L ws' w))]=uP L rooms ws' (k+1):=by
 have q:k<ws'.length:=(bE.mp z).1
 have I:ws'[k]=w:=(bE.mp z).2
 have J:ws'.take k=ws.take k:=by
  obtain⟨r,rfl⟩:=p
  rw[lB (by omega)]
 unfold uP
 rw[iG q,cL,I,J]
 congr 1
 refine dC λu O=>?_
 obtain⟨i,hi⟩:=qm.mp O
 have j:i<k:=by
  have:=(bE.mp hi).1
  simp at this;omega
 rw[nX j]at hi
 rw[QW p λa R=>?_]
 obtain⟨x,U,e,_⟩:=B.closed i a u (.inl j) R hi
 exact e▸bA.mpr ⟨x,U,rfl⟩
theorem zdS(h:OkM L rooms)(hN:N<=1000000-1)(z:∀ws k a,Bfs (zT rooms) L ws k a->ws.length<=N):∃ws,zaN [zn L rooms]=some (.tup [.lst (ws.map (vz rooms)),.lst ((wd (zT rooms) L ws).map λr=>D.tup (dI r))])/\Bfs (zT rooms) L ws ws.length 0:=by
 have hL:L<1000000:=by have:=h.l3;omega
 have h1:=yC (λ(c:Nat)=>D.lst ((x4 rooms c).map zp)) (t:=zr 0) (cond:=zI) (el:=UO) (Γ:=[.v (zn L rooms),.un,.un,.un,.un,.un,.un,.un,.un,.un,.un]) (ms:=[none,some 0]) (ds:=yS 0 L) ((aF L).map λa=>a+1) (by simp) (by have:=h.l3;simp;omega) (by
  intro k hk
  have ab:k<L:=by simpa using hk
  refine⟨_,rfl,rfl,?_⟩
  have:=YS h (c:=k+1) (by omega)
  simp at this
  simp[yT,UO,this])
 have h0:=U4 h
 have I:=QU (rooms:=rooms) (w:=[])
 obtain⟨g,h2,ws,s5,s6,s7,s8,s9,s10,hg,hB⟩:=QJ (t:=X2) (b:=UP)
  (λk Γ=>∃ws s5 s6 s7 s8 s9 s10,Γ=exG L rooms ws (uP L rooms ws k) s5 s6 s7 s8 s9 s10/\Bfs (zT rooms) L ws k 0/\k<=ws.length)
  (λΓ=>∃ws s5 s6 s7 s8 s9 s10,Γ=exG L rooms ws (uP L rooms ws ws.length) s5 s6 s7 s8 s9 s10/\Bfs (zT rooms) L ws ws.length 0) N (by
   rintro k Γ ⟨ws,s5,s6,s7,s8,s9,s10,rfl,B,hk⟩
   have aa:=z _ _ _ B
   have O:(uP L rooms ws k).length=k:=by simp[uP];omega
   refine⟨by omega,?_⟩
   by_cases q:k<ws.length
   ·refine .inr ⟨by simp[X2,exG,O];omega,?_⟩
    have hw:ws[k]?=some ws[k]:=bK q
    obtain⟨ws',t8,t9,R,e,B',U,J⟩:=zkk h hN z (rs:=uP L rooms ws k) (s8:=s8) (s9:=s9) (s10:=s10) B hw
    have ac:=J.length_le
    refine⟨exG L rooms ws' (uP L rooms ws' (k+1)) (.v (yf ws[k])) (.v (yv rooms ws[k])) (.ol (dI (x6 (zT rooms) L ws' ws[k]))) t8 t9 R,?_,ws',_,_,_,_,_,_,rfl,B'.next,by omega⟩
    rw[<-zfp B U q J]
    generalize uP L rooms ws k=rs at O e ⊢
    have Y:rs.length<16777216:=by omega
    simp only[exG]at e
    have j:(ws.map (vz rooms))[k]?=some (.tup [yf ws[k],yv rooms ws[k]]):=by simp[q,vz]
    generalize Z:ws.map (vz rooms)=fd at e j
    simp[UP,exG,O,xI,Z,j]
    simp[e,wJ,Y]
   ·have:k=ws.length:=by omega
    subst this
    exact .inl ⟨by simp[X2,exG,O],ws,s5,s6,s7,s8,s9,s10,rfl,B⟩) WF 0
  (exG L rooms [[]] [] .un .un .un .un .un .un) (by unfold WF;omega) ⟨[[]],.un,.un,.un,.un,.un,.un,rfl,Bfs.start,by simp⟩
 refine⟨ws,zZ rfl ?_,hB⟩
 subst hg
 simp at h1
 have ec:YT L rooms=(aF L).map ((λ(c:Nat)=>D.lst ((x4 rooms c).map zp))∘λa=>a+1):=rfl
 have er:uP L rooms ws ws.length=(wd (zT rooms) L ws).map λr=>D.tup (dI r):=by
  unfold uP wd
  rw[fG,cZ];rfl
 rw[er]at h2
 simp only[exG,ec]at h2
 simp[zgM,zC,wR hL,h1,h0,I]
 simp[vz,yf,kvG]at h2
 simp[h2,ZN]
end
end Py
namespace Py
open PySem PySem.Spec L2 DD
open PyProof.Rows hiding St
abbrev dN(l:List Nat):List D:=l.map λ(n:Nat)=>D.int (n:Int)
abbrev dKs(l:List Nat):List (Key×D):=l.map λ(s:Nat)=>((Sum.inl (s:Int):Key),D.bl true)
theorem QZ(s:Nat):∀l:List Nat,y8 (dKs l) (Sum.inl (s:Int))=if s∈l then some (.bl true)else none
 | []=>rfl
 | a::r=>by
  have j:=QZ s r
  unfold y8 at j ⊢
  rw[show dKs (a::r)=((Sum.inl (a:Int):Key),D.bl true)::dKs r from rfl,eF]
  by_cases h:a=s
  ·subst h;simp
  ·have h1:¬((Sum.inl (a:Int):Key)=Sum.inl (s:Int)):=λz=>h (by injection z with z;omega)
   have h2:¬s=a:=λz=>h z.symm
   simp only[h1,decide_false]
   rw[j]
   simp[h2]
theorem zfq{s:Nat}{l:List Nat}(h:s∉l):vj (dKs l) (Sum.inl (s:Int)) (D.bl true)=dKs (l++[s]):=by
 unfold vj
 rw[if_neg ?_]
 ·simp
 ·rw[jA]
  rintro⟨x,q,e⟩
  obtain⟨t,z,rfl⟩:=bA.mp q
  have j:((Sum.inl (t:Int):Key))=Sum.inl (s:Int):=by simpa using e
  injection j with j
  have:t=s:=by omega
  exact h (this▸z)
theorem zdT{a0 a3 a4:S}{o:List Nat}{g:Nat}(hz:o.length<16777216):wS [a0,.ol (dN o),.ok (dKs o),a3,a4,.v (.int (g:Int))]=some (.nx [a0,.ol (dN (Hop.zW o g)),.ok (dKs (Hop.zW o g)),a3,a4,.v (.int (g:Int))]):=by
 have h1:Xh true (.d (.int (g:Int))) (.k (dKs o))=some (.bl (!decide (g∈o))):=by
  show some (D.bl (if true=true then !(y8 (dKs o) (Sum.inl (g:Int))).isSome else _))=_
  rw[if_pos rfl,QZ]
  by_cases h:g∈o <;>simp[h]
 unfold wS Hop.zW
 by_cases h:g∈o
 ·simp[h1,h]
 ·have hp:WE (.ok (dKs o)) (.int (g:Int)) (.bl true)=some (.ok (dKs (o++[g]))):=by
   show(if(dKs o).length<aH then some (S.ok (vj (dKs o) (Sum.inl (g:Int)) (.bl true)))else none)=_
   rw[if_pos (by rw[aN,fB];exact hz),zfq h]
  have hl:(dN o).length<16777216:=by rw[aN];exact hz
  simp[h1,h,hp,hz]
  show Xp 1 (some (dN o)) (some (.d (.int (g:Int)))) _=_
  unfold Xp
  simp[hz]
theorem zdU(o:List Nat)(g:Nat):(Hop.zW o g).length<=o.length+1:=by
 unfold Hop.zW
 split
 ·omega
 ·simp
theorem ZT{a0 a3 a4:S}:∀(row:List Nat) (o:List Nat) (x5:S),o.length+row.length<16777216->∃y5,wI (zr 5) wS (dN row) [a0,.ol (dN o),.ok (dKs o),a3,a4,x5]=some (.nx [a0,.ol (dN (row.foldl Hop.zW o)),.ok (dKs (row.foldl Hop.zW o)),a3,a4,y5])
 | [],o,x5,_=>⟨x5,rfl⟩
 | g::r,o,x5,hz=>by
  rw[cD]at hz
  have hl:=zdU o g
  obtain⟨y5,h⟩:=ZT r (Hop.zW o g) (.v (.int (g:Int))) (by omega)
  refine⟨y5,?_⟩
  have e:=zdT (a0:=a0) (a3:=a3) (a4:=a4) (o:=o) (g:=g) (by omega)
  show wI (zr 5) wS (D.int (g:Int)::dN r) _=_
  unfold wI
  rw[show zr 5 (D.int (g:Int)) [a0,.ol (dN o),.ok (dKs o),a3,a4,x5]=some [a0,.ol (dN o),.ok (dKs o),a3,a4,.v (.int (g:Int))]from rfl]
  simp only[bH,e]
  exact h
abbrev zl(rows:List (List Nat)):List D:=rows.map λr=>D.tup (dN r)
theorem zba{o:List Nat}{i:Nat}(h:i<o.length):atI (dN o) (i:Int)=some (.int (o.getD i 0:Nat)):=xq (by rw[aY,aX,bK h];rfl)
theorem ZG{rows:List (List Nat)}{s:Nat}(h:s<rows.length):atI (zl rows) (s:Int)=some (.tup (dN (rows.getD s []))):=xq (by rw[aY,aX,bK h];rfl)
theorem V5{a0 a2 a4 a5:S}{o:List Nat}{i:Nat}:ut [a0,.ol (dN o),a2,.v (.int (i:Int)),a4,a5]=some (decide (i<o.length)):=by
 unfold ut
 simp
theorem zdV{rows:List (List Nat)}{a4 a5:S}{o:List Nat}{i:Nat}(hi:i<o.length)(hs:o.getD i 0<rows.length)(hz:o.length+(rows.getD (o.getD i 0) []).length<16777216):
  ∃y4 y5,vw [.v (.tup (zl rows)),.ol (dN o),.ok (dKs o),.v (.int (i:Int)),a4,a5]=some (.nx [.v (.tup (zl rows)),.ol (dN (Hop.wc rows o i)),.ok (dKs (Hop.wc rows o i)),.v (.int ((i+1:Nat):Int)),y4,y5]):=by
 obtain⟨y5,h⟩:=ZT (a0:=.v (.tup (zl rows))) (a3:=.v (.int (i:Int))) (a4:=.v (.tup (dN (rows.getD (o.getD i 0) [])))) (rows.getD (o.getD i 0) []) o a5 hz
 refine⟨.v (.tup (dN (rows.getD (o.getD i 0) []))),y5,?_⟩
 have e1:=zba hi
 have e2:=ZG hs
 unfold vw
 have hrow:(x2 mIx (za 0) (x2 mIx (za 1) (za 3))) [.v (.tup (zl rows)),.ol (dN o),.ok (dKs o),.v (.int (i:Int)),a4,a5]=some (.d (.tup (dN (rows.getD (o.getD i 0) [])))):=by
  simp only[x2,za]
  show((some (B.d (D.tup (zl rows)))).bind λx=>((some (B.l (dN o))).bind λx=>(some (B.d (D.int (i:Int)))).bind λy=>(mIx x y).map B.d).bind λy=>(mIx x y).map B.d)=_
  simp only[bH]
  rw[show mIx (B.l (dN o)) (B.d (D.int (i:Int)))=atI (dN o) (i:Int)from rfl,e1]
  simp only[eL,bH]
  rw[show mIx (B.d (D.tup (zl rows))) (B.d (D.int ((o.getD i 0:Nat):Int)))=atI (zl rows) ((o.getD i 0:Nat):Int)from rfl,e2]
  rfl
 rw[ye,v8,hrow]
 show(zu (wX (yt (za 4)) (zr 5) wS) (zc3 3 (xC (.int 1)))) [S.v (.tup (zl rows)),.ol (dN o),.ok (dKs o),.v (.int (i:Int)),.v (.tup (dN (rows.getD (o.getD i 0) []))),a5]=_
 rw[ye,show wX (yt (za 4)) (zr 5) wS [S.v (.tup (zl rows)),.ol (dN o),.ok (dKs o),.v (.int (i:Int)),.v (.tup (dN (rows.getD (o.getD i 0) []))),a5]=wI (zr 5) wS (dN (rows.getD (o.getD i 0) [])) [S.v (.tup (zl rows)),.ol (dN o),.ok (dKs o),.v (.int (i:Int)),.v (.tup (dN (rows.getD (o.getD i 0) []))),a5]from rfl,h]
 rfl
theorem Y1(j:∀a s,a<A->s<rows.length->(rows.getD s []).getD a 0<rows.length)(z:∀s,s<rows.length->(rows.getD s []).length=A)(O:rows.length+A<16777216):
  ∀(f F i:Nat) (o:List Nat) (a4 a5:S),Hop.BI rows.length A (λa s=>(rows.getD s []).getD a 0) i 0 o->rows.length<=f+i->f<F->∃R I y5,xP ut vw F [.v (.tup (zl rows)),.ol (dN o),.ok (dKs o),.v (.int (i:Int)),a4,a5]=some (.nx [.v (.tup (zl rows)),.ol (dN (Hop.bfs rows f i o)),.ok (dKs (Hop.bfs rows f i o)),R,I,y5])
 | f,0,i,o,a4,a5,b,U,Y=>by omega
 | f,F+1,i,o,a4,a5,b,U,Y=>by
  have J:o.length<=rows.length:=by
   have:=Hop.yH (m:=aF rows.length) b.nd λs q=>bR.mpr (b.lt s q)
   rwa [cY]at this
  unfold xP
  rw[V5]
  by_cases hi:i<o.length
  ·have q:=b.lt _ (Hop.wj hi)
   cases f with
   | zero=>omega
   | succ f=>
    obtain⟨I,y5,h⟩:=zdV (a4:=a4) (a5:=a5) hi q (by rw[z _ q];omega)
    obtain⟨Z,q2⟩:=Hop.Xv j (rows.getD (o.getD i 0) []) 0 o (by rw[z _ q];omega) hi (λc _=>by rw[dQ]) b
    obtain⟨z3,z4,z5,hh⟩:=Y1 j z O f F (i+1) (Hop.wc rows o i) I y5 (Hop.XX (show i<((rows.getD (o.getD i 0) []).foldl Hop.zW o).length by omega) Z) (by omega) (by omega)
    refine⟨z3,z4,z5,?_⟩
    rw[decide_eq_true hi]
    simp only[bH,h]
    unfold Hop.bfs
    rw[if_pos hi]
    exact hh
  ·refine⟨.v (.int (i:Int)),a4,a5,?_⟩
   rw[decide_eq_false hi]
   have e:Hop.bfs rows f i o=o:=by
    cases f with
    | zero=>rfl
    | succ f=>unfold Hop.bfs;rw[if_neg hi]
   rw[e]
   rfl
theorem zfr{A:Nat}{rows:List (List Nat)}(hn:0<rows.length)(hlt:∀a s,a<A->s<rows.length->(rows.getD s []).getD a 0<rows.length)(hA:∀s,s<rows.length->(rows.getD s []).length=A)(hz:rows.length+A<100000):
  YK [.tup (zl rows)]=some (.lst (dN (Hop.bfs rows rows.length 0 [0]))):=by
 obtain⟨y3,y4,y5,h⟩:=Y1 hlt hA (by omega) rows.length WF 0 [0] .un .un (Hop.Zq hn) (by omega) (by unfold WF;omega)
 have e:UQ [.v (.tup (zl rows)),.un,.un,.un,.un,.un]=some (.rt (.lst (dN (Hop.bfs rows rows.length 0 [0])))):=by
  unfold UQ
  show(zu (xP ut vw WF) (uH 1 (zS (za 1)))) [.v (.tup (zl rows)),.ol (dN [0]),.ok (dKs [0]),.v (.int ((0:Nat):Int)),.un,.un]=_
  rw[ye,h]
  rfl
 unfold YK mir
 rw[if_pos (show [D.tup (zl rows)].length=1 from rfl),show zC 6 [D.tup (zl rows)]=[.v (.tup (zl rows)),.un,.un,.un,.un,.un]from rfl,e]
theorem XA{rows:List (List Nat)}{kept:List Nat}{numbers:D}{nm:Nat->Nat}(O:∀s∈kept,s<rows.length)(R:kept.length<=16777216)(U:∀s,s<rows.length->(rows.getD s []).length<=16777216) 
  (Y:∀s∈kept,∀g∈rows.getD s [],YA (.d numbers) (.d (.int (g:Int)))=some (.int (nm g:Nat))) :
  ua [.tup (zl rows),.lst (dN kept),numbers]=some (.tup (zl (kept.map λs=>(rows.getD s []).map nm))):=by
 have j:∀s∈kept,xX [.v (.int (s:Int)),.v (.tup (zl rows)),.v numbers]=some (.d (.tup (dN ((rows.getD s []).map nm)))):=λs J=>by
  have Z:=yC (λ(x:Nat)=>D.int (x:Int)) (t:=zr 0) (cond:=zI) (el:=wT) (Γ:=[.v (.int (s:Int)),.v (.tup (zl rows)),.v numbers]) (ms:=[none,some 2]) (ds:=dN (rows.getD s [])) ((rows.getD s []).map nm) (by simp) (by rw[aN];exact U s (O s J)) λk h=>by
   rw[aN]at h
   refine⟨[.v (.int ((rows.getD s [])[k]:Nat)),.v numbers],?_,rfl,?_⟩
   ·show some _=some _
    simp[yT]
   ·show x2 YA (za 1) (za 0) _=_
    have:=Y s J _ (bY h)
    simp only[x2,za]
    show((some (B.d numbers)).bind λx=>(some (B.d (D.int ((rows.getD s [])[k]:Nat)))).bind λy=>(YA x y).map B.d)=_
    simp only[bH,this,eL,eG]
  have z:(x2 mIx (za 1) (za 0)) [.v (.int (s:Int)),.v (.tup (zl rows)),.v numbers]=some (.d (.tup (dN (rows.getD s [])))):=by
   simp only[x2,za]
   show((some (B.d (D.tup (zl rows)))).bind λx=>(some (B.d (D.int (s:Int)))).bind λy=>(mIx x y).map B.d)=_
   simp only[bH]
   rw[show mIx (B.d (D.tup (zl rows))) (B.d (D.int (s:Int)))=atI (zl rows) (s:Int)from rfl,ZG (O s J)]
   rfl
  have I:yt (x2 mIx (za 1) (za 0)) [.v (.int (s:Int)),.v (.tup (zl rows)),.v numbers]=some (dN (rows.getD s [])):=by
   unfold yt
   rw[z];rfl
  have q:z0 (yt (x2 mIx (za 1) (za 0))) [none,some 2] (zr 0) zI wT [.v (.int (s:Int)),.v (.tup (zl rows)),.v numbers]=some (dN ((rows.getD s []).map nm)):=by
   rw[wQ,I,Z]
  unfold xX
  show((zc (xL (z0 (yt (x2 mIx (za 1) (za 0))) [none,some 2] (zr 0) zI wT)) zg _).bind λbs=>(wv bs).map B.d)=_
  rw[show zc (xL (z0 (yt (x2 mIx (za 1) (za 0))) [none,some 2] (zr 0) zI wT)) zg [.v (.int (s:Int)),.v (.tup (zl rows)),.v numbers]=some [.d (.lst (dN ((rows.getD s []).map nm)))]from by
   show((xL (z0 (yt (x2 mIx (za 1) (za 0))) [none,some 2] (zr 0) zI wT) _).bind λb=>(some []).map λr=>b::r)=_
   rw[uM,q];rfl]
  rfl
 have outer:=yC (λ(r:List Nat)=>D.tup (dN r)) (t:=zr 0) (cond:=zI) (el:=xX) (Γ:=[.v (.tup (zl rows)),.v (.lst (dN kept)),.v numbers]) (ms:=[none,some 0,some 2]) (ds:=dN kept) (kept.map λs=>(rows.getD s []).map nm) (by simp) (by rw[aN];exact R) λk h=>by
  rw[aN]at h
  refine⟨[.v (.int (kept[k]:Nat)),.v (.tup (zl rows)),.v numbers],?_,rfl,?_⟩
  ·show some _=some _
   simp[yT]
  ·rw[j _ (bY h),eG]
 have q:z0 (yt (za 1)) [none,some 0,some 2] (zr 0) zI xX [.v (.tup (zl rows)),.v (.lst (dN kept)),.v numbers]=some (zl (kept.map λs=>(rows.getD s []).map nm)):=by
  rw[wQ,show yt (za 1) [.v (.tup (zl rows)),.v (.lst (dN kept)),.v numbers]=some (dN kept)from rfl,outer]
 have e:UR [.v (.tup (zl rows)),.v (.lst (dN kept)),.v numbers]=some (.rt (.tup (zl (kept.map λs=>(rows.getD s []).map nm)))):=by
  unfold UR
  show(((zc (xL (z0 (yt (za 1)) [none,some 0,some 2] (zr 0) zI xX)) zg _).bind λbs=>(wv bs).map B.d).bind λb=>b.asD.map Out.rt)=_
  rw[show zc (xL (z0 (yt (za 1)) [none,some 0,some 2] (zr 0) zI xX)) zg [.v (.tup (zl rows)),.v (.lst (dN kept)),.v numbers]=some [.d (.lst (zl (kept.map λs=>(rows.getD s []).map nm)))]from by
   show((xL (z0 (yt (za 1)) [none,some 0,some 2] (zr 0) zI xX) _).bind λb=>(some []).map λr=>b::r)=_
   rw[uM,q];rfl]
  rfl
 unfold ua mir
 rw[if_pos (show [D.tup (zl rows),.lst (dN kept),numbers].length=3 from rfl),show zC 3 [D.tup (zl rows),.lst (dN kept),numbers]=[.v (.tup (zl rows)),.v (.lst (dN kept)),.v numbers]from rfl,e]
abbrev kN(l:List Nat):List Key:=l.map λ(s:Nat)=>(Sum.inl (s:Int):Key)
theorem YU:∀(o:List Nat) (j g:Nat),g∈o->y8 ((kN o).zip ((cT j o.length).map λ(k:Nat)=>D.int (k:Int))) (Sum.inl (g:Int))=some (.int ((j+o.idxOf g:Nat):Int))
 | [],j,g,h=>by cases h
 | a::r,j,g,h=>by
  have q:=YU r (j+1) g
  unfold y8 at q ⊢
  rw[show(kN (a::r)).zip ((cT j (a::r).length).map λ(k:Nat)=>D.int (k:Int))=((Sum.inl (a:Int):Key),D.int (j:Int))::(kN r).zip ((cT (j+1) r.length).map λ(k:Nat)=>D.int (k:Int))from by simp[jZ],eF]
  by_cases e:a=g
  ·subst e;simp
  ·have h1:¬((Sum.inl (a:Int):Key)=Sum.inl (g:Int)):=λz=>e (by injection z with z;omega)
   simp only[h1,decide_false]
   have I:g∈r:=by
    rcases aU.mp h with z|z
    ·exact absurd z.symm e
    ·exact z
   rw[q I,m8]
   have h2:(a==g)=false:=by simpa using e
   rw[h2]
   simp only[cond_false]
   congr 3
   omega
theorem Q0{o:List Nat}{g:Nat}(h:g∈o):YA (.d (.dK (kN o) ((aF o.length).map λ(k:Nat)=>D.int (k:Int)))) (.d (.int (g:Int)))=some (.int ((o.idxOf g:Nat):Int)):=by
 have e:=YU o 0 g h
 rw[dQ,<-nh]at e
 show qr none ((some (y8 _ _)).bind id)=_
 rw[e];rfl
abbrev prs(j:Nat)(o:List Nat):List (Key×D):=(kN o).zip ((cT j o.length).map λ(k:Nat)=>D.int (k:Int))
theorem Q1:∀(kvs acc:List (Key×D)),(kvs.map cC).Nodup->(∀k∈kvs.map cC,k∉acc.map cC)->uF acc kvs=acc++kvs
 | [],acc,_,_=>by simp[uF]
 | (k,v)::r,acc,q,h=>by
  rw[bI,dO]at q
  have O:=h k (by simp)
  have e:vj acc k v=acc++[(k,v)]:=by
   unfold vj
   rw[if_neg]
   rw[jA]
   rintro⟨x,R,ex⟩
   exact O (bA.mpr ⟨x,R,by simpa using ex⟩)
  show uF (vj acc k v) r=_
  rw[e,Q1 r _ q.2 λI j J=>?_]
  ·simp
  ·rw[cL,bX]at J
   rcases J with z|z
   ·exact h I (bO _ j) z
   ·have:I=k:=by simpa using z
    subst this
    exact q.1 j
theorem zg4(h:o.Nodup):(kN o).Nodup:=by
 rw[List.nodup_iff_pairwise_ne]at h ⊢
 rw[List.pairwise_map]
 exact h.imp λj z=>j (by injection z with z;omega)
theorem Wf(o:List Nat)(j:Nat):(prs j o).map cC=kN o:=List.map_fst_zip (by simp)
theorem zct(o:List Nat)(j:Nat):(prs j o).map fO=(cT j o.length).map λ(k:Nat)=>D.int (k:Int):=List.map_snd_zip (by simp)
theorem zfs(h:o.Nodup):uF [] (prs 0 o)=prs 0 o:=by
 rw[Q1 _ _ (by rw[Wf];exact zg4 h) (by simp)];rfl
theorem V6:∀(o:List Nat) (j:Nat),Zm ((o.zip (cT j o.length)).map λ(p:Nat×Nat)=>D.tup [.int (p.1:Int),.int (p.2:Int)])=some (prs j o)
 | [],j=>rfl
 | a::r,j=>by
  have q:=V6 r (j+1)
  rw[show((a::r).zip (cT j (a::r).length)).map (λ(p:Nat×Nat)=>D.tup [.int (p.1:Int),.int (p.2:Int)])=D.tup [.int (a:Int),.int (j:Int)]::(r.zip (cT (j+1) r.length)).map (λ(p:Nat×Nat)=>D.tup [.int (p.1:Int),.int (p.2:Int)])from by simp[jZ]]
  show((Xg (.int (a:Int))).bind λk=>(Zm _).map λt=>(k,D.int (j:Int))::t)=_
  rw[q]
  show some _=some _
  simp[prs,jZ]
theorem zbb:∀(o:List Nat) (j g:Nat),g∉o->y8 (prs j o) (Sum.inl (g:Int))=none
 | [],j,g,h=>rfl
 | a::r,j,g,h=>by
  rw[aU,not_or]at h
  have q:=zbb r (j+1) g h.2
  unfold y8 at q ⊢
  rw[show prs j (a::r)=((Sum.inl (a:Int):Key),D.int (j:Int))::prs (j+1) r from by simp[prs,jZ],eF]
  have h1:¬((Sum.inl (a:Int):Key)=Sum.inl (g:Int)):=λz=>h.1 (by injection z with z;omega)
  simp only[h1,decide_false]
  exact q
theorem ziT{o:List Nat}{g:Nat}(h:g∉o):vj (prs 0 o) (Sum.inl (g:Int)) (.int (o.length:Int))=prs 0 (o++[g]):=by
 unfold vj
 rw[if_neg]
 ·simp[prs,List.range'_concat,List.zip_append]
 ·rw[jA]
  rintro⟨x,z,ex⟩
  have I:x.1∈kN o:=by rw[<-Wf o 0];exact bA.mpr ⟨x,z,rfl⟩
  obtain⟨t,J,q⟩:=bA.mp I
  have O:x.1=Sum.inl (g:Int):=by simpa using ex
  rw[O]at q
  have j:(Sum.inl (t:Int):Key)=Sum.inl (g:Int):=q
  injection j with j
  have:t=g:=by omega
  exact h (this▸J)
theorem zg5{a0 a1 a2 a3 a4 a5 a6 a7 a12:S}{ps kept:List Nat}{s p:Nat}(z:ps.length=kept.length)(q:kept.length<16777216):
  Yj [a0,a1,a2,a3,a4,a5,a6,a7,.ok (prs 0 ps),.ol (dN kept),.v (.int (s:Int)),.v (.int (p:Int)),a12]=
   some (.nx [a0,a1,a2,a3,a4,a5,a6,a7,.ok (prs 0 (if p∈ps then ps else ps++[p])),.ol (dN (if p∈ps then kept else kept++[s])),.v (.int (s:Int)),.v (.int (p:Int)),a12]):=by
 have h1:Xh true (.d (.int (p:Int))) (.k (prs 0 ps))=some (.bl (!decide (p∈ps))):=by
  show some (D.bl (if true=true then !(y8 (prs 0 ps) (Sum.inl (p:Int))).isSome else _))=_
  rw[if_pos rfl]
  by_cases h:p∈ps
  ·rw[YU ps 0 p h];simp[h]
  ·rw[zbb ps 0 p h];simp[h]
 unfold Yj
 by_cases h:p∈ps
 ·simp[h1,h]
 ·have j:(prs 0 ps).length=ps.length:=by simp[prs]
  have I:WE (.ok (prs 0 ps)) (.int (p:Int)) (.int (kept.length:Int))=some (.ok (prs 0 (ps++[p]))):=by
   show(if(prs 0 ps).length<aH then some (S.ok (vj (prs 0 ps) (Sum.inl (p:Int)) (.int (kept.length:Int))))else none)=_
   rw[if_pos (by rw[j,fB];omega),<-z,ziT h]
  simp[h1,h,I,q]
  show Xp 9 (some (dN kept)) (some (.d (.int (s:Int)))) _=_
  unfold Xp
  simp[q]
theorem XB(part:Nat->Nat):∀i,(Hop.xb part i).length<=i
 | 0=>aP _
 | i+1=>by
  have:=XB part i
  unfold Hop.xb
  split
  ·omega
  ·rw[bM,cN];omega
theorem ZC{parts:List Nat}{k:Nat}(h:k<(ya (dN parts)).length):(ya (dN parts))[k]=.tup [.int (k:Int),.int ((parts.getD k 0:Nat):Int)]:=by
 have j:k<parts.length:=by simpa[ya]using h
 simp[ya,j]
theorem zft{a0 a1 a2 a3 a4 a5 a6 a7 a10 a11 a12:S}(parts:List Nat)(hz:parts.length<16777216):
  ∃y10 y11,wI (xN 2 (z9 (zr 10) (z9 (zr 11) xY))) Yj (ya (dN parts)) [a0,a1,a2,a3,a4,a5,a6,a7,.ok [],.ol [],a10,a11,a12]=
   some (.nx [a0,a1,a2,a3,a4,a5,a6,a7,.ok (prs 0 ((Hop.xb (λs=>parts.getD s 0) parts.length).map λs=>parts.getD s 0)),.ol (dN (Hop.xb (λs=>parts.getD s 0) parts.length)),y10,y11,a12]):=by
 obtain⟨g,h1,y10,y11,hg⟩:=wE (t:=xN 2 (z9 (zr 10) (z9 (zr 11) xY))) (fb:=Yj) (ya (dN parts))
  (λk Γ=>∃y10 y11,Γ=[a0,a1,a2,a3,a4,a5,a6,a7,.ok (prs 0 ((Hop.xb (λs=>parts.getD s 0) k).map λs=>parts.getD s 0)),.ol (dN (Hop.xb (λs=>parts.getD s 0) k)),y10,y11,a12])
  [a0,a1,a2,a3,a4,a5,a6,a7,.ok [],.ol [],a10,a11,a12] ⟨a10,a11,rfl⟩ λk Γ h hh69'=>by
   obtain⟨x10,x11,e⟩:=hh69'
   subst e
   have hk:k<parts.length:=by simpa[ya]using h
   have hl:=XB (λs=>parts.getD s 0) k
   refine⟨[a0,a1,a2,a3,a4,a5,a6,a7,.ok (prs 0 ((Hop.xb (λs=>parts.getD s 0) k).map λs=>parts.getD s 0)),.ol (dN (Hop.xb (λs=>parts.getD s 0) k)),.v (.int (k:Int)),.v (.int ((parts.getD k 0:Nat):Int)),a12],_,by rw[ZC h];rfl,zg5 (by simp) (by omega),.v (.int (k:Int)),.v (.int ((parts.getD k 0:Nat):Int)),?_⟩
   have e1:Hop.xb (λs=>parts.getD s 0) (k+1)=if parts.getD k 0∈(Hop.xb (λs=>parts.getD s 0) k).map (λs=>parts.getD s 0)then Hop.xb (λs=>parts.getD s 0) k else Hop.xb (λs=>parts.getD s 0) k++[k]:=rfl
   rw[e1]
   split
   ·rfl
   ·rw[cL];rfl
 have hlen:(ya (dN parts)).length=parts.length:=by simp[ya]
 rw[hlen]at hg
 exact⟨y10,y11,by rw[h1,hg]⟩
theorem Q2:∀l:List Nat,Pt.uG (dN l)=some l
 | []=>rfl
 | a::r=>by
  show(if(0:Int)<=(a:Int)then(Pt.uG (dN r)).map λl=>(a:Int).toNat::l else none)=_
  rw[if_pos (by omega),Q2 r];simp
theorem ub:∀rows:List (List Nat),Pt.wy (zl rows)=some rows
 | []=>rfl
 | a::r=>by
  show((Pt.uG (dN a)).bind λl=>(Pt.wy (zl r)).map λm=>l::m)=_
  rw[Q2 a,ub r];rfl
theorem V7:∀l:List Bool,Pt.xt (l.map D.bl)=some l
 | []=>rfl
 | a::r=>by
  show((Pt.xt (r.map D.bl)).map λl=>a::l)=_
  rw[V7 r];rfl
theorem zdW{rows:List (List Nat)}{A:Nat}(hlt:∀a s,a<A->s<rows.length->(rows.getD s []).getD a 0<rows.length)(hA:∀s,s<rows.length->(rows.getD s []).length=A):Pt.u0 rows A=true:=by
 unfold Pt.u0
 rw[dG]
 intro r hr
 obtain⟨s,hs,e⟩:=cS.mp hr
 have es:rows.getD s []=r:=by rw[aX,bK hs];exact e
 have hl:=hA s hs
 rw[es]at hl
 rw[dY,decide_eq_true_eq,dG]
 refine⟨by omega,λg hg=>decide_eq_true ?_⟩
 obtain⟨a,ha,ea⟩:=cS.mp hg
 rw[iP]at ha
 rw[m4]at ea
 have:=hlt a s (by omega) hs
 rw[es,aX,bK (show a<r.length by omega),eX,ea]at this
 exact this
theorem ziU{rows:List (List Nat)}{A:Nat}{marks:List Bool}(hlt:∀a s,a<A->s<rows.length->(rows.getD s []).getD a 0<rows.length)(hA:∀s,s<rows.length->(rows.getD s []).length=A)(hm:marks.length=rows.length)(hz:rows.length+A<100000):
  Pt.Yf [.int (A:Int),.tup (zl rows),.lst (marks.map D.bl)]=some (.lst (dN (Hop.xi (Pt.bks rows A) marks))):=by
 unfold Pt.Yf
 simp only
 rw[ub,V7]
 simp only[bH]
 have hs:aH=16777216:=fB
 rw[if_pos ⟨by omega,by rw[gH];exact zdW hlt hA,hm,by omega,by rw[gH];omega⟩,gH]
def yY(A:Nat)(rows:List (List Nat))(g:Nat->Bool):D:=.tup [.int (A:Int),.tup (zl rows),.tup (dN (yB rows.length g))]
theorem zg6{Γ:G}{o:List Nat}(hl:o.length<=100000):wG (some (ya (dN o))) [none,none] (xN 2 (z9 (zr 0) (z9 (zr 1) xY))) zI X3 Γ=some ((o.zip (cT 0 o.length)).map λ(p:Nat×Nat)=>D.tup [.int (p.1:Int),.int (p.2:Int)]):=by
 refine yC (λ(p:Nat×Nat)=>D.tup [.int (p.1:Int),.int (p.2:Int)]) _ (by simp[ya]) (by simp[ya];omega) λk h=>?_
 have hk:k<o.length:=by simpa[ya]using h
 refine⟨[.v (.int (k:Int)),.v (.int (o[k]:Nat))],?_,rfl,?_⟩
 ·rw[ZC h,Hop.xW hk];rfl
 ·simp[X3,qb]
theorem zlx{g:Nat->Bool}{n s:Nat}(h:s<n):atI ((aF n).map λ(s:Nat)=>D.bl (g s)) (s:Int)=some (.bl (g s)):=by
 rw[xI];simp[h]
theorem zg7{a0 a1:S}{R:List S}{o:List Nat}{g:Nat->Bool}{n:Nat}(z:o.length<=100000)(j:∀s∈o,s<n):
  wG (some (dN o)) [none,some 2] (zr 0) zI X4 (a0::a1::.v (.lst ((aF n).map λ(s:Nat)=>D.bl (g s)))::R)=some ((o.map g).map D.bl):=by
 refine yC D.bl (o.map g) (by simp) (by simp;omega) λk h=>?_
 have q:k<o.length:=by simpa using h
 refine⟨[.v (.int (o[k]:Nat)),.v (.lst ((aF n).map λ(s:Nat)=>D.bl (g s)))],?_,rfl,?_⟩
 ·simp[yT]
 ·simp only[X4,vQ,Zn]
  show ap2 mIx (some (.d (.lst ((aF n).map λ(s:Nat)=>D.bl (g s))))) (some (.d (.int (o[k]:Nat))))=_
  rw[vP,zan,ze0,bH,zlx (j _ (bY q))]
  simp
theorem zg8{Γ:G}{parts ps:List Nat}(j:Γ[8]?=some (.v (.dK (kN ps) ((cT 0 ps.length).map λ(k:Nat)=>D.int (k:Int)))))(I:parts.length<=100000)(q:∀p∈parts,p∈ps):
  wG (some (dN parts)) [none,some 8] (zr 0) zI Yk Γ=some (dN (parts.map λp=>ps.idxOf p)):=by
 refine yC (λ(n:Nat)=>D.int (n:Int)) (parts.map λp=>ps.idxOf p) (by simp) (by simp;omega) λk h=>?_
 have z:k<parts.length:=by simpa using h
 refine⟨[.v (.int (parts[k]:Nat)),.v (.dK (kN ps) ((cT 0 ps.length).map λ(k:Nat)=>D.int (k:Int)))],?_,rfl,?_⟩
 ·simp[yT,j]
 ·have e:=YU ps 0 parts[k] (q _ (bY z))
  rw[dQ]at e
  simp only[Yk,vQ,Zn]
  show ap2 Zz (some (.d (.dK (kN ps) ((cT 0 ps.length).map λ(k:Nat)=>D.int (k:Int))))) (some (.d (.int (parts[k]:Nat))))=_
  rw[vP]
  show((some (y8 ((kN ps).zip ((cT 0 ps.length).map λ(k:Nat)=>D.int (k:Int))) (Sum.inl ((parts[k]:Nat):Int)))).bind id).map B.d=_
  rw[e]
  simp
theorem zg9{Γ:G}{kept:List Nat}{marks:List Bool}(hΓ:Γ[6]?=some (.v (.lst (marks.map D.bl))))(hl:kept.length<=100000)(hk:∀s∈kept,s<marks.length):
  wG (some (ya (dN kept))) [none,none,some 6] (xN 2 (z9 (zr 0) (z9 (zr 1) xY))) Yl X5 Γ=some (dN (yB kept.length λi=>marks.getD (kept.getD i 0) false)):=by
 have:=zfk (λ(n:Nat)=>D.int (n:Int)) (t:=xN 2 (z9 (zr 0) (z9 (zr 1) xY))) (cond:=Yl) (el:=X5) (Γ:=Γ) (ms:=[none,none,some 6]) (ds:=ya (dN kept)) (λi=>marks.getD (kept.getD i 0) false) (by simp[ya];omega) λk h=>by
  have hkl:k<kept.length:=by simpa[ya]using h
  have hm:kept.getD k 0<marks.length:=hk _ (Hop.wj hkl)
  refine⟨[.v (.int (k:Int)),.v (.int (kept.getD k 0:Nat)),.v (.lst (marks.map D.bl))],?_,?_,λ_=>rfl⟩
  ·rw[ZC h]
   simp[yT,hΓ,xN,z9,xY]
  ·simp only[Yl,zjY,vQ,Zn]
   show zde (ap2 mIx (some (.d (.lst (marks.map D.bl)))) (some (.d (.int (kept.getD k 0:Nat)))))=_
   rw[vP,zan,ze0,bH,xI,aY,bK hm,aX (l:=marks),bK hm]
   rfl
 rw[this]
 simp[ya,yB]
section
variable {A:Nat} {rows near:List (List Nat)} {g:Nat->Bool} {o:List Nat}
theorem V8{R:D}(ok:Hop.OkR A rows)(aa:A<=3)(hz:rows.length<=50000)(ho:o=Hop.bfs rows rows.length 0 [0])(Y:near=o.map λs=>(rows.getD s []).map λg=>o.idxOf g) 
  (h1:YK [R]=some (.lst (dN o))) (h2:ua [R,.lst (dN o),.dK (kN o) ((aF o.length).map λ(k:Nat)=>D.int (k:Int))]=some (.tup (zl near))) :
  ∃rows' g',uO [.int (A:Int),R,.lst ((aF rows.length).map λ(s:Nat)=>D.bl (g s))]=some (yY A rows' g')/\Hop.Lst A rows g rows' g':=by
 have b:=Hop.vF ok ho
 have ol:=Hop.Zr b
 have q:o.length<=50000:=bS ol hz
 obtain⟨z,nl⟩:=Hop.UG ok b Y
 generalize j:Hop.xi (Pt.bks near A) (o.map g)=parts
 generalize I:Hop.xb (λs=>parts.getD s 0) o.length=kept
 have af:∀i,i<A->Hop.Back near.length (λs=>(near.getD s []).getD i 0) ((Pt.bks near A).getD i []):=λi hi=>by
  rw[aX,Pt.Uz hi]
  exact Pt.Rows.back ⟨λs U=>fK (z.len s U).symm,λs a U ha=>z.lt a s ha U⟩ hi
 obtain⟨L,pl,kl,ag⟩:=Hop.zdm (good:=g) (part:=λs=>parts.getD s 0) (kept:=kept) ok ho Y (Pt.UA near A) af (by rw[j]) I.symm rfl rfl
 rw[j]at pl
 refine⟨_,_,?_,L⟩
 have hm:=ziU (rows:=near) (A:=A) (marks:=o.map g) z.lt z.len (by simp[nl]) (by rw[nl];exact iE (qs q aa) (by decide))
 rw[j]at hm
 obtain⟨J,O,Z⟩:=zft (a0:=.v (.int (A:Int))) (a1:=.v R) (a2:=.v (.lst ((aF rows.length).map λ(s:Nat)=>D.bl (g s)))) (a3:=.v (.lst (dN o))) (a4:=.v (.dK (kN o) ((aF o.length).map λ(k:Nat)=>D.int (k:Int)))) (a5:=.v (.tup (zl near))) (a6:=.v (.lst ((o.map g).map D.bl))) (a7:=.v (.lst (dN parts))) (a10:=.un) (a11:=.un) (a12:=.un) parts (by rw[pl];exact iE q (by decide))
 rw[pl,I]at Z
 have ab:kept.length<=o.length:=by rw[<-I];exact XB _ _
 have ah:∀p∈parts,p∈kept.map λs=>parts.getD s 0:=λp hp=>by
  obtain⟨s,U,e⟩:=cS.mp hp
  have:=ag s (pl▸U)
  rw[show parts.getD s 0=p from by rw[Hop.xW U];exact e]at this
  exact this
 have ac:=XA (rows:=near) (kept:=kept) (numbers:=.lst (dN (parts.map λp=>(kept.map λs=>parts.getD s 0).idxOf p))) (nm:=Hop.vR (λs=>parts.getD s 0) kept) (λs U=>by rw[nl];exact kl s U) (bS ab (bS q (by decide))) (λs U=>by rw[z.len s U];exact bS aa (by decide)) λs U x hx=>by
  have ad:s<near.length:=by rw[nl];exact kl s U
  obtain⟨a,ha,e⟩:=cS.mp hx
  have ae:x<parts.length:=by
   have:=z.lt a s (by rw[<-z.len s ad];exact ha) ad
   rw[show Hop.dl near a s=x from by show(near.getD s []).getD a 0=x;rw[Hop.xW ha];exact e]at this
   rw[pl,<-nl];exact this
  show qr (atI (dN (parts.map λp=>(kept.map λs=>parts.getD s 0).idxOf p)) (x:Int)) _=_
  rw[zba (by simpa using ae),Hop.vk ae]
  rfl
 have c1:=zg6 (Γ:=[.v (.int (A:Int)),.v R,.v (.lst ((aF rows.length).map λ(s:Nat)=>D.bl (g s))),.v (.lst (dN o)),.un,.un,.un,.un,.un,.un,.un,.un,.un]) (o:=o) (bS q (by decide))
 have c2:=zg7 (a0:=.v (.int (A:Int))) (a1:=.v R) (R:=[.v (.lst (dN o)),.v (.dK (kN o) ((aF o.length).map λ(k:Nat)=>D.int (k:Int))),.v (.tup (zl near)),.un,.un,.un,.un,.un,.un,.un]) (g:=g) (bS q (by decide)) b.lt
 have c3:=zg8 (Γ:=[.v (.int (A:Int)),.v R,.v (.lst ((aF rows.length).map λ(s:Nat)=>D.bl (g s))),.v (.lst (dN o)),.v (.dK (kN o) ((aF o.length).map λ(k:Nat)=>D.int (k:Int))),.v (.tup (zl near)),.v (.lst ((o.map g).map D.bl)),.v (.lst (dN parts)),.v (.dK (kN (kept.map λs=>parts.getD s 0)) ((cT 0 (kept.map λs=>parts.getD s 0).length).map λ(k:Nat)=>D.int (k:Int))),.v (.lst (dN kept)),J,O,.un]) rfl (parts:=parts) (by rw[pl];exact bS q (by decide)) ah
 have c4:=zg9 (Γ:=[.v (.int (A:Int)),.v R,.v (.lst ((aF rows.length).map λ(s:Nat)=>D.bl (g s))),.v (.lst (dN o)),.v (.dK (kN o) ((aF o.length).map λ(k:Nat)=>D.int (k:Int))),.v (.tup (zl near)),.v (.lst ((o.map g).map D.bl)),.v (.lst (dN parts)),.v (.dK (kN (kept.map λs=>parts.getD s 0)) ((cT 0 (kept.map λs=>parts.getD s 0).length).map λ(k:Nat)=>D.int (k:Int))),.v (.lst (dN kept)),J,O,.v (.tup (zl (kept.map λs=>(near.getD s []).map (Hop.vR (λs=>parts.getD s 0) kept))))]) rfl (kept:=kept) (bS ab (bS q (by decide))) (by simpa using kl)
 have ai:yB kept.length (λi=>(o.map g).getD (kept.getD i 0) false)=yB (kept.map λs=>(near.getD s []).map (Hop.vR (λs=>parts.getD s 0) kept)).length (λi=>g (o.getD (kept.getD i 0) 0)):=by
  rw[aN]
  exact Ws λi hi=>Hop.vk (kl _ (Hop.wj hi))
 refine zZ rfl ?_
 unfold zgN
 rw[ye,show(zY 3 (xFn YK (zc (za 1) zg))) (zC 13 [.int (A:Int),R,.lst ((aF rows.length).map λ(s:Nat)=>D.bl (g s))])=some (.nx [.v (.int (A:Int)),.v R,.v (.lst ((aF rows.length).map λ(s:Nat)=>D.bl (g s))),.v (.lst (dN o)),.un,.un,.un,.un,.un,.un,.un,.un,.un])from by
  simp[zC,h1],yc,ye]
 rw[show(Vx 4 (zc (xL (z0 (Xi (zc (za 3) zg)) [none,none] (xN 2 (z9 (zr 0) (z9 (zr 1) xY))) zI X3)) zg)) [.v (.int (A:Int)),.v R,.v (.lst ((aF rows.length).map λ(s:Nat)=>D.bl (g s))),.v (.lst (dN o)),.un,.un,.un,.un,.un,.un,.un,.un,.un]=some (.nx [.v (.int (A:Int)),.v R,.v (.lst ((aF rows.length).map λ(s:Nat)=>D.bl (g s))),.v (.lst (dN o)),.ok (prs 0 o),.un,.un,.un,.un,.un,.un,.un,.un])from by
  rw[zg1,yJ,uM,wQ,zj6]
  rw[show zgu ((zc (za 3) zg) [S.v (.int (A:Int)),.v R,.v (.lst ((aF rows.length).map λ(s:Nat)=>D.bl (g s))),.v (.lst (dN o)),.un,.un,.un,.un,.un,.un,.un,.un,.un])=some (ya (dN o))from rfl,c1,eL,zag,VE,zdR,V6,bH,if_pos (by rw[show(prs 0 o).length=o.length from by simp[prs]];exact bS q (by decide)),zfs b.nd]
  rfl,yc,zao]
 rw[show ZN 4 [S.v (.int (A:Int)),.v R,.v (.lst ((aF rows.length).map λ(s:Nat)=>D.bl (g s))),.v (.lst (dN o)),.ok (prs 0 o),.un,.un,.un,.un,.un,.un,.un,.un]=[.v (.int (A:Int)),.v R,.v (.lst ((aF rows.length).map λ(s:Nat)=>D.bl (g s))),.v (.lst (dN o)),.v (.dK (kN o) ((aF o.length).map λ(k:Nat)=>D.int (k:Int))),.un,.un,.un,.un,.un,.un,.un,.un]from by
  show lJ _ 4 (S.v (.dK ((prs 0 o).map cC) ((prs 0 o).map fO)))=_
  rw[Wf,zct,<-nh];rfl]
 rw[ye,show(zY 5 (xFn ua (zc (za 1) (zc (za 3) (zc (za 4) zg))))) [.v (.int (A:Int)),.v R,.v (.lst ((aF rows.length).map λ(s:Nat)=>D.bl (g s))),.v (.lst (dN o)),.v (.dK (kN o) ((aF o.length).map λ(k:Nat)=>D.int (k:Int))),.un,.un,.un,.un,.un,.un,.un,.un]=some (.nx [.v (.int (A:Int)),.v R,.v (.lst ((aF rows.length).map λ(s:Nat)=>D.bl (g s))),.v (.lst (dN o)),.v (.dK (kN o) ((aF o.length).map λ(k:Nat)=>D.int (k:Int))),.v (.tup (zl near)),.un,.un,.un,.un,.un,.un,.un])from by
  rw[v8]
  show UB 5 (fnO ua (some [R,.lst (dN o),.dK (kN o) ((aF o.length).map λ(k:Nat)=>D.int (k:Int))])) _=_
  rw[Zo,h2];rfl,yc]
 rw[ye,show(zY 6 (xL (z0 (yt (za 3)) [none,some 2] (zr 0) zI X4))) [.v (.int (A:Int)),.v R,.v (.lst ((aF rows.length).map λ(s:Nat)=>D.bl (g s))),.v (.lst (dN o)),.v (.dK (kN o) ((aF o.length).map λ(k:Nat)=>D.int (k:Int))),.v (.tup (zl near)),.un,.un,.un,.un,.un,.un,.un]=some (.nx [.v (.int (A:Int)),.v R,.v (.lst ((aF rows.length).map λ(s:Nat)=>D.bl (g s))),.v (.lst (dN o)),.v (.dK (kN o) ((aF o.length).map λ(k:Nat)=>D.int (k:Int))),.v (.tup (zl near)),.v (.lst ((o.map g).map D.bl)),.un,.un,.un,.un,.un,.un])from by
  rw[v8,uM,wQ]
  show UB 6 ((wG (some (dN o)) _ _ _ _ _).map _) _=_
  rw[c2];rfl,yc]
 rw[ye,show(zY 7 (xFn zgJ (zc (za 0) (zc (za 5) (zc (za 6) zg))))) [.v (.int (A:Int)),.v R,.v (.lst ((aF rows.length).map λ(s:Nat)=>D.bl (g s))),.v (.lst (dN o)),.v (.dK (kN o) ((aF o.length).map λ(k:Nat)=>D.int (k:Int))),.v (.tup (zl near)),.v (.lst ((o.map g).map D.bl)),.un,.un,.un,.un,.un,.un]=some (.nx [.v (.int (A:Int)),.v R,.v (.lst ((aF rows.length).map λ(s:Nat)=>D.bl (g s))),.v (.lst (dN o)),.v (.dK (kN o) ((aF o.length).map λ(k:Nat)=>D.int (k:Int))),.v (.tup (zl near)),.v (.lst ((o.map g).map D.bl)),.v (.lst (dN parts)),.un,.un,.un,.un,.un])from by
  rw[v8]
  show UB 7 (fnO Pt.Yf (some [.int (A:Int),.tup (zl near),.lst ((o.map g).map D.bl)])) _=_
  rw[Zo,hm];rfl,yc]
 rw[ye,show zcY 8 [S.v (.int (A:Int)),.v R,.v (.lst ((aF rows.length).map λ(s:Nat)=>D.bl (g s))),.v (.lst (dN o)),.v (.dK (kN o) ((aF o.length).map λ(k:Nat)=>D.int (k:Int))),.v (.tup (zl near)),.v (.lst ((o.map g).map D.bl)),.v (.lst (dN parts)),.un,.un,.un,.un,.un]=some (.nx [.v (.int (A:Int)),.v R,.v (.lst ((aF rows.length).map λ(s:Nat)=>D.bl (g s))),.v (.lst (dN o)),.v (.dK (kN o) ((aF o.length).map λ(k:Nat)=>D.int (k:Int))),.v (.tup (zl near)),.v (.lst ((o.map g).map D.bl)),.v (.lst (dN parts)),.ok [],.un,.un,.un,.un])from rfl,yc]
 rw[ye,show vb 9 (xJ zg) [S.v (.int (A:Int)),.v R,.v (.lst ((aF rows.length).map λ(s:Nat)=>D.bl (g s))),.v (.lst (dN o)),.v (.dK (kN o) ((aF o.length).map λ(k:Nat)=>D.int (k:Int))),.v (.tup (zl near)),.v (.lst ((o.map g).map D.bl)),.v (.lst (dN parts)),.ok [],.un,.un,.un,.un]=some (.nx [.v (.int (A:Int)),.v R,.v (.lst ((aF rows.length).map λ(s:Nat)=>D.bl (g s))),.v (.lst (dN o)),.v (.dK (kN o) ((aF o.length).map λ(k:Nat)=>D.int (k:Int))),.v (.tup (zl near)),.v (.lst ((o.map g).map D.bl)),.v (.lst (dN parts)),.ok [],.ol [],.un,.un,.un])from rfl,yc]
 rw[ye,Xq]
 rw[show(Xi (zc (za 7) zg)) [S.v (.int (A:Int)),.v R,.v (.lst ((aF rows.length).map λ(s:Nat)=>D.bl (g s))),.v (.lst (dN o)),.v (.dK (kN o) ((aF o.length).map λ(k:Nat)=>D.int (k:Int))),.v (.tup (zl near)),.v (.lst ((o.map g).map D.bl)),.v (.lst (dN parts)),.ok [],.ol [],.un,.un,.un]=some (ya (dN parts))from rfl,vV,Z,yc,zao,zao]
 rw[show ZN 9 (ZN 8 [S.v (.int (A:Int)),.v R,.v (.lst ((aF rows.length).map λ(s:Nat)=>D.bl (g s))),.v (.lst (dN o)),.v (.dK (kN o) ((aF o.length).map λ(k:Nat)=>D.int (k:Int))),.v (.tup (zl near)),.v (.lst ((o.map g).map D.bl)),.v (.lst (dN parts)),.ok (prs 0 (kept.map λs=>parts.getD s 0)),.ol (dN kept),J,O,.un])=[.v (.int (A:Int)),.v R,.v (.lst ((aF rows.length).map λ(s:Nat)=>D.bl (g s))),.v (.lst (dN o)),.v (.dK (kN o) ((aF o.length).map λ(k:Nat)=>D.int (k:Int))),.v (.tup (zl near)),.v (.lst ((o.map g).map D.bl)),.v (.lst (dN parts)),.v (.dK (kN (kept.map λs=>parts.getD s 0)) ((cT 0 (kept.map λs=>parts.getD s 0).length).map λ(k:Nat)=>D.int (k:Int))),.v (.lst (dN kept)),J,O,.un]from by
  show lJ (lJ _ 8 (S.v (.dK ((prs 0 (kept.map λs=>parts.getD s 0)).map cC) ((prs 0 (kept.map λs=>parts.getD s 0)).map fO)))) 9 _=_
  rw[Wf,zct];rfl]
 rw[ye,v8]
 rw[show(xFn ua (zc (za 5) (zc (za 9) (zc (xL (z0 (yt (za 7)) [none,some 8] (zr 0) zI Yk)) zg)))) [.v (.int (A:Int)),.v R,.v (.lst ((aF rows.length).map λ(s:Nat)=>D.bl (g s))),.v (.lst (dN o)),.v (.dK (kN o) ((aF o.length).map λ(k:Nat)=>D.int (k:Int))),.v (.tup (zl near)),.v (.lst ((o.map g).map D.bl)),.v (.lst (dN parts)),.v (.dK (kN (kept.map λs=>parts.getD s 0)) ((cT 0 (kept.map λs=>parts.getD s 0).length).map λ(k:Nat)=>D.int (k:Int))),.v (.lst (dN kept)),J,O,.un]=some (.d (.tup (zl (kept.map λs=>(near.getD s []).map (Hop.vR (λs=>parts.getD s 0) kept)))))from by
  rw[XW,yJ,yJ,yJ,uM,wQ]
  show fnO ua (dsO (vJ (some (.d (.tup (zl near)))) (vJ (some (.d (.lst (dN kept)))) (vJ ((wG (some (dN parts)) [none,some 8] (zr 0) zI Yk _).map _) _))))=_
  rw[c3]
  show fnO ua (some [.tup (zl near),.lst (dN kept),.lst (dN (parts.map λp=>(kept.map λs=>parts.getD s 0).idxOf p))])=_
  rw[Zo,ac];rfl]
 rw[QI,yc]
 rw[show lJ [S.v (.int (A:Int)),.v R,.v (.lst ((aF rows.length).map λ(s:Nat)=>D.bl (g s))),.v (.lst (dN o)),.v (.dK (kN o) ((aF o.length).map λ(k:Nat)=>D.int (k:Int))),.v (.tup (zl near)),.v (.lst ((o.map g).map D.bl)),.v (.lst (dN parts)),.v (.dK (kN (kept.map λs=>parts.getD s 0)) ((cT 0 (kept.map λs=>parts.getD s 0).length).map λ(k:Nat)=>D.int (k:Int))),.v (.lst (dN kept)),J,O,.un] 12 (S.v (.tup (zl (kept.map λs=>(near.getD s []).map (Hop.vR (λs=>parts.getD s 0) kept)))))=[.v (.int (A:Int)),.v R,.v (.lst ((aF rows.length).map λ(s:Nat)=>D.bl (g s))),.v (.lst (dN o)),.v (.dK (kN o) ((aF o.length).map λ(k:Nat)=>D.int (k:Int))),.v (.tup (zl near)),.v (.lst ((o.map g).map D.bl)),.v (.lst (dN parts)),.v (.dK (kN (kept.map λs=>parts.getD s 0)) ((cT 0 (kept.map λs=>parts.getD s 0).length).map λ(k:Nat)=>D.int (k:Int))),.v (.lst (dN kept)),J,O,.v (.tup (zl (kept.map λs=>(near.getD s []).map (Hop.vR (λs=>parts.getD s 0) kept))))]from rfl]
 rw[zaj,zah,yJ,yJ,yJ,Yg,yJ,uM,wQ]
 show zdf (zgp (dsO (vJ (some (.d (.int (A:Int)))) (vJ (some (.d (.tup (zl (kept.map λs=>(near.getD s []).map (Hop.vR (λs=>parts.getD s 0) kept)))))) (vJ (VF wv (vJ ((wG (some (ya (dN kept))) [none,none,some 6] (xN 2 (z9 (zr 0) (z9 (zr 1) xY))) Yl X5 _).map (λds=>B.d (.lst ds))) (some []))) (some []))))))=_
 rw[c4,ai]
 rfl
theorem U7(ok:Hop.OkR A rows)(j:A<=3)(z:rows.length<=50000):
  ∃rows' g',uO [.int (A:Int),.tup (zl rows),.lst ((aF rows.length).map λ(s:Nat)=>D.bl (g s))]=some (yY A rows' g')/\Hop.Lst A rows g rows' g':=by
 have b:=Hop.vF ok rfl
 have ol:=Hop.Zr b
 exact V8 ok j z rfl rfl (zfr ok.pos ok.lt ok.len (iE (qs z j) (by decide))) (XA b.lt (bS (bS ol z) (by decide)) (λs q=>by rw[ok.len s q];exact bS j (by decide)) λs q x R=>by
  have I:=b.lt s q
  obtain⟨a,J,e⟩:=cS.mp R
  obtain⟨k,O,U⟩:=cS.mp q
  have:=b.cl k a (by rw[<-ok.len s I];exact J) (.inl O)
  rw[Hop.xW O,U]at this
  rw[show Hop.dl rows a s=x from by show(rows.getD s []).getD a 0=x;rw[Hop.xW J];exact e]at this
  exact Q0 this)
end
theorem zbc{i lo hi:Int}:uN [.int i,.int lo,.int hi]=some (.bl (decide (lo<=i/\i<=hi))):=by
 refine zZ rfl ?_
 simp[zdq,zC]
 rw[VH (k:=hi) (by simp)]
 simp
theorem zly{ds:List D}{lo hi:Int}:vu [.tup ds,.int lo,.int hi]=some (.bl (decide (lo<=ds.length/\ds.length<=hi))):=by
 refine zZ rfl ?_
 simp[Jn,zC]
 rw[VH (k:=hi) (by simp)]
 simp
theorem XC{α:Type}{xs:List α}:(v4 (xs.map λ_=>D.bl true)).map (λbs=>D.bl (bs.all id))=some (.bl true):=uV _ λx j=>by
 obtain⟨_,_,rfl⟩:=bA.mp j;rfl
theorem zbd{l:List Nat}{n:Nat}(J:0<n)(h:∀s∈l,s<n)(q:l.length<=16777216):zaO [.tup (dN l),.int (n:Int)]=some (.bl true):=by
 have z:=yC (λ(_:Nat)=>D.bl true) (t:=zr 0) (cond:=zI) (el:=US) (Γ:=[.v (.tup (dN l)),.v (.int (n:Int))]) (ms:=[none,some 1]) (ds:=dN l) l (by simp) (by simpa using q) λk I=>by
  have j:k<l.length:=by simpa using I
  refine⟨[.v (.int (l[k]:Nat)),.v (.int (n:Int))],by simp[yT],rfl,?_⟩
  have:=h _ (bY j)
  simp[US,zbc]
  omega
 refine zZ rfl ?_
 simp[zgO,zC,z,XC]
theorem zha(h:l.Pairwise (· < ·))(O:l.length<=100000):zdA [.tup (dN l)]=some (.bl true):=by
 have j:r1I ((l.length:Int)-1)=some (yS 0 (l.length-1)):=by
  by_cases q:l.length=0
  ·rw[q];rfl
  ·rw[show((l.length:Int)-1)=((l.length-1:Nat):Int) by omega]
   exact wR (by omega)
 have z:=yC (λ(_:Nat)=>D.bl true) (t:=zr 0) (cond:=zI) (el:=UT) (Γ:=[.v (.tup (dN l))]) (ms:=[none,some 0]) (ds:=yS 0 (l.length-1)) (aF (l.length-1)) (by simp) (by simp;omega) λk I=>by
  have J:k<l.length-1:=by simpa using I
  refine⟨[.v (.int (k:Int)),.v (.tup (dN l))],by simp[yT],rfl,?_⟩
  have:=p9.mp h k (k+1) (by omega) (by omega) (by omega)
  simp[UT,xI,WL,show k<l.length by omega,show k+1<l.length by omega]
  omega
 refine zZ rfl ?_
 simp[zgP,zC,j,z,XC]
section
variable {A:Nat} {rows:List (List Nat)} {g:Nat->Bool}
theorem zkl(ok:Hop.OkR A rows)(q:r∈rows):r.length=A/\∀s∈r,s<rows.length:=by
 obtain⟨s,j,e⟩:=cS.mp q
 have es:rows.getD s []=r:=by rw[aX,bK j];exact e
 refine⟨by rw[<-es];exact ok.len s j,λx z=>?_⟩
 obtain⟨a,I,ex⟩:=cS.mp z
 have J:=ok.len s j
 rw[es]at J
 have:=ok.lt a s (by omega) j
 rw[show Hop.dl rows a s=x from by show(rows.getD s []).getD a 0=x;rw[es,Hop.xW I];exact ex]at this
 exact this
theorem zbC(ok:Hop.OkR A rows)(O:1<=A)(R:A<=3)(hz:rows.length<=2000):zdB [yY A rows g]=some (.bl true):=by
 have j:=ok.pos
 have J:=yC (λ(_:List Nat)=>D.bl true) (t:=zr 0) (cond:=zI) (el:=UU) (Γ:=[.v (yY A rows g),.v (.tup (zl rows))]) (ms:=[none,some 1,some 0]) (ds:=zl rows) rows (by simp) (by simp;omega) λk U=>by
  have z:k<rows.length:=by simpa using U
  obtain⟨Y,Z⟩:=zkl ok (bY z)
  refine⟨[.v (.tup (dN rows[k])),.v (.tup (zl rows)),.v (yY A rows g)],by simp[yT],rfl,?_⟩
  have q:=zbd (l:=rows[k]) j Z (by omega)
  simp[UU,q,yY,Y]
 have q:=zbd (l:=yB rows.length g) j (λs hs=>(ZF.mp hs).1) (by have:=QS (n:=rows.length) (g:=g);omega)
 have I:=zha (l:=yB rows.length g) zg2 (by have:=QS (n:=rows.length) (g:=g);omega)
 refine zZ rfl ?_
 simp only[yY]at J
 have i1:(1:Int)<=A:=by omega
 have i2:(A:Int)<=3:=by omega
 have i3:(1:Int)<=rows.length:=by omega
 have i4:(rows.length:Int)<=2000:=by omega
 simp[zgQ,zC,zly,zbc,yY,J,XC,q,I,i1,i2,i3,i4]
theorem XD(ok:Hop.OkR A rows)(j:1<=A)(q:A<=3)(z:rows.length<=2000):WT [yY A rows g]=some (yY A rows g):=by
 refine zZ rfl ?_
 simp[zgR,zC,zbC ok j q z]
end
section
variable {A:Nat} {rows:List (List Nat)} {g:Nat->Bool}
theorem U8(hz:rows.length<=100000):YL [yY A rows g]=some (.lst ((aF rows.length).map λ(s:Nat)=>D.bl (g s))):=by
 have Z:=yC (λ(_:List Nat)=>D.bl false) (t:=zr 0) (cond:=zI) (el:=zaP) (Γ:=[.v (yY A rows g),.un,.un]) (ms:=[none]) (ds:=zl rows) rows (by simp) (by simp;omega) λk J=>⟨[.v (zl rows)[k]],by simp[yT],rfl,rfl⟩
 have R:∀s∈yB rows.length g,s<rows.length:=λs q=>(ZF.mp q).1
 obtain⟨g1,h1,U,O⟩:=wE (t:=zr 2) (fb:=zaQ) (dN (yB rows.length g))
  (λk Γ=>∃U,Γ=[.v (yY A rows g),.ol ((aF rows.length).map λ(s:Nat)=>D.bl (decide (s∈(yB rows.length g).take k))),U])
  [.v (yY A rows g),.ol (rows.map λ_=>D.bl false),.un] ⟨.un,by simp[pQ]⟩ λk Γ h j=>by
   obtain⟨U,e⟩:=j
   subst e
   have J:k<(yB rows.length g).length:=by simpa using h
   have q:=R _ (bY J)
   have hx:ixN ((aF rows.length).map λ(s:Nat)=>D.bl (decide (s∈(yB rows.length g).take k))).length (((yB rows.length g)[k]:Nat):Int)=some (yB rows.length g)[k]:=by
    unfold ixN
    rw[if_pos (by omega),if_pos (by simp;exact q)]
    simp
   refine⟨[.v (yY A rows g),.ol ((aF rows.length).map λ(s:Nat)=>D.bl (decide (s∈(yB rows.length g).take k))),.v (.int ((yB rows.length g)[k]:Nat))],[.v (yY A rows g),.ol (((aF rows.length).map λ(s:Nat)=>D.bl (decide (s∈(yB rows.length g).take k))).set (yB rows.length g)[k] (.bl true)),.v (.int ((yB rows.length g)[k]:Nat))],?_,?_,.v (.int ((yB rows.length g)[k]:Nat)),?_⟩
   ·simp
   ·exact zkj rfl rfl rfl hx
   ·have e:((aF rows.length).map λ(s:Nat)=>D.bl (decide (s∈(yB rows.length g).take k))).set (yB rows.length g)[k] (.bl true)=(aF rows.length).map λ(s:Nat)=>D.bl (decide (s∈(yB rows.length g).take (k+1))):=by
     refine jV (by simp) λi a b=>?_
     rw[List.getElem_set]
     by_cases e:(yB rows.length g)[k]=i
     ·rw[if_pos e]
      subst e
      have hm:(yB rows.length g)[k]∈(yB rows.length g).take (k+1):=by
       rw[iG J];exact dH _ (bW.mpr rfl)
      simp[hm]
     ·rw[if_neg e]
      simp only[eG,lG,iG J,bX,bW]
      simp[show ¬i=(yB rows.length g)[k]from λz=>e z.symm]
    rw[e]
 rw[show(dN (yB rows.length g)).length=(yB rows.length g).length from by simp,fG]at O
 refine zZ rfl ?_
 simp only[yY]at Z h1 O
 have e:((aF rows.length).map λ(s:Nat)=>D.bl (decide (s∈yB rows.length g)))=(aF rows.length).map λ(s:Nat)=>D.bl (g s):=by
  refine dC λs q=>?_
  have Y:=bR.mp q
  congr 1
  cases I:g s with
  | true=>simp[ZF,Y,I]
  | false=>simp[ZF,I]
 rw[e]at O
 simp[zdC,zC,yY,Z,h1,O,ZN]
theorem zcu(ok:Hop.OkR A rows)(q:1<=A)(j:A<=3)(z:rows.length<=2000):∃rows' g',VX [yY A rows g]=some (yY A rows' g')/\Hop.Lst A rows g rows' g':=by
 obtain⟨rows',g',h,L⟩:=U7 (g:=g) ok j (by omega)
 refine⟨rows',g',zZ rfl ?_,L⟩
 have h1:=XD (g:=g) ok q j z
 have h2:=U8 (A:=A) (rows:=rows) (g:=g) (by omega)
 simp only[yY]at h1 h2
 simp[zdD,zC,yY,h1,h2]
 rw[h]
 simp[yY]
end
theorem zbD{rows:List (List Nat)}{a4 a5:S}{o:List Nat}{i:Nat}(hi:i<o.length)(hs:o.getD i 0<rows.length)(hz:o.length+(rows.getD (o.getD i 0) []).length<16777216):
  ∃y4 y5,vw [.v (.lst (zl rows)),.ol (dN o),.ok (dKs o),.v (.int (i:Int)),a4,a5]=some (.nx [.v (.lst (zl rows)),.ol (dN (Hop.wc rows o i)),.ok (dKs (Hop.wc rows o i)),.v (.int ((i+1:Nat):Int)),y4,y5]):=by
 obtain⟨y5,h⟩:=ZT (a0:=.v (.lst (zl rows))) (a3:=.v (.int (i:Int))) (a4:=.v (.tup (dN (rows.getD (o.getD i 0) [])))) (rows.getD (o.getD i 0) []) o a5 hz
 refine⟨.v (.tup (dN (rows.getD (o.getD i 0) []))),y5,?_⟩
 have e1:=zba hi
 have e2:=ZG hs
 unfold vw
 have hrow:(x2 mIx (za 0) (x2 mIx (za 1) (za 3))) [.v (.lst (zl rows)),.ol (dN o),.ok (dKs o),.v (.int (i:Int)),a4,a5]=some (.d (.tup (dN (rows.getD (o.getD i 0) [])))):=by
  simp only[x2,za]
  show((some (B.d (D.lst (zl rows)))).bind λx=>((some (B.l (dN o))).bind λx=>(some (B.d (D.int (i:Int)))).bind λy=>(mIx x y).map B.d).bind λy=>(mIx x y).map B.d)=_
  simp only[bH]
  rw[show mIx (B.l (dN o)) (B.d (D.int (i:Int)))=atI (dN o) (i:Int)from rfl,e1]
  simp only[eL,bH]
  rw[show mIx (B.d (D.lst (zl rows))) (B.d (D.int ((o.getD i 0:Nat):Int)))=atI (zl rows) ((o.getD i 0:Nat):Int)from rfl,e2]
  rfl
 rw[ye,v8,hrow]
 show(zu (wX (yt (za 4)) (zr 5) wS) (zc3 3 (xC (.int 1)))) [S.v (.lst (zl rows)),.ol (dN o),.ok (dKs o),.v (.int (i:Int)),.v (.tup (dN (rows.getD (o.getD i 0) []))),a5]=_
 rw[ye,show wX (yt (za 4)) (zr 5) wS [S.v (.lst (zl rows)),.ol (dN o),.ok (dKs o),.v (.int (i:Int)),.v (.tup (dN (rows.getD (o.getD i 0) []))),a5]=wI (zr 5) wS (dN (rows.getD (o.getD i 0) [])) [S.v (.lst (zl rows)),.ol (dN o),.ok (dKs o),.v (.int (i:Int)),.v (.tup (dN (rows.getD (o.getD i 0) []))),a5]from rfl,h]
 rfl
theorem Yn(j:∀a s,a<A->s<rows.length->(rows.getD s []).getD a 0<rows.length)(z:∀s,s<rows.length->(rows.getD s []).length=A)(O:rows.length+A<16777216):
  ∀(f F i:Nat) (o:List Nat) (a4 a5:S),Hop.BI rows.length A (λa s=>(rows.getD s []).getD a 0) i 0 o->rows.length<=f+i->f<F->∃R I y5,xP ut vw F [.v (.lst (zl rows)),.ol (dN o),.ok (dKs o),.v (.int (i:Int)),a4,a5]=some (.nx [.v (.lst (zl rows)),.ol (dN (Hop.bfs rows f i o)),.ok (dKs (Hop.bfs rows f i o)),R,I,y5])
 | f,0,i,o,a4,a5,b,U,Y=>by omega
 | f,F+1,i,o,a4,a5,b,U,Y=>by
  have J:o.length<=rows.length:=by
   have:=Hop.yH (m:=aF rows.length) b.nd λs q=>bR.mpr (b.lt s q)
   rwa [cY]at this
  unfold xP
  rw[V5]
  by_cases hi:i<o.length
  ·have q:=b.lt _ (Hop.wj hi)
   cases f with
   | zero=>omega
   | succ f=>
    obtain⟨I,y5,h⟩:=zbD (a4:=a4) (a5:=a5) hi q (by rw[z _ q];omega)
    obtain⟨Z,q2⟩:=Hop.Xv j (rows.getD (o.getD i 0) []) 0 o (by rw[z _ q];omega) hi (λc _=>by rw[dQ]) b
    obtain⟨z3,z4,z5,hh⟩:=Yn j z O f F (i+1) (Hop.wc rows o i) I y5 (Hop.XX (show i<((rows.getD (o.getD i 0) []).foldl Hop.zW o).length by omega) Z) (by omega) (by omega)
    refine⟨z3,z4,z5,?_⟩
    rw[decide_eq_true hi]
    simp only[bH,h]
    unfold Hop.bfs
    rw[if_pos hi]
    exact hh
  ·refine⟨.v (.int (i:Int)),a4,a5,?_⟩
   rw[decide_eq_false hi]
   have e:Hop.bfs rows f i o=o:=by
    cases f with
    | zero=>rfl
    | succ f=>unfold Hop.bfs;rw[if_neg hi]
   rw[e]
   rfl
theorem zdX{A:Nat}{rows:List (List Nat)}(hn:0<rows.length)(hlt:∀a s,a<A->s<rows.length->(rows.getD s []).getD a 0<rows.length)(hA:∀s,s<rows.length->(rows.getD s []).length=A)(hz:rows.length+A<100000):
  YK [.lst (zl rows)]=some (.lst (dN (Hop.bfs rows rows.length 0 [0]))):=by
 obtain⟨y3,y4,y5,h⟩:=Yn hlt hA (by omega) rows.length WF 0 [0] .un .un (Hop.Zq hn) (by omega) (by unfold WF;omega)
 have e:UQ [.v (.lst (zl rows)),.un,.un,.un,.un,.un]=some (.rt (.lst (dN (Hop.bfs rows rows.length 0 [0])))):=by
  unfold UQ
  show(zu (xP ut vw WF) (uH 1 (zS (za 1)))) [.v (.lst (zl rows)),.ol (dN [0]),.ok (dKs [0]),.v (.int ((0:Nat):Int)),.un,.un]=_
  rw[ye,h]
  rfl
 unfold YK mir
 rw[if_pos (show [D.lst (zl rows)].length=1 from rfl),show zC 6 [D.lst (zl rows)]=[.v (.lst (zl rows)),.un,.un,.un,.un,.un]from rfl,e]
theorem Jb{rows:List (List Nat)}{kept:List Nat}{numbers:D}{nm:Nat->Nat}(O:∀s∈kept,s<rows.length)(R:kept.length<=16777216)(U:∀s,s<rows.length->(rows.getD s []).length<=16777216) 
  (Y:∀s∈kept,∀g∈rows.getD s [],YA (.d numbers) (.d (.int (g:Int)))=some (.int (nm g:Nat))) :
  ua [.lst (zl rows),.lst (dN kept),numbers]=some (.tup (zl (kept.map λs=>(rows.getD s []).map nm))):=by
 have j:∀s∈kept,xX [.v (.int (s:Int)),.v (.lst (zl rows)),.v numbers]=some (.d (.tup (dN ((rows.getD s []).map nm)))):=λs J=>by
  have Z:=yC (λ(x:Nat)=>D.int (x:Int)) (t:=zr 0) (cond:=zI) (el:=wT) (Γ:=[.v (.int (s:Int)),.v (.lst (zl rows)),.v numbers]) (ms:=[none,some 2]) (ds:=dN (rows.getD s [])) ((rows.getD s []).map nm) (by simp) (by rw[aN];exact U s (O s J)) λk h=>by
   rw[aN]at h
   refine⟨[.v (.int ((rows.getD s [])[k]:Nat)),.v numbers],?_,rfl,?_⟩
   ·show some _=some _
    simp[yT]
   ·show x2 YA (za 1) (za 0) _=_
    have:=Y s J _ (bY h)
    simp only[x2,za]
    show((some (B.d numbers)).bind λx=>(some (B.d (D.int ((rows.getD s [])[k]:Nat)))).bind λy=>(YA x y).map B.d)=_
    simp only[bH,this,eL,eG]
  have z:(x2 mIx (za 1) (za 0)) [.v (.int (s:Int)),.v (.lst (zl rows)),.v numbers]=some (.d (.tup (dN (rows.getD s [])))):=by
   simp only[x2,za]
   show((some (B.d (D.lst (zl rows)))).bind λx=>(some (B.d (D.int (s:Int)))).bind λy=>(mIx x y).map B.d)=_
   simp only[bH]
   rw[show mIx (B.d (D.lst (zl rows))) (B.d (D.int (s:Int)))=atI (zl rows) (s:Int)from rfl,ZG (O s J)]
   rfl
  have I:yt (x2 mIx (za 1) (za 0)) [.v (.int (s:Int)),.v (.lst (zl rows)),.v numbers]=some (dN (rows.getD s [])):=by
   unfold yt
   rw[z];rfl
  have q:z0 (yt (x2 mIx (za 1) (za 0))) [none,some 2] (zr 0) zI wT [.v (.int (s:Int)),.v (.lst (zl rows)),.v numbers]=some (dN ((rows.getD s []).map nm)):=by
   rw[wQ,I,Z]
  unfold xX
  show((zc (xL (z0 (yt (x2 mIx (za 1) (za 0))) [none,some 2] (zr 0) zI wT)) zg _).bind λbs=>(wv bs).map B.d)=_
  rw[show zc (xL (z0 (yt (x2 mIx (za 1) (za 0))) [none,some 2] (zr 0) zI wT)) zg [.v (.int (s:Int)),.v (.lst (zl rows)),.v numbers]=some [.d (.lst (dN ((rows.getD s []).map nm)))]from by
   show((xL (z0 (yt (x2 mIx (za 1) (za 0))) [none,some 2] (zr 0) zI wT) _).bind λb=>(some []).map λr=>b::r)=_
   rw[uM,q];rfl]
  rfl
 have outer:=yC (λ(r:List Nat)=>D.tup (dN r)) (t:=zr 0) (cond:=zI) (el:=xX) (Γ:=[.v (.lst (zl rows)),.v (.lst (dN kept)),.v numbers]) (ms:=[none,some 0,some 2]) (ds:=dN kept) (kept.map λs=>(rows.getD s []).map nm) (by simp) (by rw[aN];exact R) λk h=>by
  rw[aN]at h
  refine⟨[.v (.int (kept[k]:Nat)),.v (.lst (zl rows)),.v numbers],?_,rfl,?_⟩
  ·show some _=some _
   simp[yT]
  ·rw[j _ (bY h),eG]
 have q:z0 (yt (za 1)) [none,some 0,some 2] (zr 0) zI xX [.v (.lst (zl rows)),.v (.lst (dN kept)),.v numbers]=some (zl (kept.map λs=>(rows.getD s []).map nm)):=by
  rw[wQ,show yt (za 1) [.v (.lst (zl rows)),.v (.lst (dN kept)),.v numbers]=some (dN kept)from rfl,outer]
 have e:UR [.v (.lst (zl rows)),.v (.lst (dN kept)),.v numbers]=some (.rt (.tup (zl (kept.map λs=>(rows.getD s []).map nm)))):=by
  unfold UR
  show(((zc (xL (z0 (yt (za 1)) [none,some 0,some 2] (zr 0) zI xX)) zg _).bind λbs=>(wv bs).map B.d).bind λb=>b.asD.map Out.rt)=_
  rw[show zc (xL (z0 (yt (za 1)) [none,some 0,some 2] (zr 0) zI xX)) zg [.v (.lst (zl rows)),.v (.lst (dN kept)),.v numbers]=some [.d (.lst (zl (kept.map λs=>(rows.getD s []).map nm)))]from by
   show((xL (z0 (yt (za 1)) [none,some 0,some 2] (zr 0) zI xX) _).bind λb=>(some []).map λr=>b::r)=_
   rw[uM,q];rfl]
  rfl
 unfold ua mir
 rw[if_pos (show [D.lst (zl rows),.lst (dN kept),numbers].length=3 from rfl),show zC 3 [D.lst (zl rows),.lst (dN kept),numbers]=[.v (.lst (zl rows)),.v (.lst (dN kept)),.v numbers]from rfl,e]
theorem ZH{A:Nat}{rows:List (List Nat)}{g:Nat->Bool}(ok:Hop.OkR A rows)(q:A<=3)(O:rows.length<=50000):
  ∃rows' g',uO [.int (A:Int),.lst (zl rows),.lst ((aF rows.length).map λ(s:Nat)=>D.bl (g s))]=some (yY A rows' g')/\Hop.Lst A rows g rows' g':=by
 have b:=Hop.vF ok rfl
 have ol:=Hop.Zr b
 exact V8 ok q O rfl rfl (zdX ok.pos ok.lt ok.len (by omega)) (Jb b.lt (by omega) (λs j=>by rw[ok.len s j];omega) λs j x R=>by
  have z:=b.lt s j
  obtain⟨a,I,e⟩:=cS.mp R
  obtain⟨k,J,U⟩:=cS.mp j
  have:=b.cl k a (by rw[<-ok.len s z];exact I) (.inl J)
  rw[Hop.xW J,U]at this
  rw[show Hop.dl rows a s=x from by show(rows.getD s []).getD a 0=x;rw[Hop.xW I];exact e]at this
  exact Q0 this)
end Py
namespace Py
open PySem L2 DD Pu
open Hop (yp yE Canon dl OkR Lst)
section
variable {L:Nat} {rooms:List (List (Mv aC))}
theorem zfu(h:OkM L rooms)(O:∀x∈w,x<L):VW [zn L rooms,yv rooms w]=some (.str (zU L rooms w)):=by
 have hf:=uX (zB rooms) yd w L
 have j:=za7 h O
 have hs:=Ym h O (c:=(0,0)) h.r1
 have R:=YS h (c:=L+1) (by omega)
 have q:yv rooms w=.tup (yz (zR rooms w (0,0))::((aF rooms.length).map λr=>zR rooms w (r,w.length)).map yz):=by simp[yv,yN]
 refine zZ rfl ?_
 unfold zR at j
 cases z:zR rooms w (0,0)with
 | fin s=>
  have I:=z
  unfold zR at I
  rw[hf,I]at j
  injection j with j
  rw[q,z,<-j]
  simp[Js,zC,yz]
 | out b=>
  rw[z]at hs
  have I:=z
  unfold zR at I
  rw[hf,I]at j
  have U:=zhX h O (aP L) hs
  unfold zR at U
  simp only at j
  rw[j]at U
  have J:v9 [zn L rooms,.int ((L:Int)+1)]=some (.lst ((x4 rooms (L+1)).map zp)):=by
   rw[<-R];rfl
  have e0:(x2 mIx (za 1) (xC (.int 0))) [.v (zn L rooms),.v (yv rooms w)]=some (.d (.int (b:Int))):=by
   rw[q,z];simp[yz]
  have e1:(x2 yi (x2 mIx (za 0) (xC (.int 0))) (xC (.int 1))) [.v (zn L rooms),.v (yv rooms w)]=some (.d (.int ((L:Int)+1))):=by
   simp
  have Y:(sIf (xT (zG vc (zc (x2 mIx (za 1) (xC (.int 0))) (zc (xTy .str) zg)))) (zS (x2 mIx (za 1) (xC (.int 0)))) yr) [.v (zn L rooms),.v (yv rooms w)]=some (.nx [.v (zn L rooms),.v (yv rooms w)]):=by
   rw[zlq,zjY,Yg,yJ,e0];simp
  have eR:(xFn WS (zc (x2 mIx (za 1) (xC (.int 0))) (zc (xFn v9 (zc (za 0) (zc (x2 yi (x2 mIx (za 0) (xC (.int 0))) (xC (.int 1))) zg))) (zc (za 1) zg)))) [.v (zn L rooms),.v (yv rooms w)]=some (.d (.str (zU L rooms w))):=by
   simp only[XW,yJ,e0,e1,zag]
   rw[show(za 0 [S.v (zn L rooms),.v (yv rooms w)])=some (.d (zn L rooms))from rfl,show(za 1 [S.v (zn L rooms),.v (yv rooms w)])=some (.d (yv rooms w))from rfl]
   simp only[VE,zgq,zj0,ziI,eL,Zo,J,U,zdO]
  have Z:zC 2 [zn L rooms,yv rooms w]=[.v (zn L rooms),.v (yv rooms w)]:=rfl
  rw[Z]
  unfold Js
  rw[ye,Y,yc,zaj,eR,zeZ]
theorem U9:bL (toP (.str a)) (toP (.str b))=(a==b):=by simp[toP,bL]
theorem Q3(h:OkM L rooms)(j:eD f=true)(q:eD (zU L rooms w)=true):mEq false (.d (.str (zU L rooms w))) (.d (.str f))=some (.bl (zU L rooms w==f)):=by
 rw[VI (n:=1) (OkD.str q) (OkD.str j),U9];rfl
theorem ZU(h:OkM L rooms)(hN:N<=50000)(q:∀ws k a,Bfs (zT rooms) L ws k a->ws.length<=N)(hf:f=yk\/f=xf\/f=yd)(R:∀w,(∀x∈w,x<L)->w.length<=N->eD (zU L rooms w)=true):
  ∃rows g,YM [zn L rooms,.str f]=some (yY L rows g)/\Tells L (λw=>zU L rooms w==f) rows g/\rows.length<=N:=by
 obtain⟨ws,hx,B⟩:=zdS h (by omega) q
 have ab:=q _ _ _ B
 have ok:=zg3 B
 have z:eD f=true:=by
  rcases hf with rfl|rfl|rfl
  ·exact u7
  ·exact Wc
  ·exact Xx
 have I:∀u v a,a<L->(∀x∈u,x<L)->(∀x∈v,x<L)->zT rooms u=zT rooms v->zT rooms (u++[a])=zT rooms (v++[a]):=λu v a ha O hv e=>by
  have:=zfl h O ha (za5 e)
  unfold zT;rw[this]
 obtain⟨rows,g,hl,Ls⟩:=ZH (g:=λi=>zU L rooms (ws.getD i [])==f) ok h.l3 (by rw[vW];omega)
 have tl:=za9 (P:=λw=>zU L rooms w==f) Ls λw hw=>by
  obtain⟨u,O,e⟩:=V4 B I w.length w rfl hw
  show(zU L rooms (ws.getD _ [])==f)=_
  rw[aX,O,eX,zfm h (B.good u (cE O)) hw (za5 e)]
 refine⟨rows,g,zZ rfl ?_,tl,by have:=Ls.le;rw[vW]at this;omega⟩
 have hc:wG (some (ws.map (vz rooms))) [none,some 0,some 1] (zr 0) zI X6 [.v (zn L rooms),.v (.str f),.v (.tup [.lst (ws.map (vz rooms)),.lst ((wd (zT rooms) L ws).map λr=>D.tup (dI r))]),.un]=some ((aF (wd (zT rooms) L ws).length).map λ(s:Nat)=>D.bl (zU L rooms (ws.getD s [])==f)):=by
  refine yC (λ(s:Nat)=>D.bl (zU L rooms (ws.getD s [])==f)) (aF (wd (zT rooms) L ws).length) (by simp[vW]) (by simp;omega) λk hk=>?_
  have j:k<ws.length:=by simpa using hk
  have hg:=B.good _ (bY j)
  have ac:=zcm B k k ws[k] (aP _) (bK j)
  have U:=zfu h hg
  have Y:=Q3 (L:=L) (rooms:=rooms) (w:=ws[k]) h z (R _ hg (by omega))
  refine⟨[.v (vz rooms ws[k]),.v (zn L rooms),.v (.str f)],by simp[yT],rfl,?_⟩
  have J:ws.getD k []=ws[k]:=by rw[aX,bK j];rfl
  rw[lG,J]
  have e1:(x2 mIx (za 0) (xC (.int 1))) [.v (vz rooms ws[k]),.v (zn L rooms),.v (.str f)]=some (.d (yv rooms ws[k])):=by simp[vz]
  unfold X6
  rw[vQ,XW,yJ,yJ,e1]
  show ap2 (mEq false) ((VW [zn L rooms,yv rooms ws[k]]).map DD.B.d) (some (.d (.str f)))=_
  rw[U]
  show ap2 (mEq false) (some (.d (.str (zU L rooms ws[k])))) (some (.d (.str f)))=_
  rw[vP,Y];rfl
 have Z:mIn true (.d (.str f)) (.c [.str "yes",.str "no",.str "round"])=some (.bl false):=by
  rw[zdi (n:=1) (OkD.str z) rfl (by
   intro d hd
   simp only[aU,gY,or_false]at hd
   rcases hd with rfl|rfl|rfl
   ·exact OkD.str u7
   ·exact OkD.str Wc
   ·exact OkD.str Xx)]
  have e:([D.str "yes",.str "no",.str "round"].any λd=>bL (toP d) (toP (.str f)))=true:=by
   simp only[fQ,List.any_nil,U9]
   rcases hf with rfl|rfl|rfl <;>decide
  simp only[e]
  rfl
 have aa:=Xy h
 unfold zgS
 show zu _ _ [.v (zn L rooms),.v (.str f),.un,.un]=_
 rw[ye]
 rw[show(Zy (xFn ZE (zc (za 0) zg))) [.v (zn L rooms),.v (.str f),.un,.un]=some (.nx [.v (zn L rooms),.v (.str f),.un,.un])from by simp[aa],yc,ye]
 rw[show(sIf (xOr (va (xT (zG vc (zc (za 1) (zc (xTy .str) zg))))) (xT (x2 (mIn true) (za 1) (xG [(.str "yes"),(.str "no"),(.str "round")])))) sNo yr) [.v (zn L rooms),.v (.str f),.un,.un]=some (.nx [.v (zn L rooms),.v (.str f),.un,.un])from by simp[Z],yc,ye]
 rw[show(zY 2 (xFn zaN (zc (za 0) zg))) [.v (zn L rooms),.v (.str f),.un,.un]=some (.nx [.v (zn L rooms),.v (.str f),.v (.tup [.lst (ws.map (vz rooms)),.lst ((wd (zT rooms) L ws).map λr=>D.tup (dI r))]),.un])from by simp[hx],yc,ye]
 rw[show(zY 3 (xL (z0 (yt (x2 mIx (za 2) (xC (.int 0)))) [none,some 0,some 1] (zr 0) zI X6))) [.v (zn L rooms),.v (.str f),.v (.tup [.lst (ws.map (vz rooms)),.lst ((wd (zT rooms) L ws).map λr=>D.tup (dI r))]),.un]=some (.nx [.v (zn L rooms),.v (.str f),.v (.tup [.lst (ws.map (vz rooms)),.lst ((wd (zT rooms) L ws).map λr=>D.tup (dI r))]),.v (.lst ((aF (wd (zT rooms) L ws).length).map λ(s:Nat)=>D.bl (zU L rooms (ws.getD s [])==f)))])from by
  rw[v8,uM,wQ]
  show UB 3 ((wG (some (ws.map (vz rooms))) _ _ _ _ _).map _) _=_
  rw[hc];rfl,yc]
 rw[zaj,XW]
 show zdf (fnO uO (some [.int (L:Int),.lst ((wd (zT rooms) L ws).map λr=>D.tup (dI r)),.lst ((aF (wd (zT rooms) L ws).length).map λ(s:Nat)=>D.bl (zU L rooms (ws.getD s [])==f))]))=_
 rw[Zo,hl]
 rfl
end
end Py
namespace Py
open PySem L2 DD Pu
structure OkWs (L k:Nat) (us:List (List Nat)):Prop where
 good:∀u∈us,∀x∈u,x<L
 len:∀u∈us,u.length<=k
theorem zfv{L k:Nat}{s4:S}{made:D}{lastD:D}{longer:List (List Nat)}{v:List Nat}(J:L<=3)(O:v.length<=k)(R:k<10)(U:longer.length<1000):
  X9 [.v (.int L),.v (.int 4),.v made,.v lastD,s4,.ol (longer.map yf),.v (yf v)]=some (.nx [.v (.int L),.v (.int 4),.v made,.v lastD,s4,.ol ((longer++(aF L).map λa=>v++[a]).map yf),.v (yf v)]):=by
 have h1:=yC yf (t:=zr 0) (cond:=zI) (el:=U1) (Γ:=[.v (.int L),.v (.int 4),.v made,.v lastD,s4,.ol (longer.map yf),.v (yf v)]) (ms:=[none,some 6]) (ds:=yS 0 L) ((aF L).map λa=>v++[a]) (by simp) (by simp;omega) (by
  intro j Y
  refine⟨_,rfl,rfl,?_⟩
  simp[yT,U1,QY (show v.length<10000000 by omega)])
 have z:longer.length+L<=16777216:=by omega
 simp only[cL]
 generalize I:(kA (λa=>v++[a]) (aF L)).map yf=zs at h1
 have q:zs.length=L:=by rw[<-I];simp
 simp[X9,wJ,wR (show L<1000000 by omega),h1,q,z]
theorem zdY{L k:Nat}{s4 s5 s6:S}{us vs:List (List Nat)}(hL:L<=3)(hk:k<10)(z:us.length<1000)(hv:vs.length<=100)(O:OkWs L k vs):
  ∃q t5 U,Wa [.v (.int L),.v (.int 4),.v (.lst (us.map yf)),.v (.lst (vs.map yf)),s4,s5,s6]=some (.nx [.v (.int L),.v (.int 4),.v (.lst ((us++q).map yf)),.v (.lst (q.map yf)),s4,t5,U])/\OkWs L (k+1) q/\q.length<=vs.length*3:=by
 obtain⟨g,h1,q,U,hg,I,J⟩:=wE (t:=zr 6) (fb:=X9) (vs.map yf)
  (λj Γ=>∃q U,Γ=[.v (.int L),.v (.int 4),.v (.lst (us.map yf)),.v (.lst (vs.map yf)),s4,.ol (q.map yf),U]/\OkWs L (k+1) q/\q.length<=j*3)
  [.v (.int L),.v (.int 4),.v (.lst (us.map yf)),.v (.lst (vs.map yf)),s4,.ol [],s6] ⟨[],s6,rfl,⟨by simp,by simp⟩,by simp⟩ (by
   rintro j Γ hj ⟨q,U,rfl,I,J⟩
   have Y:j<vs.length:=by simpa using hj
   have Z:vs[j]∈vs:=bY Y
   refine⟨_,_,rfl,?_,q++(aF L).map λa=>vs[j]++[a],.v (yf vs[j]),rfl,⟨λu z x hx=>?_,λu z=>?_⟩,by simp;omega⟩
   ·have:=zfv (s4:=s4) (made:=.lst (us.map yf)) (lastD:=.lst (vs.map yf)) (longer:=q) hL (O.len _ Z) hk (by omega)
    simpa using this
   ·rcases bX.mp z with z|z
    ·exact I.good u z x hx
    ·obtain⟨a,ha,rfl⟩:=bA.mp z
     rcases bX.mp hx with hx|hx
     ·exact O.good _ Z x hx
     ·simp at hx;rw[hx];exact bR.mp ha
   ·rcases bX.mp z with z|z
    ·exact I.len u z
    ·obtain⟨a,ha,rfl⟩:=bA.mp z
     have:=O.len _ Z
     simp;omega)
 have R:q.length<=vs.length*3:=by simpa using J
 refine⟨q,.v (.lst (q.map yf)),U,?_,I,R⟩
 have c1:us.length+q.length<=16777216:=by omega
 subst hg
 simp[Wa,h1,ZN,c1]
theorem ziV{L:Nat}(Z:L<=3):∃us,zdH [.int L,.int 4]=some (.lst (us.map yf))/\OkWs L 4 us/\us.length<=401:=by
 obtain⟨g,h1,us,vs,J,z,I,hg,O,_,_,R⟩:=wE (t:=zr 4) (fb:=Wa) (yS 0 4)
  (λk Γ=>∃us vs J z I,Γ=[.v (.int L),.v (.int 4),.v (.lst (us.map yf)),.v (.lst (vs.map yf)),J,z,I]/\OkWs L k us/\OkWs L k vs/\vs.length<=3^k/\us.length<=1+100*k)
  [.v (.int L),.v (.int 4),.v (.lst [.tup []]),.v (.lst [.tup []]),.un,.un,.un] ⟨[[]],[[]],.un,.un,.un,rfl,⟨by simp,by simp⟩,⟨by simp,by simp⟩,by simp,by simp⟩ (by
   rintro k Γ hk ⟨us,vs,J,z,I,rfl,h2,h3,h4,h5⟩
   have aa:k<4:=by simpa using hk
   have ab:3^k<=27:=Nat.pow_le_pow_right (n:=3) (by decide) (show k<=3 by omega)
   obtain⟨Y,u5,u6,e,q,hl⟩:=zdY (s4:=.v (.int (k:Int))) (s5:=z) (s6:=I) (us:=us) (vs:=vs) Z (by omega) (by omega) (by omega) h3
   refine⟨_,_,?_,e,us++Y,Y,_,u5,u6,rfl,⟨λu j=>?_,λu j=>?_⟩,q,by rw[qp];exact bS hl (iY _ h4),by simp;omega⟩
   ·simp
   ·rcases bX.mp j with j|j
    ·exact h2.good u j
    ·exact q.good u j
   ·rcases bX.mp j with j|j
    ·have:=h2.len u j;omega
    ·exact q.len u j)
 have U:r1I 4=some (yS 0 4):=wR (n:=4) (by decide)
 refine⟨us,zZ rfl ?_,by simpa using O,by simpa using R⟩
 subst hg
 simp[zgY,zC,U,h1]
end Py
namespace Py
open PySem L2 DD Pu
open Hop (yp yE Canon dl OkR Lst)
section
variable {A:Nat} {r1 r2:List (List Nat)} {g1 g2:Nat->Bool}
theorem ZV{α:Type}(f:α->Bool):∀l:List α,Pt.xt (l.map λs=>D.bl (f s))=some (l.map f)
 | []=>rfl
 | a::r=>by
  rw[bI]
  unfold Pt.xt
  rw[ZV f r];rfl
theorem zkm(wt:List (Bool×Bool))(ok1:OkR A r1)(ok2:OkR A r2)(hA1:1<=A)(hA3:A<=3)(hz1:r1.length<=2000)(hz2:r2.length<=2000){M:Nat}(hM:M<=50000) 
  (few:∀q1 q2 h1 h2,Lst A r1 g1 q1 h1->Lst A r2 g2 q2 h2->q1.length*q2.length<2^22/\(Hop.xj q1 q2).length<=M) :
  ∃rows g,Pq.uz wt WT VX YL uO [yY A r1 g1,yY A r2 g2]=some (yY A rows g)/\Tells A (λw=>wt.any λq=>q==(g1 (yp (dl r1) 0 w),g2 (yp (dl r2) 0 w))) rows g/\rows.length<=M:=by
 obtain⟨q1,h1,e1,L1⟩:=zcu (g:=g1) ok1 hA1 hA3 hz1
 obtain⟨q2,h2,e2,L2⟩:=zcu (g:=g2) ok2 hA1 hA3 hz2
 obtain⟨f1,f2⟩:=few q1 q2 h1 h2 L1 L2
 have le1:=L1.le
 have le2:=L2.le
 have m1:=U8 (A:=A) (rows:=q1) (g:=h1) (by omega)
 have m2:=U8 (A:=A) (rows:=q2) (g:=h2) (by omega)
 have J:Pq.JOk WT VX YL (yY A r1 g1) (yY A r2 g2) ⟨q1,(aF q1.length).map h1,q2,(aF q2.length).map h2,wt⟩ A :=
  ⟨⟨_,_,_,_,zl q1,zl q2,_,_,_,_,rfl,rfl,XD ok1 hA1 hA3 hz1,XD ok2 hA1 hA3 hz2,e1,e2,ub q1,ub q2,m1,m2,ZV h1 _,ZV h2 _⟩,L1.ok,L2.ok,by simp,by simp,f1,by omega⟩
 have nk:=Hop.zaG L1.ok L2.ok
 rw[Pq.zgI rfl J]
 obtain⟨rows,g,hl,Ls⟩:=ZH (g:=λi=>Pq.xQ ⟨q1,(aF q1.length).map h1,q2,(aF q2.length).map h2,wt⟩ ((Hop.xj q1 q2).getD i 0/q2.length) ((Hop.xj q1 q2).getD i 0%q2.length)) nk.1 hA3 (by rw[nk.2];omega)
 have em:Pq.Zs ⟨q1,(aF q1.length).map h1,q2,(aF q2.length).map h2,wt⟩=(aF (Hop.vL q1 q2).length).map λ(i:Nat)=>D.bl (Pq.xQ ⟨q1,(aF q1.length).map h1,q2,(aF q2.length).map h2,wt⟩ ((Hop.xj q1 q2).getD i 0/q2.length) ((Hop.xj q1 q2).getD i 0%q2.length)):=by
  rw[nk.2]
  unfold Pq.Zs
  rw[cZ]
  refine jV (by simp) λi a b=>?_
  have hi:i<(Hop.xj q1 q2).length:=by simpa using a
  simp only[eG,lG,nc]
  rw[Hop.xW hi]
 refine⟨rows,g,?_,?_,by have:=Ls.le;rw[nk.2]at this;omega⟩
 ·show uO [.int (A:Int),.lst (Pq.X0 (Hop.vL q1 q2)),.lst (Pq.Zs _)]=_
  rw[em]
  exact hl
 ·refine za9 Ls λw hw=>?_
  have:=Hop.zdp L1.ok L2.ok (λs t=>Pq.xQ ⟨q1,(aF q1.length).map h1,q2,(aF q2.length).map h2,wt⟩ s t) w hw
  refine Eq.trans this ?_
  have lt1:=Hop.vt L1.ok.lt w 0 hw L1.ok.pos
  have lt2:=Hop.vt L2.ok.lt w 0 hw L2.ok.pos
  have b1:((aF q1.length).map h1).getD (yp (dl q1) 0 w) false=g1 (yp (dl r1) 0 w):=by
   rw[aX,aY,fP lt1]
   exact L1.al w hw
  have b2:((aF q2.length).map h2).getD (yp (dl q2) 0 w) false=g2 (yp (dl r2) 0 w):=by
   rw[aX,aY,fP lt2]
   exact L2.al w hw
  show(wt.any λq=>q==(((aF q1.length).map h1).getD (yp (dl q1) 0 w) false,((aF q2.length).map h2).getD (yp (dl q2) 0 w) false))=_
  rw[b1,b2]
theorem zeN(ok1:OkR A r1)(ok2:OkR A r2):(Hop.xj r1 r2).length<=r1.length*r2.length:=by
 have:=Hop.Zr (Hop.UI ok1 ok2)
 rwa [Hop.uo]at this
end
end Py
namespace Pu
section
variable {α ρ ρ':Type} {f:α->Sum ρ α} {g:α->Sum ρ' α} {S:α->Prop} {ψ:ρ->ρ'} {rd:ρ}
theorem zcv(z:∀x,S x->∀y,f x=.inr y->S y)(I:∀x,S x->∀y,f x=.inr y->g x=.inr y){a:α}{s:ρ}(J:∀x,S x->f x=.inl s->sem g (ψ rd) x=ψ s):∀(k:Nat) (a:α),S a->run f k a=.inl s->sem g (ψ rd) a=ψ s
 | 0,_,_,h=>by cases h
 | k+1,a,j,h=>by
  cases q:f a with
  | inl x=>rw[xo _ q]at h;cases h;exact J a j q
  | inr b=>
   rw[yD _ q]at h
   rw[xc (I a j b q)]
   exact zcv z I (a:=b) J k b (z a j b q) h
theorem zcw(I:∀x,S x->∀y,f x=.inr y->S y)(J:∀x,S x->∀y,f x=.inr y->g x=.inr y):∀(k:Nat) (a:α),S a->(∀j s,run f j a≠.inl s)->∃b,run g k a=.inr b
 | 0,a,_,_=>⟨a,rfl⟩
 | k+1,a,O,h=>by
  cases q:f a with
  | inl x=>exact absurd (xo (k:=0) f q) (h 1 x)
  | inr b=>
   rw[yD _ (J a O b q)]
   exact zcw I J k b (I a O b q) λj s z=>h (j+1) s (by rw[yD _ q];exact z)
theorem zcx(J:∀x,S x->∀y,f x=.inr y->S y)(O:∀x,S x->∀y,f x=.inr y->g x=.inr y)(U:∀x,S x->∀s,f x=.inl s->sem g (ψ rd) x=ψ s){a:α}(R:S a):sem g (ψ rd) a=ψ (sem f rd a):=by
 by_cases z:∃x,x0 f a x
 ·obtain⟨s,z⟩:=z
  rw[yW z]
  obtain⟨k,I⟩:=z
  exact zcv (a:=a) J O (λx Y h=>U x Y s h) k a R I
 ·rw[yX (f:=f) λx q=>z ⟨x,q⟩]
  refine yX λx ⟨k,I⟩=>?_
  obtain⟨b,Z⟩:=zcw J O k a R λj s h=>z ⟨s,j,h⟩
  rw[Z]at I;cases I
theorem W2 {β:Type} {g':β->Sum ρ' β} {φ:α->β} (j:∀x,S x->∀y,f x=.inr y->S y) (z:∀x,S x->g' (φ x)=match f x with
  | .inl r=>.inl (ψ r)
  | .inr y=>.inr (φ y)):∀(k:Nat) (a:α),S a->run g' k (φ a)=match run f k a with
  | .inl r=>.inl (ψ r)
  | .inr y=>.inr (φ y)
 | 0,a,_=>rfl
 | k+1,a,I=>by
  have:=z a I
  cases q:f a with
  | inl r=>rw[q]at this;rw[xo _ q,xo _ this]
  | inr b=>rw[q]at this;rw[yD _ q,yD _ this];exact W2 j z k b (j a I b q)
theorem zbe {β:Type} {g':β->Sum ρ' β} {φ:α->β} (I:∀x,S x->∀y,f x=.inr y->S y) (J:∀x,S x->g' (φ x)=match f x with
  | .inl r=>.inl (ψ r)
  | .inr y=>.inr (φ y)) {a:α} (O:S a):sem g' (ψ rd) (φ a)=ψ (sem f rd a):=by
 by_cases z:∃x,x0 f a x
 ·obtain⟨x,z⟩:=z
  rw[yW z]
  obtain⟨k,j⟩:=z
  exact yW ⟨k,by rw[W2 I J k a O,j]⟩
 ·rw[yX (f:=f) λx q=>z ⟨x,q⟩]
  refine yX λx ⟨k,j⟩=>?_
  rw[W2 I J k a O]at j
  cases q:run f k a with
  | inl r=>exact z ⟨r,k,q⟩
  | inr y=>rw[q]at j;cases j
end
end Pu
namespace Py
open PySem L2 DD Pu
def yq(k:Nat):Mv aC->Mv aC
 | .fin s=>.fin s
 | .go r b=>.go (r+k) b
def yO(back c:Nat):Mv aC->Mv aC
 | .fin s=>if s=yk then .go back (decide (c=0))else .fin s
 | .go r b=>.go r b
theorem Qa:yO back c (.fin yk)=.go back (decide (c=0)):=by simp only[yO,if_true]
theorem Qb(h:¬s=yk):yO back c (.fin s)=.fin s:=by simp only[yO,h,if_false]
def ym(back:Nat)(j:List (Mv aC)):List (Mv aC):=(aF j.length).map λc=>yO back c (j.getD c (.fin xf))
def zH(L:Nat)(R1 R2:List (List (Mv aC))):List (List (Mv aC)) :=
 R1.map (ym R1.length)++((yq (R1.length+1) (zB R2 0 0)::aZ (L+1) (.go R1.length false))::R2.map λj=>j.map (yq (R1.length+1)))
section
variable {L:Nat} {R1 R2:List (List (Mv aC))}
theorem ZI:(zH L R1 R2).length=R1.length+1+R2.length:=by simp[zH];omega
theorem Wg(h1:OkM L R1)(j:r<R1.length)(z:c<L+2):zB (zH L R1 R2) r c=yO R1.length c (zB R1 r c):=by
 have I:=(h1.all _ (bY j)).len
 have q:c<R1[r].length:=by omega
 have e:(zH L R1 R2)[r]?=some (ym R1.length R1[r]):=by
  unfold zH
  rw[dF (by simpa using j),aY,bK j];rfl
 simp[zB,aX,e,ym,q,j]
theorem YV:zB (zH L R1 R2) R1.length 0=yq (R1.length+1) (zB R2 0 0):=by
 have e:(zH L R1 R2)[R1.length]?=some (yq (R1.length+1) (zB R2 0 0)::aZ (L+1) (.go R1.length false)):=by
  unfold zH
  rw[fF (by simp)];simp
 simp[zB,aX,e]
theorem zbf(q:0<c)(z:c<L+2):zB (zH L R1 R2) R1.length c=.go R1.length false:=by
 have e:(zH L R1 R2)[R1.length]?=some (yq (R1.length+1) (zB R2 0 0)::aZ (L+1) (.go R1.length false)):=by
  unfold zH
  rw[fF (by simp)];simp
 obtain⟨d,rfl⟩:∃d,c=d+1:=⟨c-1,by omega⟩
 have j:d<L+1:=by omega
 simp[zB,aX,e,j]
theorem zcy(h2:OkM L R2)(j:r<R2.length)(z:c<L+2):zB (zH L R1 R2) (r+(R1.length+1)) c=yq (R1.length+1) (zB R2 r c):=by
 have I:=(h2.all _ (bY j)).len
 have q:c<R2[r].length:=by omega
 have e:(zH L R1 R2)[r+(R1.length+1)]?=some (R2[r].map (yq (R1.length+1))):=by
  unfold zH
  rw[fF (by simp;omega),aN,show r+(R1.length+1)-R1.length=r+1 by omega,lH,aY,bK j];rfl
 simp[zB,aX,e,q,j]
theorem zcz(h:YR n L c m):YR (k+n) L c (yq k m):=by
 cases m with
 | fin s=>exact h
 | go r b=>exact⟨by have:=h.1;omega,h.2⟩
theorem zhb(h:YR n L c m)(I:n<=j)(q:back<j):YR j L c (yO back c m):=by
 cases m with
 | fin s=>
  unfold yO
  by_cases e:s=yk
  ·simp only[e,if_true]
   exact⟨q,λz=>by simp[z],λz=>by simp[z]⟩
  ·simp only[e,if_false];exact h
 | go r b=>exact⟨by have:=h.1;omega,h.2⟩
theorem zhc(h1:OkM L R1)(h2:OkM L R2)(h12:R1.length+1+R2.length<=12):OkM L (zH L R1 R2):=by
 refine⟨h1.l1,h1.l3,by rw[ZI];omega,by rw[ZI];omega,λrm hrm=>?_⟩
 rw[ZI]
 unfold zH at hrm
 rcases bX.mp hrm with hrm|hrm
 ·obtain⟨rm0,h0,rfl⟩:=bA.mp hrm
  have hk:=h1.all _ h0
  refine⟨by simp[ym,hk.len],λc hc=>?_⟩
  have hc':c<rm0.length:=by simpa[ym]using hc
  have:=hk.mvs c hc'
  have e:(ym R1.length rm0)[c]'hc=yO R1.length c rm0[c]:=by simp[ym,aX,hc']
  rw[e]
  exact zhb this (by omega) (by omega)
 ·rcases aU.mp hrm with rfl|hrm
  ·refine⟨by simp,λc hc=>?_⟩
   have hc':c<L+2:=by simpa using hc
   by_cases h0:c=0
   ·subst h0
    have:=zcz (k:=R1.length+1) (h2.mv h2.r1 (c:=0) (by omega))
    simpa using this
   ·obtain⟨d,rfl⟩:∃d,c=d+1:=⟨c-1,by omega⟩
    have e:(yq (R1.length+1) (zB R2 0 0)::aZ (L+1) (Mv.go R1.length false))[d+1]'hc=.go R1.length false:=by simp
    rw[e]
    exact⟨by omega,λz=>by omega,λ_=>rfl⟩
  ·obtain⟨rm0,h0,rfl⟩:=bA.mp hrm
   have hk:=h2.all _ h0
   refine⟨by simp[hk.len],λc hc=>?_⟩
   have hc':c<rm0.length:=by simpa using hc
   have:=zcz (k:=R1.length+1) (hk.mvs c hc')
   simpa using this
theorem zbg(h1:OkM L R1)(h2:OkM L R2)(j:∀x∈w,x<L):∀p,p<=w.length+1->sem (yy L (zH L R1 R2) w) yd (R1.length,p)=sem (yy L (zH L R1 R2) w) yd (R1.length,0)
 | 0,_=>rfl
 | p+1,z=>by
  have q:0<xw L w (p+1):=by unfold xw;rw[if_neg (by omega)];split <;>omega
  have e:=zbf (R1:=R1) (R2:=R2) q (uu j)
  rw[xc (b:=(R1.length,p)) (by simp only[yy,e,qt])]
  exact zbg h1 h2 j p (by omega)
theorem zfw(h1:OkM L R1)(h2:OkM L R2)(I:∀x∈w,x<L):sem (yy L (zH L R1 R2) w) yd (R1.length,0)=zU L R2 w:=by
 have S:=λa=>zbe (a:=a) (f:=yy L R2 w) (g':=yy L (zH L R1 R2) w) (φ:=λc=>(c.1+(R1.length+1),c.2)) (ψ:=id) (S:=λc=>c.1<R2.length/\c.2<=w.length+1) (rd:=yd) (λx J y O=>by
  have:=vS h2 I J.1 J.2
  rw[O]at this
  exact this) (λc R=>by
   have e:=zcy (R1:=R1) h2 R.1 (uu I (p:=c.2))
   unfold yy
   simp only[e]
   cases zB R2 c.1 (xw L w c.2)with
   | fin s=>rfl
   | go r b=>cases b <;>rfl)
 have z:=h2.mv h2.r1 (c:=0) (by omega)
 have j:xw L w 0=0:=rfl
 unfold zU
 cases q:zB R2 0 0 with
 | fin s=>
  rw[xV (x:=s) (by simp only[yy,j,YV,q,yq]),xV (x:=s) (by simp only[yy,j,q])]
 | go r b=>
  rw[q]at z
  have U:b=true:=z.2.1 rfl
  subst U
  rw[xc (b:=(r+(R1.length+1),1)) (by simp only[yy,j,YV,q,yq]),xc (f:=yy L R2 w) (b:=(r,1)) (by simp only[yy,j,q])]
  exact S (r,1) ⟨z.1,by simp⟩
theorem V9(h1:OkM L R1)(h2:OkM L R2)(z:∀x∈w,x<L):zU L (zH L R1 R2) w=if zU L R1 w=yk then zU L R2 w else zU L R1 w:=by
 have J:¬yd=yk:=by decide+kernel
 have T:=zcx (a:=((0,0):Nat×Nat)) (f:=yy L R1 w) (g:=yy L (zH L R1 R2) w) (ψ:=λs=>if s=yk then zU L R2 w else s) (S:=λc=>c.1<R1.length/\c.2<=w.length+1) (rd:=yd) (λx I y j=>by
  have:=vS h1 z I.1 I.2
  rw[j]at this
  exact this) (λx I y j=>by
   have e:=Wg (R2:=R2) h1 I.1 (uu z (p:=x.2))
   unfold yy at j ⊢
   rw[e]
   cases q:zB R1 x.1 (xw L w x.2)with
   | fin s=>rw[q]at j;cases j
   | go r b=>rw[q]at j;exact j) (λx I s O=>by
   have e:=Wg (R2:=R2) h1 I.1 (uu z (p:=x.2))
   unfold yy at O
   cases q:zB R1 x.1 (xw L w x.2)with
   | go r b=>rw[q]at O;cases b <;>cases O
   | fin s'=>
    rw[q]at O e
    cases O
    simp only[if_neg J]
    by_cases j:s=yk
    ·subst j
     rw[if_pos rfl]
     have R:yO R1.length (xw L w x.2) (.fin yk)=.go R1.length (decide (xw L w x.2=0)):=Qa
     rw[R]at e
     by_cases Z:x.2=0
     ·have U:xw L w x.2=0:=by rw[Z];rfl
      have Y:zB (zH L R1 R2) x.1 (xw L w x.2)=.go R1.length true:=by rw[e,decide_eq_true U]
      rw[xc (b:=(R1.length,x.2+1)) (by simp only[yy,Y]),zbg h1 h2 z _ (by omega)]
      exact zfw h1 h2 z
     ·have U:¬xw L w x.2=0:=by unfold xw;rw[if_neg Z];split <;>omega
      have Y:zB (zH L R1 R2) x.1 (xw L w x.2)=.go R1.length false:=by rw[e,decide_eq_false U]
      rw[xc (b:=(R1.length,x.2-1)) (by simp only[yy,Y]),zbg h1 h2 z _ (by omega)]
      exact zfw h1 h2 z
    ·rw[if_neg j]
     have R:yO R1.length (xw L w x.2) (.fin s)=.fin s:=Qb j
     rw[R]at e
     exact xV (by simp only[yy,e])) ⟨h1.r1,by simp⟩
 rw[if_neg J]at T
 exact T
def onR(k:Nat):Res aC->Res aC
 | .fin s=>.fin s
 | .out r=>.out (r+k)
theorem Wh(q:∀x∈w,x<L)(z:p<=w.length):col w p<L+1:=by
 unfold col
 split
 ·omega
 ·have j:p-1<w.length:=by omega
  have:=q _ (bY j)
  simp[aX,j]
  omega
theorem zbh(j:∀x∈w,x<L):∀p,p<=w.length->zR (zH L R1 R2) w (R1.length,p)=zR (zH L R1 R2) w (R1.length,0)
 | 0,_=>rfl
 | p+1,q=>by
  have z:0<col w (p+1):=by unfold col;simp
  have e:=zbf (R1:=R1) (R2:=R2) z (gE (Wh j q))
  have:=zbh j p (by omega)
  unfold zR xv at this ⊢
  rw[xc (b:=(R1.length,p)) (by unfold zL;rw[if_neg (by simp only;omega)];simp only[e,qt])]
  exact this
theorem zhZ(h2:OkM L R2)(j:∀x∈w,x<L)(z:r<R2.length):zR (zH L R1 R2) w (r+(R1.length+1),p)=onR (R1.length+1) (zR R2 w (r,p)):=by
 unfold zR xv
 refine zbe (φ:=λ(c:Nat×Nat)=>(c.1+(R1.length+1),c.2)) (ψ:=onR (R1.length+1)) (S:=λc=>c.1<R2.length) (rd:=.fin yd) (λx I y J=>by
  have:=U3 h2 j I
  rw[J]at this
  exact this) (λc O=>?_) (a:=(r,p)) z
 unfold zL
 by_cases q:w.length<c.2
 ·simp only[if_pos q];rfl
 ·simp only[if_neg q]
  rw[zcy h2 O (gE (Wh j (by omega)))]
  cases zB R2 c.1 (col w c.2)with
  | fin s=>rfl
  | go r b=>cases b <;>rfl
theorem zfx(h2:OkM L R2)(I:∀x∈w,x<L):zR (zH L R1 R2) w (R1.length,0)=onR (R1.length+1) (zR R2 w (0,0)):=by
 have z:=h2.mv h2.r1 (c:=0) (by omega)
 have j:col w 0=0:=rfl
 cases q:zB R2 0 0 with
 | fin s=>
  unfold zR xv
  rw[xV (x:=.fin s) (by unfold zL;rw[if_neg (by simp)];simp only[j,YV,q,yq]),xV (f:=zL (zB R2) w) (x:=.fin s) (by unfold zL;rw[if_neg (by simp)];simp only[j,q])]
  rfl
 | go r b=>
  rw[q]at z
  have J:b=true:=z.2.1 rfl
  subst J
  have:=zhZ (R1:=R1) h2 I (p:=1) z.1
  unfold zR xv at this ⊢
  rw[xc (b:=(r+(R1.length+1),1)) (by unfold zL;rw[if_neg (by simp)];simp only[j,YV,q,yq]),xc (f:=zL (zB R2) w) (b:=(r,1)) (by unfold zL;rw[if_neg (by simp)];simp only[j,q])]
  exact this
noncomputable def YW (R1 R2:List (List (Mv aC))) (w:List Nat) (x:Res aC):Res aC:=if x=.fin yk then(if w=[]then .out R1.length else onR (R1.length+1) (zR R2 w (0,0)))else x
theorem zh0(h1:OkM L R1)(h2:OkM L R2)(U:∀x∈w,x<L)(hr:r<R1.length):zR (zH L R1 R2) w (r,p)=YW R1 R2 w (zR R1 w (r,p)):=by
 have aa:¬(Res.fin yd:Res aC)=.fin yk:=λz=>by injection z with z;exact absurd z (by decide+kernel)
 have Y:YW R1 R2 w (.fin yd)=.fin yd:=if_neg aa
 have T:=zcx (a:=((r,p):Nat×Nat)) (f:=zL (zB R1) w) (g:=zL (zB (zH L R1 R2)) w) (ψ:=YW R1 R2 w) (S:=λc=>c.1<R1.length) (rd:=.fin yd) (λx Z y j=>by
  have:=U3 h1 U Z
  rw[j]at this
  exact this) (λx Z y j=>by
   unfold zL at j ⊢
   by_cases I:w.length<x.2
   ·rw[if_pos I]at j;cases j
   ·rw[if_neg I]at j ⊢
    rw[Wg (R2:=R2) h1 Z (gE (Wh U (by omega)))]
    cases q:zB R1 x.1 (col w x.2)with
    | fin s=>rw[q]at j;cases j
    | go r b=>rw[q]at j;exact j) (λx Z s J=>by
   rw[Y]
   unfold zL at J
   by_cases I:w.length<x.2
   ·rw[if_pos I]at J
    cases J
    have:YW R1 R2 w (.out x.1)=.out x.1:=if_neg λz=>nomatch z
    rw[this]
    exact xV (by unfold zL;rw[if_pos I])
   ·rw[if_neg I]at J
    have e:=Wg (R2:=R2) h1 Z (gE (Wh U (p:=x.2) (by omega)))
    cases q:zB R1 x.1 (col w x.2)with
    | go r b=>rw[q]at J;cases b <;>cases J
    | fin s'=>
     rw[q]at J e
     cases J
     by_cases j:s'=yk
     ·subst j
      have ey:yO R1.length (col w x.2) (.fin yk)=.go R1.length (decide (col w x.2=0)):=Qa
      rw[ey]at e
      have et:YW R1 R2 w (.fin yk)=if w=[]then .out R1.length else onR (R1.length+1) (zR R2 w (0,0)):=if_pos rfl
      rw[et]
      have O:=zbh (L:=L) (R1:=R1) (R2:=R2) U
      have sb:=zfx (R1:=R1) h2 U
      unfold zR xv at O sb
      by_cases h0:x.2=0
      ·have hc:col w x.2=0:=by rw[h0];rfl
       have e':zB (zH L R1 R2) x.1 (col w x.2)=.go R1.length true:=by rw[e,decide_eq_true hc]
       rw[xc (b:=(R1.length,x.2+1)) (by unfold zL;rw[if_neg I];simp only[e'])]
       by_cases R:w=[]
       ·rw[if_pos R]
        exact xV (by unfold zL;rw[if_pos (by rw[R,h0];simp)])
       ·have hl:0<w.length:=qk.mpr R
        rw[if_neg R,h0,O 1 (by omega)]
        unfold zR xv
        exact sb
      ·have hc:¬col w x.2=0:=by unfold col;rw[if_neg h0];omega
       have e':zB (zH L R1 R2) x.1 (col w x.2)=.go R1.length false:=by rw[e,decide_eq_false hc]
       have R:¬w=[]:=λz=>by rw[z]at I;simp at I;omega
       rw[xc (b:=(R1.length,x.2-1)) (by unfold zL;rw[if_neg I];simp only[e']),O _ (by omega),if_neg R]
       unfold zR xv
       exact sb
     ·have ey:yO R1.length (col w x.2) (.fin s')=.fin s':=Qb j
      rw[ey]at e
      have:YW R1 R2 w (.fin s')=.fin s':=if_neg λz=>by injection z with z;exact j z
      rw[this]
      exact xV (by unfold zL;rw[if_neg I];simp only[e])) hr
 rw[Y]at T
 unfold zR xv
 exact T
theorem zdZ(h1:OkM L R1)(h2:OkM L R2){w:List Nat}(hw:∀x∈w,x<L):yN (zH L R1 R2) w=(yN R1 w).map (YW R1 R2 w)++(yN R2 w).map (onR (R1.length+1)):=by
 have e:aF (zH L R1 R2).length=aF R1.length++(R1.length::(aF R2.length).map (·+(R1.length+1))):=by
  rw[ZI,show R1.length+1+R2.length=R1.length+(1+R2.length) by omega,List.range_add]
  congr 1
  rw[jO 1 R2.length,List.range_succ_eq_map]
  simp only[bI,cZ,qq]
  congr 1
  refine dC λx _=>?_
  simp only[nc];omega
 unfold yN
 rw[e]
 simp only[cL,bI,cZ,lp]
 rw[zh0 h1 h2 hw h1.r1]
 congr 1
 congr 1
 ·exact dC λr hr=>zh0 h1 h2 hw (bR.mp hr)
 ·rw[zbh hw w.length (aP _),zfx h2 hw]
  congr 1
  exact dC λr hr=>zhZ h2 hw (bR.mp hr)
end
end Py
namespace Py
open PySem L2 DD Pu
section
variable {L:Nat} {R1 R2:List (List (Mv aC))}
theorem ziW{m:Mv aC}{k:Nat}:Ju [zp m,.int (k:Int)]=some (zp (yq k m)):=by
 refine zZ rfl ?_
 cases m with
 | fin s=>simp[Jt,zC,zp,yq]
 | go r b=>simp[Jt,zC,zp,yq]
theorem Q4{m:Mv aC}{k:Nat}:WV [zp m,.int (k:Int)]=some (zp (yq k m)):=by
 refine zZ rfl ?_
 cases m with
 | fin s=>simp[zdK,zC,zp,yq]
 | go r b=>simp[zdK,zC,zp,yq]
def isY:Mv aC->Bool
 | .fin s=>s==yk
 | .go _ _=>false
theorem zfy(h:YR n L c m):OkD 1 (zp m):=by
 cases m with
 | fin s=>exact OkD.str (by rcases h with rfl|rfl <;>decide+kernel)
 | go r b=>exact OkD.tup (n:=0) (by simp[OkD.int])
theorem zfz(h:YR n L c m):mEq false (.d (zp m)) (.d (.str yk))=some (.bl (isY m)):=by
 rw[VI (n:=1) (zfy h) (OkD.str u7)]
 cases m with
 | fin s=>simp only[zp,U9,isY];rfl
 | go r b=>simp[zp,isY,toP,toPs,bL]
theorem Q5{back c:Nat}{m:Mv aC}:zp (yO back c m)=if isY m=true then .tup [.int (back:Int),.int (if c=0 then 1 else-1)]else zp m:=by
 cases m with
 | fin s=>
  by_cases e:s=yk
  ·subst e
   rw[Qa,if_pos (by simp[isY])]
   by_cases h:c=0 <;>simp[zp,h]
  ·rw[Qb e,if_neg (by simpa[isY]using e)]
 | go r b=>rfl
theorem zbi{back n:Nat}{j:List (Mv aC)}(q:n<j.length):(aF (n+1)).map (λc=>zp (yO back c (j.getD c (.fin xf))))=(aF n).map (λc=>zp (yO back c (j.getD c (.fin xf))))++[zp (yO back n j[n])]:=by
 rw[lx,cL,ni,aX,bK q];rfl
theorem Wt:zi (ym back j)=.tup ((aF j.length).map λc=>zp (yO back c (j.getD c (.fin xf)))):=by simp[zi,ym]
theorem zfA{n back:Nat}{rm:List (Mv aC)}(hk:OkRoom n L rm)(hl3:L<=3):zdE [zi rm,.int (back:Int)]=some (zi (ym back rm)):=by
 have hlen:=hk.len
 obtain⟨G1,h1,y3,y4,y5,hg⟩:=wE (t:=xN 2 (z9 (zr 3) (z9 (zr 4) xY))) (fb:=UW) (ya (rm.map zp))
  (λk Γ=>∃y3 y4 y5,Γ=[.v (zi rm),.v (.int (back:Int)),.ol ((aF k).map λc=>zp (yO back c (rm.getD c (.fin xf)))),y3,y4,y5])
  [.v (zi rm),.v (.int (back:Int)),.ol [],.un,.un,.un] ⟨.un,.un,.un,rfl⟩ (by
   rintro k Γ hk1 ⟨y3,y4,y5,rfl⟩
   have hk':k<rm.length:=by
    have:=hk1
    rw[Xr,aN]at this
    exact this
   have hmv:=hk.mvs k hk'
   have hyes:=zfz hmv
   have hat:(ya (rm.map zp))[k]'hk1=.tup [.int (k:Int),zp rm[k]]:=by simp[ya,aX,hk']
   refine⟨[.v (zi rm),.v (.int (back:Int)),.ol ((aF k).map λc=>zp (yO back c (rm.getD c (.fin xf)))),.v (.int (k:Int)),.v (zp rm[k]),y5],[.v (zi rm),.v (.int (back:Int)),.ol ((aF (k+1)).map λc=>zp (yO back c (rm.getD c (.fin xf)))),.v (.int (k:Int)),.v (zp rm[k]),.v (.int (if k=0 then 1 else-1))],by rw[hat];rfl,?_,_,_,_,rfl⟩
   rw[zbi hk',Q5]
   have cl:((aF k).map λc=>zp (yO back c (rm.getD c (.fin xf)))).length<16777216:=by simp;omega
   generalize (aF k).map (λc=>zp (yO back c (rm.getD c (.fin xf))))=acc at cl ⊢
   generalize zp rm[k]=em at hyes ⊢
   generalize isY rm[k]=iy at hyes ⊢
   have e0:(zY 5 (xIf (xT (x2 (mEq false) (za 3) (xC (.int 0)))) (xC (.int 1)) (vy (xC (.int 1))))) [.v (zi rm),.v (.int (back:Int)),.ol acc,.v (.int (k:Int)),.v em,y5]=some (.nx [.v (zi rm),.v (.int (back:Int)),.ol acc,.v (.int (k:Int)),.v em,.v (.int (if k=0 then 1 else-1))]):=by
    by_cases h0:k=0
    ·subst h0;simp
    ·have:¬((k:Int)=0):=by omega
     simp[h0,this]
   unfold UW
   rw[ye,e0,yc]
   have hyes':mEq false (.d em) (.d (.str "yes"))=some (.bl iy):=hyes
   cases iy <;>simp[hyes',wJ,cl])
 rw[Xr,aN]at hg
 refine zZ rfl ?_
 subst hg
 unfold zgU
 show zu _ _ [.v (zi rm),.v (.int (back:Int)),.un,.un,.un,.un]=_
 rw[ye]
 show uU (some (.nx [.v (zi rm),.v (.int (back:Int)),.ol [],.un,.un,.un])) _=_
 rw[yc,ye,Xq,zls]
 show uU (zal (some (ya (rm.map zp))) _ _ _) _=_
 rw[vV,h1,yc,Wt]
 generalize (aF rm.length).map (λc=>zp (yO back c (rm.getD c (.fin xf))))=acc
 simp
theorem Q6:zn L (zH L R1 R2)=.tup [.int (L:Int),.tup (R1.map (λj=>zi (ym R1.length j))++(zi (yq (R1.length+1) (zB R2 0 0)::aZ (L+1) (.go R1.length false))::R2.map λj=>zi (j.map (yq (R1.length+1)))))]:=by
 simp[zn,zH]
 rfl
theorem zfB{k n:Nat}(j:1<=k)(h2:k<=100):v6 (.d (.tup [.tup [.int (n:Int),.int (-1)]])) (.d (.int (k:Int)))=some (.tup ((aZ k (Mv.go n false)).map zp)):=by
 rw[zkh (by simp) j (by show 1*k<=aH;rw[szv];omega) (by omega)]
 congr 2
 clear j h2
 induction k with
 | zero=>rfl
 | succ k q=>rw[fL,fL,gR,q];rfl
theorem ziX{n:Nat}(h:n<=12):UV [.int (n:Int)]=some .non:=by
 have:¬(12:Int)<n:=by omega
 simp[UV,mir,zgT,zC,this]
theorem zkn(h2:OkM L R2):∃m1,R2[0]?=some m1/\m1[0]?=some (zB R2 0 0):=by
 have j:0<R2.length:=h2.r1
 have q:=(h2.all _ (bY j)).len
 exact⟨R2[0],bK j,by rw[bK (by omega)];simp[zB,aX,j,show 0<R2[0].length by omega]⟩
theorem ziY(h1:OkM L R1)(h2:OkM L R2)(Y:R1.length+1+R2.length<=12):zdF [zn L R1,zn L R2]=some (zn L (zH L R1 R2)):=by
 have c1:=Xy h1
 have c2:=Xy h2
 have Z:=h1.l3
 have sz:=ziX (n:=R1.length+1+R2.length) Y
 have aa:UV [.int ((R1.length:Int)+1+(R2.length:Int))]=some .non:=sz
 have a1:=λ(Γ:G) (hΓ:Γ[3]?=some (.v (.int (R1.length:Int))))=>yC (λq=>zi (ym R1.length q)) (t:=zr 0) (cond:=zI) (el:=UX) (Γ:=Γ) (ms:=[none,some 3]) (ds:=R1.map zi) R1 (by simp) (by simp;omega) (by
  intro k hk
  have I:k<R1.length:=by simpa using hk
  refine⟨[.v (zi R1[k]),.v (.int (R1.length:Int))],by simp[yT,hΓ],rfl,?_⟩
  simp[UX,zfA (h1.all _ (bY I)) Z])
 have a2:=λ(Γ:G) (hΓ:Γ[3]?=some (.v (.int (R1.length:Int))))=>yC (λq=>zi (q.map (yq (R1.length+1)))) (t:=zr 0) (cond:=zI) (el:=UZ) (Γ:=Γ) (ms:=[none,some 3]) (ds:=R2.map zi) R2 (by simp) (by simp;omega) (by
  intro k hk
  have I:k<R2.length:=by simpa using hk
  have hl:=(h2.all _ (bY I)).len
  refine⟨[.v (zi R2[k]),.v (.int (R1.length:Int))],by simp[yT,hΓ],rfl,?_⟩
  have b1:=yC zp (t:=zr 0) (cond:=zI) (el:=UY) (Γ:=[.v (zi R2[k]),.v (.int (R1.length:Int))]) (ms:=[none,some 1]) (ds:=R2[k].map zp) (R2[k].map (yq (R1.length+1))) (by simp) (by simp;omega) (by
   intro j hj
   refine⟨[.v ((R2[k].map zp)[j]'hj),.v (.int (R1.length:Int))],by simp[yT],rfl,?_⟩
   simp only[eG]
   have:=ziW (m:=R2[k][j]'(by simpa using hj)) (k:=R1.length+1)
   have e:((R1.length+1:Nat):Int)=(R1.length:Int)+1:=by omega
   rw[e]at this
   simp[UY,this])
  unfold UZ
  rw[Yg,yJ,uM,wQ,VG]
  show VF wv (vJ ((wG (some (R2[k].map zp)) _ _ _ _ _).map _) _)=_
  rw[b1]
  simp[zi])
 have rep:=zfB (k:=L+1) (n:=R1.length) (by omega) (by omega)
 have J:v6 (.d (.tup [.tup [.int (R1.length:Int),.int (-1)]])) (.d (.int ((L:Int)+1)))=some (.tup ((aZ (L+1) (Mv.go R1.length false)).map zp)):=rep
 obtain⟨m1,ab,z⟩:=zkn h2
 have O:(R2.map λq=>zi (q.map (yq (R1.length+1))))[0]?=some (.tup (zp (yq (R1.length+1) (zB R2 0 0))::((m1.map (yq (R1.length+1))).map zp).drop 1)):=by
  rw[aY,ab]
  cases m1 with
  | nil=>simp at z
  | cons a r=>simp at z;simp[zi,z]
 rw[Q6]
 have er:zi (yq (R1.length+1) (zB R2 0 0)::aZ (L+1) (Mv.go R1.length false))=.tup (zp (yq (R1.length+1) (zB R2 0 0))::(aZ (L+1) (Mv.go R1.length false)).map zp):=by simp[zi]
 rw[er]
 have ac:(R1.map λq=>zi (ym R1.length q)).length=R1.length:=by simp
 have ad:(R2.map λq=>zi (q.map (yq (R1.length+1)))).length=R2.length:=by simp
 have ae:((aZ (L+1) (Mv.go R1.length false)).map zp).length=L+1:=by simp
 have h0:(R1.map zi).length=R1.length:=by simp
 have af:(R2.map zi).length=R2.length:=by simp
 have R:zn L R1=.tup [.int (L:Int),.tup (R1.map zi)]:=rfl
 have U:zn L R2=.tup [.int (L:Int),.tup (R2.map zi)]:=rfl
 rw[R]at c1
 rw[U]at c2
 rw[R,U]
 generalize R1.map (λq=>zi (ym R1.length q))=dA at*
 generalize R2.map (λq=>zi (q.map (yq (R1.length+1))))=dB at*
 generalize (aZ (L+1) (Mv.go R1.length false)).map zp=dR at*
 generalize R1.map zi=d1 at*
 generalize R2.map zi=d2 at*
 generalize ((m1.map (yq (R1.length+1))).map zp).drop 1=dT at*
 generalize zp (yq (R1.length+1) (zB R2 0 0))=m0 at*
 have q1:1+(L+1)<=16777216:=by omega
 have q2:R1.length+1<=16777216:=by omega
 have q3:R1.length+1+R2.length<=16777216:=by omega
 refine zZ rfl ?_
 simp[zgV,zC,c1,c2,h0,af,aa]
 simp[a1,a2,O,J,ae,ac,ad,q1,q2,q3]
end
section
variable {L:Nat} {R1 R2:List (List (Mv aC))}
theorem ziZ{n back:Nat}{j:List (Mv aC)}(hk:OkRoom n L j)(ab:L<=3){s0 s1 y5 y6:S}{rs:List D}(ac:rs.length<=100):
  ∃z5 O,YQ [s0,s1,.v (.int (back:Int)),.ol rs,.v (zi j),y5,y6]=some (.nx [s0,s1,.v (.int (back:Int)),.ol (rs++[zi (ym back j)]),.v (zi j),z5,O]):=by
 have aa:=hk.len
 obtain⟨G1,h1,O,hg⟩:=wE (t:=zr 6) (fb:=WW) (yS 0 j.length)
  (λk Γ=>∃O,Γ=[s0,s1,.v (.int (back:Int)),.ol rs,.v (zi j),.ol ((aF k).map λc=>zp (yO back c (j.getD c (.fin xf)))),O])
  [s0,s1,.v (.int (back:Int)),.ol rs,.v (zi j),.ol [],y6] ⟨y6,rfl⟩ (by
   rintro k Γ R ⟨O,rfl⟩
   have z:k<j.length:=by simpa using R
   have U:=hk.mvs k z
   have q:=zfz U
   refine⟨[s0,s1,.v (.int (back:Int)),.ol rs,.v (zi j),.ol ((aF k).map λc=>zp (yO back c (j.getD c (.fin xf)))),.v (.int (k:Int))],[s0,s1,.v (.int (back:Int)),.ol rs,.v (zi j),.ol ((aF (k+1)).map λc=>zp (yO back c (j.getD c (.fin xf)))),.v (.int (k:Int))],by simp,?_,_,rfl⟩
   rw[zbi z,Q5]
   have cl:((aF k).map λc=>zp (yO back c (j.getD c (.fin xf)))).length<16777216:=by simp;omega
   generalize (aF k).map (λc=>zp (yO back c (j.getD c (.fin xf))))=acc at cl ⊢
   have I:(x2 mIx (za 4) (za 6)) [s0,s1,.v (.int (back:Int)),.ol rs,.v (zi j),.ol acc,.v (.int (k:Int))]=some (.d (zp j[k])):=by
    simp[zi,xI,z]
   generalize zp j[k]=em at q I ⊢
   generalize isY j[k]=Y at q ⊢
   have hw:(x2 mIx (xL (xJ (zc (vy (xC (.int 1))) (zc (xC (.int 1)) zg)))) (zG XV (zc (x2 (mEq false) (za 6) (xC (.int 0))) zg))) [s0,s1,.v (.int (back:Int)),.ol rs,.v (zi j),.ol acc,.v (.int (k:Int))]=some (.d (.int (if k=0 then 1 else-1))):=by
    by_cases h0:k=0
    ·subst h0;simp[za3]
    ·have:¬((k:Int)=0):=by omega
     simp[h0,this,za3]
   have J:mEq false (.d em) (.d (.str "yes"))=some (.bl Y):=q
   have hi:(zG XV (zc (x2 (mEq false) (x2 mIx (za 4) (za 6)) (xC (.str "yes"))) zg)) [s0,s1,.v (.int (back:Int)),.ol rs,.v (zi j),.ol acc,.v (.int (k:Int))]=some (.d (.int (if Y then 1 else 0))):=by
    rw[Yg,yJ,vQ,I]
    simp[J,za3]
   unfold WW
   rw[zak,vQ,uM,zj2,yJ,I,yJ,zah,yJ,yJ,hw,hi]
   cases Y <;>simp[wJ,cl])
 rw[VJ]at hg
 refine⟨.ol ((aF j.length).map λc=>zp (yO back c (j.getD c (.fin xf)))),O,?_⟩
 subst hg
 unfold YQ
 rw[ye]
 show uU (some (.nx [s0,s1,.v (.int (back:Int)),.ol rs,.v (zi j),.ol [],y6])) _=_
 rw[yc,ye,Xq]
 have hr:(xR1 (zc (zG xB (zc (za 4) zg)) zg)) [s0,s1,.v (.int (back:Int)),.ol rs,.v (zi j),.ol [],y6]=some (yS 0 j.length):=by
  have Z:=wR (n:=j.length) (by omega)
  simp[zi,Z]
 rw[hr,vV,h1,yc,Wt]
 have cr:rs.length<16777216:=by omega
 generalize (aF j.length).map (λc=>zp (yO back c (j.getD c (.fin xf))))=acc
 simp[wJ,cr]
theorem zlz(h1:OkM L R1)(h2:OkM L R2)(ai:R1.length+1+R2.length<=12):Jw [zn L R1,zn L R2]=some (zn L (zH L R1 R2)):=by
 have ad:=h1.l3
 obtain⟨G1,l1,J,y5,y6,U⟩:=wE (t:=zr 4) (fb:=YQ) (R1.map zi)
  (λk Γ=>∃J y5 y6,Γ=[.v (zn L R1),.v (zn L R2),.v (.int (R1.length:Int)),.ol ((R1.take k).map λq=>zi (ym R1.length q)),J,y5,y6])
  [.v (zn L R1),.v (zn L R2),.v (.int (R1.length:Int)),.ol [],.un,.un,.un] ⟨.un,.un,.un,rfl⟩ (by
   rintro k Γ hk ⟨J,y5,y6,rfl⟩
   have I:k<R1.length:=by simpa using hk
   obtain⟨z5,z6,e⟩:=ziZ (back:=R1.length) (h1.all _ (bY I)) ad (s0:=.v (zn L R1)) (s1:=.v (zn L R2)) (y5:=y5) (y6:=y6) (rs:=(R1.take k).map λq=>zi (ym R1.length q)) (by simp;omega)
   refine⟨_,_,by rw[eG];rfl,e,.v (zi R1[k]),z5,z6,?_⟩
   rw[iG I,cL];rfl)
 rw[aN,fG]at U
 have rep:=zfB (k:=L+1) (n:=R1.length) (by omega) (by omega)
 have z:v6 (.d (.tup [.tup [.int (R1.length:Int),.int (-1)]])) (.d (.int ((L:Int)+1)))=some (.tup ((aZ (L+1) (Mv.go R1.length false)).map zp)):=rep
 have er:zi (yq (R1.length+1) (zB R2 0 0)::aZ (L+1) (Mv.go R1.length false))=.tup (zp (yq (R1.length+1) (zB R2 0 0))::(aZ (L+1) (Mv.go R1.length false)).map zp):=by simp[zi]
 obtain⟨G2,l2,z4,Y⟩:=wE (t:=zr 4) (fb:=WY) (R2.map zi)
  (λk Γ=>∃z4,Γ=[.v (zn L R1),.v (zn L R2),.v (.int (R1.length:Int)),.ol (R1.map (λq=>zi (ym R1.length q))++(zi (yq (R1.length+1) (zB R2 0 0)::aZ (L+1) (Mv.go R1.length false))::(R2.take k).map λq=>zi (q.map (yq (R1.length+1))))),z4,y5,y6])
  [.v (zn L R1),.v (zn L R2),.v (.int (R1.length:Int)),.ol (R1.map (λq=>zi (ym R1.length q))++[zi (yq (R1.length+1) (zB R2 0 0)::aZ (L+1) (Mv.go R1.length false))]),J,y5,y6] ⟨J,rfl⟩ (by
   rintro k Γ hk ⟨z4,rfl⟩
   have I:k<R2.length:=by simpa using hk
   have hl:=(h2.all _ (bY I)).len
   refine⟨[.v (zn L R1),.v (zn L R2),.v (.int (R1.length:Int)),.ol (R1.map (λq=>zi (ym R1.length q))++(zi (yq (R1.length+1) (zB R2 0 0)::aZ (L+1) (Mv.go R1.length false))::(R2.take k).map λq=>zi (q.map (yq (R1.length+1))))),.v (zi R2[k]),y5,y6],[.v (zn L R1),.v (zn L R2),.v (.int (R1.length:Int)),.ol (R1.map (λq=>zi (ym R1.length q))++(zi (yq (R1.length+1) (zB R2 0 0)::aZ (L+1) (Mv.go R1.length false))::(R2.take (k+1)).map λq=>zi (q.map (yq (R1.length+1))))),.v (zi R2[k]),y5,y6],by simp,?_,_,rfl⟩
   have et:(R2.take (k+1)).map (λq=>zi (q.map (yq (R1.length+1))))=(R2.take k).map (λq=>zi (q.map (yq (R1.length+1))))++[zi (R2[k].map (yq (R1.length+1)))]:=by
    rw[iG I,cL];rfl
   rw[et]
   have cl:(R1.map (λq=>zi (ym R1.length q))++(zi (yq (R1.length+1) (zB R2 0 0)::aZ (L+1) (Mv.go R1.length false))::(R2.take k).map λq=>zi (q.map (yq (R1.length+1))))).length<16777216:=by simp;omega
   rw[<-lp,<-kU]
   generalize (R1.map (λq=>zi (ym R1.length q))++(zi (yq (R1.length+1) (zB R2 0 0)::aZ (L+1) (Mv.go R1.length false))::(R2.take k).map λq=>zi (q.map (yq (R1.length+1)))))=acc at cl ⊢
   have b1:=yC zp (t:=zr 0) (cond:=zI) (el:=WX) (Γ:=[.v (zn L R1),.v (zn L R2),.v (.int (R1.length:Int)),.ol acc,.v (zi R2[k]),y5,y6]) (ms:=[none,some 2]) (ds:=R2[k].map zp) (R2[k].map (yq (R1.length+1))) (by simp) (by simp;omega) (by
    intro j hj
    refine⟨[.v ((R2[k].map zp)[j]'hj),.v (.int (R1.length:Int))],by simp[yT],rfl,?_⟩
    simp only[eG]
    have:=Q4 (m:=R2[k][j]'(by simpa using hj)) (k:=R1.length+1)
    have e:((R1.length+1:Nat):Int)=(R1.length:Int)+1:=by omega
    rw[e]at this
    simp[WX,this])
   unfold WY
   rw[zak,Yg,yJ,uM,wQ,VG]
   show Xp 3 _ (VF wv (vJ ((wG (some (R2[k].map zp)) _ _ _ _ _).map _) _)) _=_
   rw[b1]
   simp[zi,wJ,cl])
 rw[aN,fG]at Y
 obtain⟨m1,ae,Z⟩:=zkn h2
 have af:=Q4 (m:=zB R2 0 0) (k:=R1.length+1)
 have aa:WV [zp (zB R2 0 0),.int ((R1.length:Int)+1)]=some (zp (yq (R1.length+1) (zB R2 0 0))):=af
 have ag:(x2 mIx (x2 mIx (x2 mIx (za 1) (xC (.int 1))) (xC (.int 0))) (xC (.int 0))) [.v (zn L R1),.v (zn L R2),.v (.int (R1.length:Int)),.ol (R1.map λq=>zi (ym R1.length q)),J,y5,y6]=some (.d (zp (zB R2 0 0))):=by
  have g1:(R2.map zi)[0]?=some (.tup (m1.map zp)):=by rw[aY,ae];rfl
  have g2:(m1.map zp)[0]?=some (zp (zB R2 0 0)):=by rw[aY,Z];rfl
  rw[vQ,vQ,vQ]
  show ap2 mIx (ap2 mIx (some (.d (.tup (R2.map zi)))) (some (.d (.int 0)))) (some (.d (.int 0)))=_
  generalize R2.map zi=dz at g1
  generalize m1.map zp=dm at g1 g2
  simp[g1,g2]
 have ah:(x2 yi (x2 mIx (za 0) (xC (.int 0))) (xC (.int 1))) [.v (zn L R1),.v (zn L R2),.v (.int (R1.length:Int)),.ol (R1.map λq=>zi (ym R1.length q)),J,y5,y6]=some (.d (.int ((L:Int)+1))):=by simp
 have O:(x2 v6 (yQ (zc (yQ (zc (za 2) (zc (vy (xC (.int 1))) zg))) zg)) (x2 yi (x2 mIx (za 0) (xC (.int 0))) (xC (.int 1)))) [.v (zn L R1),.v (zn L R2),.v (.int (R1.length:Int)),.ol (R1.map λq=>zi (ym R1.length q)),J,y5,y6]=some (.d (.tup ((aZ (L+1) (Mv.go R1.length false)).map zp))):=by
  rw[vQ,ah]
  generalize (aZ (L+1) (Mv.go R1.length false)).map zp=dR at z ⊢
  simp[z]
 have R:(zG xB (zc (x2 mIx (za 0) (xC (.int 1))) zg)) [.v (zn L R1),.v (zn L R2),.un,.un,.un,.un,.un]=some (.d (.int (R1.length:Int))):=by simp
 refine zZ rfl ?_
 unfold zdL
 show zu _ _ [.v (zn L R1),.v (zn L R2),.un,.un,.un,.un,.un]=_
 rw[ye,v8,R,QI,yc,ye]
 show uU (some (.nx [.v (zn L R1),.v (zn L R2),.v (.int (R1.length:Int)),.ol [],.un,.un,.un])) _=_
 rw[yc,ye,Xq,VG]
 show uU (zal (some (R1.map zi)) _ _ _) _=_
 rw[vV,l1,U,yc,ye]
 have ab:(vx 3 (x2 yi (yQ (zc (xFn WV (zc (x2 mIx (x2 mIx (x2 mIx (za 1) (xC (.int 1))) (xC (.int 0))) (xC (.int 0))) (zc (x2 yi (za 2) (xC (.int 1))) zg))) zg)) (x2 v6 (yQ (zc (yQ (zc (za 2) (zc (vy (xC (.int 1))) zg))) zg)) (x2 yi (x2 mIx (za 0) (xC (.int 0))) (xC (.int 1)))))) [.v (zn L R1),.v (zn L R2),.v (.int (R1.length:Int)),.ol (R1.map λq=>zi (ym R1.length q)),J,y5,y6]=some (.nx [.v (zn L R1),.v (zn L R2),.v (.int (R1.length:Int)),.ol (R1.map (λq=>zi (ym R1.length q))++[zi (yq (R1.length+1) (zB R2 0 0)::aZ (L+1) (Mv.go R1.length false))]),J,y5,y6]):=by
  rw[zak,vQ,zah,yJ,XW,yJ,ag,O,er]
  have cl:(R1.map λq=>zi (ym R1.length q)).length<16777216:=by simp;omega
  have q1:1+(L+1)<=16777216:=by omega
  have ac:((aZ (L+1) (Mv.go R1.length false)).map zp).length=L+1:=by simp
  generalize (R1.map λq=>zi (ym R1.length q))=dA at cl ⊢
  generalize (aZ (L+1) (Mv.go R1.length false)).map zp=dR at z ac ⊢
  simp[aa,z,wJ,cl,ac,q1]
 rw[ab,yc,ye,Xq,VG]
 show uU (zal (some (R2.map zi)) _ _ _) _=_
 rw[vV,l2,Y,yc,Q6]
 generalize (R1.map (λq=>zi (ym R1.length q))++(zi (yq (R1.length+1) (zB R2 0 0)::aZ (L+1) (Mv.go R1.length false))::R2.map λq=>zi (q.map (yq (R1.length+1)))))=acc
 simp
end
end Py
namespace Pt
open PySem PySem.Spec L2 DD
open PyProof.Rows hiding St
open Hop (HS)
def top(i:Nat):aM:=PySem.Challenge.pw_backhead_k11_whole_one_after.main.body.getD i (.Pass ⟨0,0,0,0⟩)
def Wi(s:aM):List aM:=match s with
 | .ClassDef _ _ _ b _ _ _ _ _ _ _=>b
 | _=>[]
def YX(i:Nat):aM:=(Wi (top 27)).getD i (.Pass ⟨0,0,0,0⟩)
abbrev XE:aM:=YX 2
theorem zi0:FnScope ["self","part"] ["self","part"] (zq XE):=⟨rfl,rfl,rfl,by decide+kernel,rfl,by decide+kernel,by decide+kernel⟩
def zfC(C:aA):Sp:=λvs H Q _=>∃x p H0 st g,vs=[.ref x,.int (p:Nat)]/\Rep C H0 H x st g/\p<st.waits.length/\st.waiting.length<aH/\∀H',Rep C H0 H' x {st with waits:=st.waits.set p true,waiting:=st.waiting++[p]} g->Q .non H'
theorem zcA{P:aS}{w:aO}{K:aE}{mg:aC->Option aB}{base:aK}{fa C:aA}{fd:bQ}(z:Fun K "let_wait" "Parting.let_wait" XE fa fd)(T:PC K C):FnOk P w K mg base CX0 1 fa fd ["self","part"] (zfC C) :=
 z.ok (k:=0) zi0 (λvs H Q E ⟨x,p,H0,st,g,e,_⟩=>by rw[e];rfl) λcdv A outer s H vs Q E O j=>by
  obtain⟨x,p,H0,st,g,e,r,I,J,q⟩:=j
  subst e
  refine⟨_,zA (Y3 uQ (W5 (yh (pv 0) rfl) (pv 1) Yv)) (yo (y0 (xl cG cM cR yw (yh (pv 0) rfl) (zm (pv 1) zy)))),?_⟩
  have r1:=r.setWaits (st.waits.set p true)
  refine⟨_,rfl,x,C,g.dx,_,_,rfl,r.ins,T.cl,T.n4,rfl,_,rfl,g.ws,_,_,p,rfl,rfl,r.ws,Uy (by rw[aN];exact I),?_⟩
  rw[show(st.waits.map V.bl).set p (V.bl true)=(st.waits.set p true).map V.bl from nj.symm]
  refine⟨_,rfl,x,C,g.dx,_,_,rfl,r1.ins,T.cl,T.n3,rfl,.inl ⟨rfl,_,SqL.of r1.wg⟩,_,rfl,g.wg,_,_,rfl,rfl,r1.wg,by rw[aN];exact J,?_⟩
  have r2:=r1.setWaiting (st.waiting++[p])
  refine q _ ?_
  rw[show zP st.waiting++[V.int (p:Int)]=zP (st.waiting++[p])from by simp]
  exact r2
abbrev Ua:aM:=YX 1
theorem zcB:FnScope ["self","part"] ["self"] (zq Ua):=⟨rfl,rfl,rfl,by decide+kernel,rfl,by decide+kernel,by decide+kernel⟩
def zko(C:aA):Sp:=λvs H Q _=>∃x p H0 st g,vs=[.ref x]/\Rep C H0 H x st g/\st.waiting.getLast?=some p/\p<st.waits.length/\p<st.parts.length/\
 ∀l H',H0 l=none->Rep C (upd H0 l (.lst (zP (st.parts.getD p [])))) H' x (Hop.take st p) g->Q (.ref l) H'
theorem zi1{P:aS}{w:aO}{K:aE}{mg:aC->Option aB}{base:aK}{fa C:aA}{fd:bQ}(Fn:Fun K "take_goals" "Parting.take_goals" Ua fa fd)(T:PC K C)(j:mg "list"=none):FnOk P w K mg base CX0 1 fa fd ["self"] (zko C) :=
 Fn.ok (k:=0) zcB (λvs H Q E ⟨x,p,H0,st,g,e,_⟩=>by rw[e];rfl) λcdv A outer s H vs Q E hr I=>by
  obtain⟨x,p,H0,st,g,e,r,U,hp,O,q⟩:=I
  subst e
  refine⟨_,zA (xp (i:=1) zcB.nd rfl (Or.inl rfl) (zjy cG oq PySem.F.type_list_pop zjz (yh (pv 0) rfl))) (zA (Y3 uQ (W5 (yh (pv 0) rfl) (pv 1) Yv)) (yo (vA (Zv (zc5 rfl) rfl j boot_list (zm (xA wr (yh (pv 0) rfl) (pv 1) (λ_ _=>rfl)) zy))))),?_⟩
  have aa:st.waiting≠[]:=λz=>by rw[z]at U;cases U
  have J:(zP st.waiting)[(zP st.waiting).length-1]?=some (V.int (p:Int)):=by
   rw[aY,aN,<-List.getLast?_eq_getElem?,U];rfl
  refine⟨_,rfl,x,C,g.dx,_,_,rfl,r.ins,T.cl,T.n3,rfl,.inl ⟨rfl,_,SqL.of r.wg⟩,g.wg,_,_,rfl,rfl,r.wg,J,?_⟩
  have r1:=r.setWaiting st.waiting.dropLast
  rw[show(zP st.waiting).dropLast=zP st.waiting.dropLast from List.map_dropLast.symm]
  refine⟨_,rfl,x,C,g.dx,_,_,rfl,r1.ins,T.cl,T.n4,rfl,_,rfl,g.ws,_,_,p,rfl,rfl,r1.ws,Uy (by rw[aN];exact hp),?_⟩
  rw[show(st.waits.map V.bl).set p (V.bl false)=(st.waits.set p false).map V.bl from nj.symm]
  have r2:=r1.setWaits (st.waits.set p false)
  have Z:g.ds[p]?=some (g.ds[p]'(by rw[r.len];exact O)):=by simp[r.len,O]
  refine⟨_,rfl,x,C,g.dx,_,_,rfl,r2.ins,T.cl,T.n2,rfl,_,rfl,g.pl,_,_,_,rfl,rfl,SqL.of r2.pl,xq (by rw[aY,Z];rfl),_,_,rfl,r2.ds p _ Z,λl R=>?_⟩
  have ek:kA (λY:Key×V=>kV Y.1) (wp (st.parts.getD p []))=zP (st.parts.getD p []):=by rw[cZ];rfl
  show Q (.ref l) (upd _ l (.lst (kA (λY:Key×V=>kV Y.1) (wp (st.parts.getD p [])))))
  rw[ek]
  exact q l _ (r2.sm.free R) (r2.ext R _)
abbrev Jx:aM:=YX 3
theorem Ub:FnScope ["self","part","stands","rest","fresh","stand"] ["self","part","stands"] (zq Jx):=⟨rfl,rfl,rfl,by decide+kernel,rfl,by decide+kernel,by decide+kernel⟩
def zlA(C:aA):Sp:=λvs H Q _=>∃x part l stands H0 st g n,vs=[.ref x,.int (part:Nat),.ref l]/\Rep C H0 H x st g/\H0 l=some (.lst (zP stands))/\Hop.Ok n st/\Hop.Cut n st part stands/\n<aH/\st.parts.length<aH/\st.waiting.length<aH/\
 ∀H' g',Rep C H0 H' x (Hop.yG st part stands) g'->Q .non H'
theorem zkp{P:aS}{w:aO}{K:aE}{mg:aC->Option aB}{base:aK}{fa fw C:aA}{fd fdw:bQ}(Fn:Fun K "part_off" "Parting.part_off" Jx fa fd)(T:PC K C)(hlen:mg "len"=none)(Fw:Fun K "let_wait" "Parting.let_wait" XE fw fdw)(mw:Meth K C "let_wait" fw):FnOk P w K mg base CX0 2 fa fd ["self","part","stands"] (zlA C) :=
 Fn.ok (k:=1) Ub (λvs H Q E ⟨x,part,l,stands,H0,st,g,n,e,_⟩=>by rw[e];rfl) λcdv A outer s H vs Q E hr hh73'=>by
  obtain⟨x,part,l,stands,H0,st,g,n,e,r,hs,ok,c,hn,hz,hw,q⟩:=hh73'
  subst e
  have bw:xk K fdw ["self","part"] []:=Fw.binds λ_ _ _ _ _ _ us hl=>by rcases us with _|⟨_,_|⟨_,_|⟨_,_⟩⟩⟩ <;>first|rfl|cases hl|(simp at hl)
  refine⟨_,zA (xp (i:=3) Ub.nd rfl (Or.inl rfl) (xA wr (yh (pv 0) rfl) (pv 1) (λ_ _=>rfl)))
   (zA (XH (ZY zk2 (xz zz rfl hlen bP (zm (pv 2) zy)) (xz Qs rfl hlen bP (zm (pv 3) zy)) (yF _)) (yo zh9) ZW)
   (zA (xp (i:=4) Ub.nd rfl (Or.inl rfl) (xz zz rfl hlen bP (zm (yh (pv 0) rfl) zy)))
   (zA (y0 (xl cG cM cR yw (yh (pv 0) rfl) (zm uk zy)))
   (zA (y0 (xl cG cM cR yw (yh (pv 0) rfl) (zm uQ zy)))
   (zA (uC cH rfl (XI (pv 2)) (xR (i:=5) Ub.nd rfl (Or.inl rfl)) (zA (y0 (zf9 (pv 3) (pv 5) ⟨rfl,rfl,rfl,rfl⟩)) (zA (Z8 (wB hr) (xA wr (yh (pv 0) rfl) (pv 4) (λ_ _=>rfl)) (pv 5) uQ rfl) (yo (Y3 (pv 4) (W5 (yh (pv 0) rfl) (pv 5) Yv))))))
   (yo (XH (PW.pt (zhI (W3 (xA wr (yh (pv 0) rfl) (pv 1) (λ_ _=>rfl))) (zeo (ZY W7 (xz zz rfl hlen bP (zm (pv 2) zy)) (xz Qs rfl hlen bP (zm (pv 3) zy)) (yF _)))))
    (yo (y0 (ZZ (pv 0) T.cl mw (zcA Fw T) hr bw .nil xK (zm (pv 4) zy)))) (yo (y0 (ZZ (pv 0) T.cl mw (zcA Fw T) hr bw .nil xK (zm (pv 1) zy))))))))))),?_⟩
  have hd:g.ds[part]?=some (g.ds[part]'(by rw[r.len];exact c.lt)):=by simp[r.len,c.lt]
  generalize hdp:g.ds[part]'(by rw[r.len];exact c.lt)=dp at hd
  refine⟨_,rfl,x,C,g.dx,_,_,rfl,r.ins,T.cl,T.n2,rfl,_,rfl,g.pl,_,_,.ref dp,rfl,rfl,SqL.of r.pl,xq (by rw[aY,hd];rfl),?_⟩
  have hl:H l=some (.lst (zP stands)):=r.sm _ _ hs
  refine⟨_,rfl,l,_,rfl,.inl (SqL.of hl),_,rfl,dp,_,rfl,r.ds part dp hd,rfl,_,rfl,?_⟩
  refine Y8 (λh=>?_) (λh=>?_)
  ·have h':=ziA h
   rw[aN,aN]at h'
   exact q H g (by rw[Hop.Vz h'];exact r)
  have h':=ziB h
  rw[aN,aN]at h'
  refine⟨_,rfl,x,C,g.dx,_,_,rfl,r.ins,T.cl,T.n2,rfl,g.pl,_,rfl,.inl (SqL.of r.pl),?_⟩
  refine⟨_,rfl,x,C,g.dx,_,_,rfl,r.ins,T.cl,T.n2,rfl,.inl ⟨rfl,_,SqL.of r.pl⟩,λd hd0=>⟨g.pl,_,_,rfl,rfl,by rw[ze (zt r.pl hd0)];exact r.pl,by rw[aN,r.len];exact hz,?_⟩⟩
  have r1:=r.addPart hd0
  rw[show g.ds.map V.ref++[V.ref d]=(g.ds++[d]).map V.ref from by simp]
  have hd1:(g.ds++[d])[part]?=some dp:=by rw[dF (by rw[r.len];exact c.lt)];exact hd
  have hdf:(g.ds++[d])[st.parts.length]?=some d:=by rw[<-r.len];simp
  have el:(g.ds.map V.ref).length=st.parts.length:=by rw[aN];exact r.len
  generalize hg1:({g with ds:=g.ds++[d]}:Ads)=g1 at r1
  have eds:g1.ds=g.ds++[d]:=by rw[<-hg1]
  rw[<-eds]at hd1 hdf
  have ews:g1.ws=g.ws:=by rw[<-hg1]
  have edx:g1.dx=g.dx:=by rw[<-hg1]
  refine⟨_,rfl,x,C,g1.dx,_,_,rfl,r1.ins,T.cl,T.n4,rfl,.inl ⟨rfl,_,SqL.of r1.ws⟩,g1.ws,_,_,rfl,rfl,r1.ws,by rw[aN,ok.wl];exact hz,?_⟩
  have r2:=r1.setWaits (st.waits++[false])
  rw[show st.waits.map V.bl++[V.bl false]=(st.waits++[false]).map V.bl from by simp]
  have r2':Rep C H0 (upd (upd (upd H d (.dK [])) g.pl (.lst ((g.ds++[d]).map V.ref))) g1.ws (.lst ((st.waits++[false]).map V.bl))) x (mid st part stands 0) g1:=by rw[zgi part stands c.lt];exact r2
  have hwl:st.waits.length=st.parts.length:=ok.wl
  refine⟨_,rfl,l,rfl,⟨_,SqL.of (r2'.sm _ _ hs)⟩,Yt (xs:=zP stands) (λi σ H=>(∃o,σ=[some (.ref x),some (.int (part:Int)),some (.ref l),some (.ref dp),some (.int (st.parts.length:Int)),o])/\Rep C H0 H x (mid st part stands i) g1)
   ⟨⟨none,by rw[el];rfl⟩,r2'⟩ (λi σ H _ p=>SqL.of (p.2.sm _ _ hs)) (λi v σ H hv p=>?_) (λσ H p=>?_)⟩
  ·obtain⟨⟨o,rfl⟩,r⟩:=p
   rw[aY]at hv
   obtain⟨s,hsi,rfl⟩:=eV.mp hv
   have hmem:s∈stands:=cE hsi
   have hnt:s∉stands.take i:=λz=>by
    obtain⟨j,hj⟩:=eW z
    rw[pR]at hj
    split at hj
    ·rename_i hji
     obtain⟨a1,a2⟩:=bE.mp hj
     obtain⟨b1,b2⟩:=bE.mp hsi
     have:=(gZ c.nd).mp (a2.trans b2.symm)
     omega
    ·cases hj
   have hin:s∈(mid st part stands i).parts.getD part []:=by
    rw[J9 c.lt,fU]
    exact⟨c.sub s hmem,by simpa using hnt⟩
   have hsn:s<n:=((ok.mem part s).mp (c.sub s hmem)).1
   refine⟨_,rfl,dp,rfl,.inl ⟨_,.inl (r.ds part dp hd1)⟩,_,rfl,_,Sum.inl (s:Int),V.bl true,r.ds part dp hd1,rfl,by rw[Xk,if_pos hin],?_⟩
   rw[YD]
   have r3:=r.setPart hd1 (((mid st part stands i).parts.getD part []).filter λt=>decide (t≠s))
   have hpf:part≠st.parts.length:=bT c.lt
   have ef:((mid st part stands i).parts.set part (((mid st part stands i).parts.getD part []).filter λt=>decide (t≠s))).getD st.parts.length []=stands.take i:=by
    rw[Hop.wY,if_neg λz=>hpf z.1,Qz]
   have hkd:=r3.ds st.parts.length d hdf
   rw[show({mid st part stands i with parts:=(mid st part stands i).parts.set part (((mid st part stands i).parts.getD part []).filter λt=>decide (t≠s))}:HS).parts.getD st.parts.length []=stands.take i from ef]at hkd
   refine⟨_,rfl,x,C,g1.dx,_,_,rfl,r3.ins,T.cl,T.n2,rfl,_,rfl,g1.pl,_,_,.ref d,rfl,rfl,SqL.of r3.pl,xq (by rw[aY,hdf];rfl),_,rfl,d,_,rfl,uI.k (k:=Sum.inl (s:Int)) hkd ?_,?_⟩
   ·rw[aN]
    have h1:(stands.take i).length<=stands.length:=List.length_take_le' _ _
    have h2:=Hop.yH (m:=aF n) c.nd λy hy=>bR.mpr ((ok.mem part y).mp (c.sub y hy)).1
    rw[cY]at h2
    omega
   rw[Qy hnt]
   have r4:=r3.setPart hdf (stands.take i++[s])
   refine⟨_,rfl,_,rfl,x,C,g1.dx,_,_,rfl,r4.ins,T.cl,T.n1,rfl,_,rfl,g1.po,_,_,s,rfl,rfl,r4.po,Uy ?_,?_⟩
   ·rw[aN]
    show s<(Hop.x8 st.partOf (stands.take i) st.parts.length).length
    rw[Hop.YB,ok.len];exact hsn
   have r5:=r4.setPartOf ((mid st part stands i).partOf.set s st.parts.length)
   rw[show(zP (mid st part stands i).partOf).set s (V.int (st.parts.length:Int))=zP ((mid st part stands i).partOf.set s st.parts.length)from nj.symm]
   refine⟨⟨_,rfl⟩,?_⟩
   rw[zgj c.lt hsi,Qz]
   exact r5
  ·obtain⟨⟨o,rfl⟩,r⟩:=p
   rw[aN]at r
   have hpw:part<(st.waits++[false]).length:=by rw[bM,hwl];have:=c.lt;omega
   have hfw:st.parts.length<(st.waits++[false]).length:=by rw[bM,hwl];simp
   have fin:∀w,(w=if(st.waits++[false]).getD part false=true\/stands.length<=((mid st part stands stands.length).parts.getD part []).length then st.parts.length else part)->w<(st.waits++[false]).length->zfC C [.ref x,.int (w:Nat)] H Q E0:=λw hw1 hw2=>
    ⟨x,w,H0,_,g1,rfl,r,hw2,hw,λH' r'=>q H' g1 (by rw[<-ziz c.lt h' hw1];exact r')⟩
   refine⟨_,rfl,x,C,g1.dx,_,_,rfl,r.ins,T.cl,T.n4,rfl,_,rfl,g1.ws,_,_,.bl ((st.waits++[false]).getD part false),rfl,rfl,SqL.of r.ws,xq (by rw[aY,show(mid st part stands stands.length).waits=st.waits++[false]from rfl,getD_some (d:=false) hpw];rfl),_,rfl,?_⟩
   refine Y8 (λhc=>?_) (λhc=>?_)
   ·refine zmD ⟨_,rfl,x,g1.dx,_,rfl,r.ins,rfl,_,rfl,fin st.parts.length (by rw[if_pos (.inl hc)]) hfw⟩
   ·refine⟨_,rfl,l,_,rfl,.inl (SqL.of (r.sm _ _ hs)),_,rfl,dp,_,rfl,r.ds part dp hd1,_,_,rfl,rfl,_,rfl,?_⟩
    refine Y8 (λhc2=>?_) (λhc2=>?_)
    ·have h2:stands.length<=((mid st part stands stands.length).parts.getD part []).length:=by
      have:=of_decide_eq_true hc2
      rw[aN,aN]at this
      omega
     exact⟨_,rfl,x,g1.dx,_,rfl,r.ins,rfl,_,rfl,fin st.parts.length (by rw[if_pos (.inr h2)]) hfw⟩
    ·have h2:¬stands.length<=((mid st part stands stands.length).parts.getD part []).length:=λz=>hc2 (decide_eq_true (by
      rw[aN,aN];omega))
     exact⟨_,rfl,x,g1.dx,_,rfl,r.ins,rfl,_,rfl,fin part (by rw[if_neg λz=>z.elim hc h2]) hpw⟩
end Pt
namespace Pq
open PySem PySem.Spec L2 DD
open PyProof.Rows hiding St
open Pt (zP getD_some yI yj top Wi)
open Hop (zW)
def YX(i:Nat):aM:=(Pt.Wi (Pt.top 51)).getD i (.Pass ⟨0,0,0,0⟩)
abbrev Wj:aM:=YX 1
theorem zfD:FnScope ["self","stand","other","pair"] ["self","stand","other"] (zq Wj):=⟨rfl,rfl,rfl,by decide+kernel,rfl,by decide+kernel,by decide+kernel⟩
def wC(p:Par)(st:PSt)(s t:Nat):PSt:=if s*p.r2.length+t∈st.me then st else {st with nu:=st.nu++[s*p.r2.length+t],me:=st.me++[s*p.r2.length+t],mr:=st.mr++[xQ p s t]}
def zd0(K:aE)(C:aA):Sp:=λvs H Q _=>∃x s t p B F st g,vs=[.ref x,.int (s:Nat),.int (t:Nat)]/\Rep K C p B F H x st g/\st.nu=st.me/\s<p.b1.length/\t<p.b2.length/\p.r2.length<2^22/\st.me.length<aH/\st.mr.length<aH/\
 ∀H' F',zw F F'->Rep K C p B F' H' x (wC p st s t) g->Q (.int (((wC p st s t).me.idxOf (s*p.r2.length+t):Nat):Int)) H'
theorem zfE{P:aS}{w:aO}{K:aE}{mg:aC->Option aB}{base:aK}{fa C:aA}{fd:bQ}(Fn:Fun K "number_of" "Pairs.number_of" Wj fa fd)(T:PCl K C)(hlen:mg "len"=none):FnOk P w K mg base CX0 1 fa fd ["self","stand","other"] (zd0 K C) :=
 Fn.ok (k:=0) zfD (λvs H Q E ⟨x,s,t,p,B,F,st,g,e,_⟩=>by rw[e];rfl) λcdv A outer sh H vs Q E hr hh74'=>by
  obtain⟨x,s,t,p,B,F,st,g,e,r,hnm,hs,ht,hn2,hz,hz2,q⟩:=hh74'
  subst e
  refine⟨_,zA (xp (i:=3) zfD.nd rfl (Or.inl rfl) (zcI zeq (zcI uD (pv 1) (xz zz rfl hlen bP (zm (yh (pv 0) rfl) zy))) (pv 2)))
   (zA (XH (zen (Qr (wB hr) (pv 3) (yh (pv 0) rfl)))
    (zA (Z8 (wB hr) (yh (pv 0) rfl) (pv 3) (xz zz rfl hlen bP (zm (yh (pv 0) rfl) zy)) rfl)
    (zA (y0 (xl cG cM cR yw (yh (pv 0) rfl) (zm (pv 3) zy)))
    (yo (y0 (xl cG cM cR yw (yh (pv 0) rfl) (zm (Uk (zka (uj hr)) (zex (zm (xA wr (yh (pv 0) rfl) (pv 1) (λ_ _=>rfl)) (zm (xA wr (yh (pv 0) rfl) (pv 2) (λ_ _=>rfl)) zy))) (yh (pv 0) rfl) (by with_unfolding_all rfl)) zy)))))) ZW)
   (yo (vA (Ut (wB hr) (yh (pv 0) rfl) (pv 3) (λ_ _=>rfl))))),?_⟩
  obtain⟨rs2,hr2,hl2,_⟩:=id r.w2
  have hcm:JC (s:Int) (p.r2.length:Int):=.inr (by constructor <;>omega)
  refine⟨_,rfl,_,rfl,x,C,g.dx,_,_,rfl,r.ins,T.cl,T.n3,rfl,g.r2,_,rfl,.inr (SqT.of (r.sm _ _ hr2)),_,(p.r2.length:Int),rfl,by rw[aN,hl2],hcm,_,rfl,_,_,rfl,rfl,?_⟩
  show vm 3 (V.int ((s*p.r2.length+t:Nat):Int)) _ H _
  generalize hpr:s*p.r2.length+t=pr at q
  refine⟨_,rfl,_,rfl,x,C,g.dx,_,_,rfl,r.ins,T.cl,T.n6,rfl,g.nu,_,rfl,wh.k (k:=Sum.inl (pr:Int)) r.nu,_,rfl,?_⟩
  refine Y8 (λhc=>?_) (λhc=>?_)
  ·have hnot:pr∉st.me:=λz=>by
    rw[ur,hnm,if_pos z]at hc;cases hc
   have en:wC p st s t={st with nu:=st.nu++[pr],me:=st.me++[pr],mr:=st.mr++[xQ p s t]}:=by
    unfold wC;rw[hpr,if_neg hnot]
   rw[en]at q
   refine⟨_,rfl,x,C,g.dx,_,_,rfl,r.ins,T.cl,T.n7,rfl,g.me,_,rfl,.inl (SqL.of r.me),_,rfl,x,C,g.dx,_,_,rfl,r.ins,T.cl,T.n6,rfl,_,rfl,g.nu,_,rfl,uI.k (k:=Sum.inl (pr:Int)) r.nu ?_,?_⟩
   ·rw[zaH,hnm];exact hz
   have el:(zP st.me).length=st.nu.length:=by rw[aN,hnm]
   have hnot':pr∉st.nu:=by rw[hnm];exact hnot
   have r1:=r.setNu (st.nu++[pr])
   rw[el,zgG hnot']
   have r2:=r1.setMe (st.me++[pr])
   refine⟨_,rfl,x,C,g.dx,_,_,rfl,r1.ins,T.cl,T.n7,rfl,.inl ⟨rfl,_,SqL.of r1.me⟩,_,rfl,g.me,_,_,rfl,rfl,r1.me,by rw[aN];exact hz,?_⟩
   rw[show zP st.me++[V.int (pr:Int)]=zP (st.me++[pr])from by simp]
   have hb1:=r2.sm _ _ r2.b1
   have hb2:=r2.sm _ _ r2.b2
   refine⟨_,rfl,x,C,g.dx,_,_,rfl,r2.ins,T.cl,T.n8,rfl,.inl ⟨rfl,_,SqL.of r2.mr⟩,_,rfl,x,C,g.dx,_,_,rfl,r2.ins,T.cl,T.n2,rfl,_,rfl,g.m1,_,_,.bl (p.b1.getD s false),rfl,rfl,SqL.of hb1,xq (by rw[aY,getD_some (d:=false) hs];rfl),_,rfl,x,C,g.dx,_,_,rfl,r2.ins,T.cl,T.n4,rfl,_,rfl,g.m2,_,_,.bl (p.b2.getD t false),rfl,rfl,SqL.of hb2,xq (by rw[aY,getD_some (d:=false) ht];rfl),?_⟩
   refine⟨by show 2<=aH;decide,λtp htp=>?_⟩
   have r3:=r2.ext htp (.tup [.bl (p.b1.getD s false),.bl (p.b2.getD t false)])
   have r4:=r3.setMk (st.mr++[xQ p s t])
   refine⟨_,rfl,x,C,g.dx,_,_,rfl,r3.ins,T.cl,T.n5,rfl,tp,g.wn,p.wt,_,_,rfl,zk,rfl,r.wn,g.mr,_,_,rfl,rfl,r3.mr,by rw[aN];exact hz2,?_⟩
   rw[show st.mr.map V.bl++[V.bl (p.wt.any λq=>q==(p.b1.getD s false,p.b2.getD t false))]=(st.mr++[xQ p s t]).map V.bl from by rw[cL];rfl]
   refine⟨_,rfl,x,C,g.dx,_,_,rfl,r4.ins,T.cl,T.n6,rfl,_,rfl,g.nu,V.int (((st.me++[pr]).idxOf pr:Nat):Int),rfl,?_,q _ _ (zK (r2.sm.free htp) _) r4⟩
   have hd:=wh.k (k:=Sum.inl (pr:Int)) r4.nu
   have e2:st.nu++[pr]=st.me++[pr]:=by rw[hnm]
   rw[show(PSt.nu {nu:=st.nu++[pr],me:=st.me++[pr],mr:=st.mr++[xQ p s t],rs:=st.rs,rows:=st.rows})=st.me++[pr]from e2,ur,if_pos (by simp),dQ]at hd
   exact hd
  ·have hin:pr∈st.me:=by
    refine jW λz=>hc ?_
    rw[ur,hnm,if_neg z];rfl
   have en:wC p st s t=st:=by unfold wC;rw[hpr,if_pos hin]
   rw[en]at q
   have hd:=wh.k (k:=Sum.inl (pr:Int)) r.nu
   rw[hnm,ur,if_pos hin,dQ]at hd
   exact⟨_,rfl,x,C,g.dx,_,_,rfl,r.ins,T.cl,T.n6,rfl,_,rfl,g.nu,_,rfl,hd,q _ _ (zw.refl _) r⟩
end Pq
namespace Pq
open PySem PySem.Spec L2 DD
open PyProof.Rows hiding St
open Pt (zP getD_some yI yj top Wi)
open Hop (zW prR wc vf OkR BI)
abbrev Uc:aM:=YX 2
theorem zi2:FnScope ["self"] ["self"] (zq Uc):=⟨rfl,rfl,rfl,by decide+kernel,rfl,by decide+kernel,by decide+kernel⟩
def zkq(K:aE)(C:aA):Sp:=λvs H Q _=>∃x p B F st g,vs=[.ref x]/\Rep K C p B F H x st g/\Q (.bl (decide (st.rows.length<st.me.length))) H
theorem zi3{P:aS}{w:aO}{K:aE}{mg:aC->Option aB}{base:aK}{fa C:aA}{fd:bQ}(I:Fun K "has_more" "Pairs.has_more" Uc fa fd)(T:PCl K C)(j:mg "len"=none):FnOk P w K mg base CX0 1 fa fd ["self"] (zkq K C) :=
 I.ok (k:=0) zi2 (λvs H Q E ⟨x,p,B,F,st,g,e,_⟩=>by rw[e];rfl) λcdv A outer J H vs Q E O z=>by
  obtain⟨x,p,B,F,st,g,e,r,q⟩:=z
  subst e
  refine⟨_,yo (vA (Uk XJ (xz zz rfl j bP (zm (yh (pv 0) rfl) zy)) (xz zz rfl j bP (zm (yh (pv 0) rfl) zy)) (yF _))),?_⟩
  refine⟨_,rfl,x,C,g.dx,_,_,rfl,r.ins,T.cl,T.n9,rfl,g.ro,_,rfl,.inl (SqL.of r.ro),_,rfl,x,C,g.dx,_,_,rfl,r.ins,T.cl,T.n7,rfl,g.me,_,rfl,.inl (SqL.of r.me),_,_,rfl,rfl,?_⟩
  have e:decide (((st.rs.map V.ref).length:Int)<((zP st.me).length:Int))=decide (st.rows.length<st.me.length):=by
   rw[aN,aN,r.rl]
   exact decide_eq_decide.mpr (by omega)
  show Q (.bl (decide (((st.rs.map V.ref).length:Int)<((zP st.me).length:Int)))) H
  rw[e]
  exact q
abbrev zd1:aM:=YX 3
theorem Jy:FnScope ["self","pair","row","other_row"] ["self"] (zq zd1):=⟨rfl,rfl,rfl,by decide+kernel,rfl,by decide+kernel,by decide+kernel⟩
structure Sta (p:Par) (st:PSt) (A k:Nat):Prop where
 ok1:OkR A p.r1
 ok2:OkR A p.r2
 l1:p.b1.length=p.r1.length
 l2:p.b2.length=p.r2.length
 nm:st.nu=st.me
 bi:BI (prR p.r1 p.r2).length A (Hop.dl (prR p.r1 p.r2)) k 0 st.me
 mr:st.mr=st.me.map λq=>xQ p (q/p.r2.length) (q%p.r2.length)
 rw:st.rows=vf (prR p.r1 p.r2) st.me k
 sz:p.r1.length*p.r2.length<2^22
 az:A<2^22
def zmU(K:aE)(C:aA):Sp:=λvs H Q _=>∃x p B F st g A k,vs=[.ref x]/\Rep K C p B F H x st g/\Sta p st A k/\k<st.me.length/\
 ∀H' F' j,zw F F'->Rep K C p B F' H' x j g->Sta p j A (k+1)->j.me=wc (prR p.r1 p.r2) st.me k->Q .non H'
theorem zbj:∀(j o:List Nat),(j.foldl zW o).length<=o.length+j.length
 | [],o=>aP _
 | a::r,o=>by
  have h1:=zbj r (zW o a)
  have h2:(zW o a).length<=o.length+1:=by unfold zW;split <;>simp
  show(r.foldl zW (zW o a)).length<=_
  rw[cD];omega
theorem zcC{p:Par}{st:PSt}{s t:Nat}:(wC p st s t).me=zW st.me (s*p.r2.length+t):=by
 unfold wC zW;split <;>rfl
theorem zi4{p:Par}{st:PSt}{s t:Nat}(h:st.nu=st.me):(wC p st s t).nu=(wC p st s t).me:=by
 unfold wC;split
 ·exact h
 ·show st.nu++_=st.me++_;rw[h]
theorem zi5{p:Par}{st:PSt}{s t:Nat}(ht:t<p.r2.length)(h:st.mr=st.me.map λq=>xQ p (q/p.r2.length) (q%p.r2.length)):(wC p st s t).mr=(wC p st s t).me.map λq=>xQ p (q/p.r2.length) (q%p.r2.length):=by
 unfold wC;split
 ·exact h
 ·show st.mr++_=(st.me++_).map _
  rw[cL,h,ni,(Hop.Yi ht).1,(Hop.Yi ht).2]
theorem zcD{p:Par}{st:PSt}{s t:Nat}:(wC p st s t).rs=st.rs/\(wC p st s t).rows=st.rows:=by
 unfold wC;split <;>exact⟨rfl,rfl⟩
theorem zhd{K:aE}{C:aA}{B F H:Hp}{x:aA}{p:Par}{st:PSt}{g:Ads}{A:Nat}{a1 a2:aA}{row1 row2:List Nat}(r:Rep K C p B F H x st g)(h1:F a1=some (.tup (zP row1)))(h2:F a2=some (.tup (zP row2)))(l1:row1.length=A)(l2:row2.length=A) 
  (lb1:p.b1.length=p.r1.length) (lb2:p.b2.length=p.r2.length) (lt1:∀i,i<A->row1.getD i 0<p.r1.length) (lt2:∀i,i<A->row2.getD i 0<p.r2.length) (hz:p.r2.length<2^22) (hA:A<2^22) (hm:st.me.length<=2^22)
  (nm:st.nu=st.me) (mr:st.mr=st.me.map λq=>xQ p (q/p.r2.length) (q%p.r2.length)) {Fin:List V->Hp->Prop}
  (h:∀F' H' st',zw F F'->Rep K C p B F' H' x st' g->st'.me=(Hop.wz p.r2.length row1 row2).foldl zW st.me->st'.nu=st'.me->(st'.mr=st'.me.map λq=>xQ p (q/p.r2.length) (q%p.r2.length))->st'.rs=st.rs->st'.rows=st.rows->Fin (zP ((Hop.wz p.r2.length row1 row2).map st'.me.idxOf)) H') :
  Vc (Itz (λH xs=>SqT K H a1 xs) λH ys=>SqT K H a2 ys) (zfL K 2 (W4 (vm 0) (W4 (vm 1) zfK))) Z1 (Jc C "number_of" (zd0 K C) [] E0 (vN 2) (uw (vN 0) (uw (vN 1) Yu))) [none,none,some (.ref x)] H Fin:=by
 have gl:(Hop.wz p.r2.length row1 row2).length=A:=Hop.zaB l1 l2
 have szl:aH=16777216:=rfl
 refine⟨λi m ys H1=>m=A-i/\i<=A/\∃F1 st1,zw F F1/\Rep K C p B F1 H1 x st1 g/\st1.me=((Hop.wz p.r2.length row1 row2).take i).foldl zW st.me/\st1.nu=st1.me/\(st1.mr=st1.me.map λq=>xQ p (q/p.r2.length) (q%p.r2.length))/\st1.rs=st.rs/\st1.rows=st.rows/\ys=zP (((Hop.wz p.r2.length row1 row2).take i).map st1.me.idxOf),
  ⟨A,by simp,dJ _,F,st,zw.refl _,r,rfl,nm,mr,rfl,rfl,rfl⟩,?_⟩
 rintro i m ys H1 ⟨rfl,hi,F1,st1,sm1,r1,me1,nm1,mr1,rs1,rw1,rfl⟩
 have hyl:(zP (((Hop.wz p.r2.length row1 row2).take i).map st1.me.idxOf)).length=i:=by simp[gl];omega
 refine⟨by rw[hyl];omega,?_⟩
 have s1:SqT K H1 a1 (zP row1):=SqT.of (r1.sm _ _ (sm1 _ _ h1))
 have s2:SqT K H1 a2 (zP row2):=SqT.of (r1.sm _ _ (sm1 _ _ h2))
 by_cases hlt:i<A
 ·have e1:(zP row1)[i]?=some (.int (row1.getD i 0:Nat)):=by rw[aY,getD_some (d:=0) (show i<row1.length by omega)];rfl
  have e2:(zP row2)[i]?=some (.int (row2.getD i 0:Nat)):=by rw[aY,getD_some (d:=0) (show i<row2.length by omega)];rfl
  refine .inr ⟨⟨_,_,_,_,s1,s2,e1,e2⟩,λy H' yl=>?_⟩
  obtain⟨T,u,v,hT,rfl,rfl,hu,hv⟩:=yl
  have eu:=(hu _ s1).symm.trans e1
  have ev:=(hv _ s2).symm.trans e2
  cases eu
  cases ev
  have r2:=r1.ext hT (.tup [.int (row1.getD i 0:Nat),.int (row2.getD i 0:Nat)])
  have smT:zw F1 (upd F1 T (.tup [.int (row1.getD i 0:Nat),.int (row2.getD i 0:Nat)])):=zK (r1.sm.free hT) _
  have ml:st1.me.length<=2^22+A:=by
   rw[me1]
   have:=zbj ((Hop.wz p.r2.length row1 row2).take i) st.me
   rw[iP,gl]at this
   omega
  have hmrl:st1.mr.length=st1.me.length:=by rw[mr1,aN]
  have et:(Hop.wz p.r2.length row1 row2).take (i+1)=(Hop.wz p.r2.length row1 row2).take i++[row1.getD i 0*p.r2.length+row2.getD i 0]:=by
   rw[iG (by omega),<-Hop.xW (by omega),Hop.zaC l1 l2 hlt]
  have men:(wC p st1 (row1.getD i 0) (row2.getD i 0)).me=((Hop.wz p.r2.length row1 row2).take (i+1)).foldl zW st.me:=by
   rw[zcC,me1,et,iX];rfl
  refine⟨T,_,rfl,SqT.of zk,rfl,_,_,rfl,_,_,rfl,rfl,⟨rfl,λj v hj=>?_⟩,(show _ from ?_)⟩
  ·match j,hj with
   | 0,hj=>simp at hj
   | 1,hj=>simp at hj
   | 2,hj=>exact hj
   | j+3,hj=>simp at hj
  ·refine⟨_,rfl,x,g.dx,_,rfl,r2.ins,rfl,_,rfl,_,rfl,x,row1.getD i 0,row2.getD i 0,p,B,_,st1,g,rfl,r2,nm1,by rw[lb1];exact lt1 i hlt,by rw[lb2];exact lt2 i hlt,hz,by omega,by omega,λH3 F3 sm3 r3=>⟨by rw[hyl];omega,A-(i+1),by omega,rfl,hlt,F3,_,(sm1.trans smT).trans sm3,r3,men,zi4 nm1,zi5 (lt2 i hlt) mr1,zcD.1.trans rs1,zcD.2.trans rw1,?_⟩⟩
   have pre:st1.me<+: (wC p st1 (row1.getD i 0) (row2.getD i 0)).me:=by rw[zcC];exact Hop.Y0
   rw[et,cL,ni]
   have em:((Hop.wz p.r2.length row1 row2).take i).map (wC p st1 (row1.getD i 0) (row2.getD i 0)).me.idxOf=((Hop.wz p.r2.length row1 row2).take i).map st1.me.idxOf:=dC λq hq=>Hop.XZ pre (by rw[me1];exact Hop.zaE _ _ hq)
   rw[em]
   show _=kA _ (_++_)
   rw[cL]
   rfl
 ·have e:i=A:=by omega
  subst e
  refine .inl ⟨⟨_,_,s1,s2,.inl (by simp[zP,l1])⟩,?_⟩
  rw[nq (by omega)]at me1 ⊢
  exact h F1 H1 st1 sm1 r1 me1 nm1 mr1 rs1 rw1
theorem zlB{P:aS}{w:aO}{K:aE}{mg:aC->Option aB}{base:aK}{fa fn C:aA}{fd dn:bQ}(Fn:Fun K "go_on" "Pairs.go_on" zd1 fa fd)(T:PCl K C)(hlen:mg "len"=none)(hdm:mg "divmod"=none)(hzip:mg "zip"=none)(htup:mg "tuple"=none) 
  (Nm:Fun K "number_of" "Pairs.number_of" Wj fn dn) (mn:Meth K C "number_of" fn):FnOk P w K mg base CX0 2 fa fd ["self"] (zmU K C) :=
 Fn.ok (k:=1) Jy (λvs H Q E ⟨x,p,B,F,st,g,A,k,e,_⟩=>by rw[e];rfl) λcdv A0 outer sh H vs Q E hr hh76'=>by
  obtain⟨x,p,B,F,st,g,A,k,e,r,S,hk,q⟩:=hh76'
  subst e
  have bn:xk K dn ["self","stand","other"] []:=Nm.binds λ_ _ _ _ _ _ us hl=>match us,hl with|[_,_,_],_=>rfl
  refine⟨_,zA (xp (i:=1) Jy.nd rfl (Or.inl rfl) (xz zbt rfl hdm boot_divmod (zm (xA wr (yh (pv 0) rfl) (xz zz rfl hlen bP (zm (yh (pv 0) rfl) zy)) (λ_ _=>rfl)) (zm (xz zz rfl hlen bP (zm (yh (pv 0) rfl) zy)) zy))))
   (zA (xp (i:=2) Jy.nd rfl (Or.inl rfl) (xA w5 (yh (pv 0) rfl) (xA w5 (pv 1) wk (λ_ _=>rfl)) (λ_ _=>rfl)))
   (zA (xp (i:=3) Jy.nd rfl (Or.inl rfl) (xA w5 (yh (pv 0) rfl) (xA w5 (pv 1) wk (λ_ _=>rfl)) (λ_ _=>rfl)))
   (yo (y0 (xl cG cM cR yw (yh (pv 0) rfl) (zm (Zv yx rfl htup dW (zm (zbQ (N:=["stand","other","self"]) (ms:=[none,none,some 0]) (g:=zfL K 2 (W4 (vm 0) (W4 (vm 1) zfK))) (tf:=Z1) (te:=Jc C "number_of" (zd0 K C) [] E0 (vN 2) (uw (vN 0) (uw (vN 1) Yu))) rfl (CompOk.of (by rfl)) (ziM rfl hzip (zm (pv 2) (zm (pv 3) zy)))
    (by
     intro cl C1 s1 H1 ex
     exact⟨Y2 rfl (wU (xR (i:=0) (show(["stand","other","self"]:List aC).Nodup by decide+kernel) rfl (Or.inl rfl)) (wU (xR (i:=1) (show(["stand","other","self"]:List aC).Nodup by decide+kernel) rfl (Or.inl rfl)) ZX)),Vb,ZZ (pv 2) T.cl mn (zfE Nm T hlen) hr bn .nil xK (zm (pv 0) (zm (pv 1) zy))⟩)) zy)) zy)))))),?_⟩
  obtain⟨rs1,hr1,hl1,hrow1⟩:=id r.w1
  obtain⟨rs2,hr2,hl2,hrow2⟩:=id r.w2
  have hkr:st.rows.length=k:=by rw[S.rw];exact Hop.QM (fI hk)
  have hlr:(st.rs.map V.ref).length=k:=by rw[aN,r.rl,hkr]
  have hpl:st.me.getD k 0<p.r1.length*p.r2.length:=by
   have:=S.bi.lt _ (Hop.wj hk)
   rwa [Hop.uo]at this
  obtain⟨hd1,hd2⟩:=Hop.YI S.ok2 hpl
  refine⟨_,rfl,x,C,g.dx,_,_,rfl,r.ins,T.cl,T.n7,rfl,_,rfl,x,C,g.dx,_,_,rfl,r.ins,T.cl,T.n9,rfl,g.ro,_,rfl,.inl (SqL.of r.ro),g.me,_,_,.int (st.me.getD k 0:Nat),rfl,rfl,SqL.of r.me,?_,_,rfl,x,C,g.dx,_,_,rfl,r.ins,T.cl,T.n3,rfl,g.r2,_,rfl,.inr (SqT.of (r.sm _ _ hr2)),(st.me.getD k 0:Int),(p.r2.length:Int),by rw[aN,hl2],?_,λtp htp=>?_⟩
  ·rw[hlr]
   exact xq (by rw[aY,getD_some (d:=0) hk];rfl)
  ·have h1:=S.ok1.pos
   have h2:=S.ok2.pos
   have:=S.sz
   have:1*p.r2.length<=p.r1.length*p.r2.length:=iY _ h1
   exact⟨by omega,by omega⟩
  have r1:=r.ext htp (.tup [.int ((st.me.getD k 0/p.r2.length:Nat):Int),.int ((st.me.getD k 0%p.r2.length:Nat):Int)])
  generalize hp1:st.me.getD k 0/p.r2.length=s1 at r1 hd1
  generalize hp2:st.me.getD k 0%p.r2.length=t1 at r1 hd2
  have eH:upd H tp (HO.tup [V.int ((st.me.getD k 0:Int)/(p.r2.length:Int)),V.int ((st.me.getD k 0:Int)%(p.r2.length:Int))])=upd H tp (.tup [.int (s1:Int),.int (t1:Int)]):=by rw[<-hp1,<-hp2];rfl
  rw[eH]
  have hrs1:rs1[s1]?=some (rs1[s1]'(by rw[hl1];exact hd1)):=bK _
  have hrs2:rs2[t1]?=some (rs2[t1]'(by rw[hl2];exact hd2)):=bK _
  generalize rs1[s1]'(by rw[hl1];exact hd1)=a1 at hrs1
  generalize rs2[t1]'(by rw[hl2];exact hd2)=a2 at hrs2
  have smF:zw F (upd F tp (.tup [.int (s1:Int),.int (t1:Int)])):=zK (r.sm.free htp) _
  refine⟨_,rfl,x,C,g.dx,_,_,rfl,r1.ins,T.cl,T.n1,rfl,_,rfl,tp,_,_,.int (s1:Int),rfl,rfl,SqT.of zk,rfl,g.r1,_,_,.ref a1,rfl,rfl,SqT.of (r1.sm _ _ (smF _ _ hr1)),xq (by rw[aY,hrs1];rfl),?_⟩
  refine⟨_,rfl,x,C,g.dx,_,_,rfl,r1.ins,T.cl,T.n3,rfl,_,rfl,tp,_,_,.int (t1:Int),rfl,rfl,SqT.of zk,rfl,g.r2,_,_,.ref a2,rfl,rfl,SqT.of (r1.sm _ _ (smF _ _ hr2)),xq (by rw[aY,hrs2];rfl),?_⟩
  have hw1:=smF _ _ (hrow1 s1 a1 hrs1)
  have hw2:=smF _ _ (hrow2 t1 a2 hrs2)
  have le1:=S.ok1.len s1 hd1
  have le2:=S.ok2.len t1 hd2
  have hz2:p.r2.length<2^22:=by
   have h1:=S.ok1.pos
   have:=S.sz
   have:1*p.r2.length<=p.r1.length*p.r2.length:=iY _ h1
   omega
  have hme:st.me.length<=2^22:=by
   have:=Hop.zaF S.bi
   rw[Hop.uo]at this
   have:=S.sz
   omega
  have epr:(prR p.r1 p.r2).getD (st.me.getD k 0) []=Hop.wz p.r2.length (p.r1.getD s1 []) (p.r2.getD t1 []):=by rw[Hop.UH hpl,hp1,hp2]
  refine⟨_,rfl,x,C,g.dx,_,_,rfl,r1.ins,T.cl,T.n9,rfl,.inl ⟨rfl,_,SqL.of r1.ro⟩,_,rfl,_,rfl,a1,a2,rfl,⟨_,SqT.of (r1.sm _ _ hw1)⟩,⟨_,SqT.of (r1.sm _ _ hw2)⟩,?_⟩
  refine zhd r1 hw1 hw2 le1 le2 S.l1 S.l2 (λi hi=>S.ok1.lt i s1 hi hd1) (λi hi=>S.ok2.lt i t1 hi hd2) hz2 S.az hme S.nm S.mr λF2 H2 st2 sm2 r2 me2 nm2 mr2 rs2' rw2 l hl=>?_
  rw[<-epr]at me2
  have r3:=r2.ext hl (.lst (zP ((Hop.wz p.r2.length (p.r1.getD s1 []) (p.r2.getD t1 [])).map st2.me.idxOf)))
  refine⟨l,_,rfl,.inl ⟨SqL.of zk,λtu htu=>?_⟩⟩
  have r4:=r3.ext htu (.tup (zP ((Hop.wz p.r2.length (p.r1.getD s1 []) (p.r2.getD t1 [])).map st2.me.idxOf)))
  have r5:=r4.setRo (t:=tu) (row:=(Hop.wz p.r2.length (p.r1.getD s1 []) (p.r2.getD t1 [])).map st2.me.idxOf) zk (r3.bs.free (r3.sm.free htu))
  have hrl:(st2.rs.map V.ref).length<aH:=by
   have szl:aH=16777216:=rfl
   rw[aN,rs2',r.rl,hkr];omega
  refine⟨g.ro,_,_,rfl,rfl,r4.ro,hrl,?_⟩
  rw[show st2.rs.map V.ref++[V.ref tu]=(st2.rs++[tu]).map V.ref from by simp]
  refine q _ _ _ ?_ r5 ?_ me2
  ·have s3:zw F2 _:=zK (r2.sm.free hl) (.lst (zP ((Hop.wz p.r2.length (p.r1.getD s1 []) (p.r2.getD t1 [])).map st2.me.idxOf)))
   exact((smF.trans sm2).trans s3).trans (zK (r3.sm.free htu) _)
  ·refine⟨S.ok1,S.ok2,S.l1,S.l2,nm2,?_,mr2,?_,S.sz,S.az⟩
   ·show BI _ A _ (k+1) 0 st2.me
    rw[me2]
    exact Hop.zgD (Hop.Xw S.ok1 S.ok2) S.bi hk
   ·show st2.rows++[_]=vf _ st2.me (k+1)
    have me2':st2.me=wc (prR p.r1 p.r2) st.me k:=me2
    rw[rw2,S.rw,me2',<-Hop.zdo (Hop.Xw S.ok1 S.ok2) S.bi hk,epr]
end Pq
namespace Pq
open PySem PySem.Spec L2 DD
open PyProof.Rows hiding St
open Pt (zP getD_some yI yj wy xt XU YE)
open Hop (zW prR wc vf OkR BI)
theorem zbk{K:aE}{F:Hp}{v:V}{A:Int}{R:List D}{U:D}{rows:List (List Nat)}(h:Is K F (.tup [.int A,.tup R,U]) v)(Y:wy R=some rows):∃q z I,v=.ref q/\F q=some (.tup [.int A,.ref z,I])/\Rw F z rows:=by
 simp only[Is]at h
 obtain⟨q,vs,rfl,Z,j⟩:=h
 obtain⟨v1,q1,rfl,i1,j⟩:=j.inv
 obtain⟨v2,q2,rfl,i2,j⟩:=j.inv
 obtain⟨I,q3,rfl,i3,j⟩:=j.inv
 cases j.inv0
 simp only[Is]at i1 i2
 obtain⟨z,ws,rfl,J,O⟩:=i2
 obtain⟨rs,rfl,e2,e3⟩:=XU Y O
 subst i1
 exact⟨q,z,I,rfl,Z,rs,J,e2,e3⟩
structure Ini (C:aA) (B F H:Hp) (x dx:aA) (fs:List (aC×V)):Prop where
 bs:zw B F
 sm:zw F H
 hx:H x=some (.ins C dx fs)
 f0:F x=none
section
variable {C:aA} {B F H F' H':Hp} {x dx:aA} {fs fs':List (aC×V)}
theorem Ini.put(i:Ini C B F H x dx fs)(fs':List (aC×V)):Ini C B F (upd H x (.ins C dx fs')) x dx fs':=⟨i.bs,yI i.sm i.f0 _,zk,i.f0⟩
theorem Ini.call(i:Ini C B F H x dx fs)(e:Ext F H F' H'):Ini C B F' H' x dx fs:=⟨i.bs.trans e.ff,e.fh,e.hh _ _ i.hx,by
 cases h:F' x with
 | none=>rfl
 | some o=>exact absurd (e.new x i.f0 (by rw[h];exact λz=>nomatch z)) (by rw[i.hx];exact λz=>nomatch z)⟩
theorem Ini.new(i:Ini C B F H x dx fs)(j:H a=none)(o:HO):Ini C B F (upd H a o) x dx fs:=⟨i.bs,λb u q=>by rw[ze (zt (i.sm _ _ q) j)];exact i.sm _ _ q,by rw[ze (zt i.hx j)];exact i.hx,i.f0⟩
theorem Wl(i:Ini C B F H x dx fs)(j:H a=none)(o:HO)(fs':List (aC×V)):upd (upd H a o) x (.ins C dx fs') a=some o:=(ze (aQ (zt i.hx j))).trans zk
theorem u8(i:Ini C B F H x dx fs)(q:H a=none)(o:HO)(fs':List (aC×V))(j:H b=some u)(z:b≠x):upd (upd H a o) x (.ins C dx fs') b=some u:=(ze z).trans ((ze (zt j q)).trans j)
end
abbrev uc:aM:=YX 0
theorem Za:FnScope ["self","one","other","wanted"] ["self","one","other","wanted"] (zq uc):=⟨rfl,rfl,rfl,by decide+kernel,rfl,by decide+kernel,by decide+kernel⟩
def zbl(K:aE)(C:aA)(j:List D->Option D):Sp:=λvs H Q _=>∃x dx q z I p A B F R1 R2 g1 g2 J O,vs=[.ref x,q,z,.ref I]/\Ini C B F H x dx []/\Is K F (.tup [.int (A:Nat),.tup R1,g1]) q/\Is K F (.tup [.int (A:Nat),.tup R2,g2]) z/\wy R1=some p.r1/\wy R2=some p.r2/\
 j [.tup [.int (A:Nat),.tup R1,g1]]=some (.lst J)/\j [.tup [.int (A:Nat),.tup R2,g2]]=some (.lst O)/\xt J=some p.b1/\xt O=some p.b2/\KW K I p.wt/\OkR A p.r1/\OkR A p.r2/\p.b1.length=p.r1.length/\p.b2.length=p.r2.length/\p.r1.length*p.r2.length<2^22/\A<2^22/\
 ∀H' F' st g,Rep K C p B F' H' x st g->Sta p st A 0->st.me=[0]->Q .non H'
theorem Q7{K:aE}{F:Hp}{v:V}{j:List D}{b:List Bool}(h:Is K F (.lst j) v)(z:xt j=some b):∃m,v=.ref m/\F m=some (.lst (b.map V.bl)):=by
 simp only[Is]at h
 obtain⟨m,ws,rfl,q,I⟩:=h
 rw[YE z I]at q
 exact⟨m,rfl,q⟩
theorem Qc{P:aS}{w:aO}{K:aE}{mg:aC->Option aB}{base:aK}{fa fn C:aA}{fd dn:bQ}{km:Nat}{mm:List D->Option D}(Fn:Fun K "__init__" "Pairs.__init__" uc fa fd)(T:PCl K C)(hlen:mg "len"=none) 
  (Nm:Fun K "number_of" "Pairs.number_of" Wj fn dn) (mn:Meth K C "number_of" fn) (Cm:Callee P w K mg base km "marks_of" mm) (hkm:1<=km):FnOk P w K mg base CX0 (km+1) fa fd ["self","one","other","wanted"] (zbl K C mm) :=
 Fn.ok (k:=km) Za (λvs H Q E ⟨x,dx,v1,v2,wn,p,A,B,F,R1,R2,g1,g2,B1,B2,e,_⟩=>by rw[e];rfl) λcdv A0 outer sh H vs Q E hr hh77'=>by
  obtain⟨x,dx,v1,v2,wn,p,A,B,F,R1,R2,g1,g2,B1,B2,e,i0,d1,d2,hr1,hr2,hm1,hm2,hb1,hb2,hw,ok1,ok2,l1,l2,sz,az,q⟩:=hh77'
  subst e
  obtain⟨fm,dm,pm,Fm,gm,kpm,bm⟩:=Cm.ex
  have bn:xk K dn ["self","stand","other"] []:=Nm.binds λ_ _ _ _ _ _ us hl=>match us,hl with|[_,_,_],_=>rfl
  refine⟨_,zA (wN (pv 0) (xA w5 (pv 1) wk (λ_ _=>rfl)) rfl) (zA (wN (pv 0) (wD Fm hr rfl gm kpm bm .nil xK (zm (pv 1) zy)) rfl) (zA (wN (pv 0) (xA w5 (pv 2) wk (λ_ _=>rfl)) rfl) (zA (wN (pv 0) (wD Fm hr rfl gm kpm bm .nil xK (zm (pv 2) zy)) rfl)
   (zA (wN (pv 0) (pv 3) rfl) (zA (wN (pv 0) uk rfl) (zA (wN (pv 0) (vC zy) rfl) (zA (wN (pv 0) (vC zy) rfl) (zA (wN (pv 0) (vC zy) rfl)
   (yo (y0 (ZZ (pv 0) T.cl mn (zfE Nm T hlen) (hr.mono hkm) bn .nil xK (zm wk (zm wk zy))))))))))))),?_⟩
  obtain⟨o1,ra1,w3,rfl,ho1,rw1⟩:=zbk d1 hr1
  obtain⟨o2,ra2,w4,rfl,ho2,rw2⟩:=zbk d2 hr2
  refine⟨_,rfl,o1,_,_,.ref ra1,rfl,rfl,SqT.of (i0.sm _ _ ho1),rfl,_,rfl,x,C,dx,_,rfl,i0.hx,T.cl,T.n1,by simp,?_⟩
  have i1:=i0.put [("one_rows",.ref ra1)]
  refine⟨_,rfl,F,_,_,i1.sm,.cons d1 .nil,hm1,λv F2 H2 e2 iv=>?_⟩
  obtain⟨m1,rfl,hm1'⟩:=Q7 iv hb1
  have i2:=i1.call e2
  refine⟨_,rfl,x,C,dx,_,rfl,i2.hx,T.cl,T.n2,by simp,?_⟩
  have i3:=i2.put [("one_rows",.ref ra1),("one_marks",.ref m1)]
  refine⟨_,rfl,o2,_,_,.ref ra2,rfl,rfl,SqT.of (i3.sm _ _ (e2.ff _ _ ho2)),rfl,_,rfl,x,C,dx,_,rfl,i3.hx,T.cl,T.n3,by simp,?_⟩
  have i4:=i3.put [("one_rows",.ref ra1),("one_marks",.ref m1),("other_rows",.ref ra2)]
  refine⟨_,rfl,F2,_,_,i4.sm,.cons (Is.mono e2.ff _ d2) .nil,hm2,λv F3 H3 e3 iv=>?_⟩
  obtain⟨m2,rfl,hm2'⟩:=Q7 iv hb2
  have i5:=i4.call e3
  refine⟨_,rfl,x,C,dx,_,rfl,i5.hx,T.cl,T.n4,by simp,?_⟩
  have i6:=i5.put [("one_rows",.ref ra1),("one_marks",.ref m1),("other_rows",.ref ra2),("other_marks",.ref m2)]
  refine⟨_,rfl,_,rfl,x,C,dx,_,rfl,i6.hx,T.cl,T.n5,by simp,?_⟩
  have i7:=i6.put [("one_rows",.ref ra1),("one_marks",.ref m1),("other_rows",.ref ra2),("other_marks",.ref m2),("wanted",.ref wn)]
  refine λnu hnu=>⟨_,rfl,x,C,dx,_,rfl,(i7.new hnu _).hx,T.cl,T.n6,by simp,?_⟩
  have i8:=(i7.new hnu (.dK [])).put [("one_rows",.ref ra1),("one_marks",.ref m1),("other_rows",.ref ra2),("other_marks",.ref m2),("wanted",.ref wn),("numbers",.ref nu)]
  have xnu:nu≠x:=aQ (zt i7.hx hnu)
  refine⟨by simp,λme hme=>⟨_,rfl,x,C,dx,_,rfl,(i8.new hme _).hx,T.cl,T.n7,by simp,?_⟩⟩
  have i9:=(i8.new hme (.lst [])).put [("one_rows",.ref ra1),("one_marks",.ref m1),("other_rows",.ref ra2),("other_marks",.ref m2),("wanted",.ref wn),("numbers",.ref nu),("met",.ref me)]
  refine⟨by simp,λmr hmr=>⟨_,rfl,x,C,dx,_,rfl,(i9.new hmr _).hx,T.cl,T.n8,by simp,?_⟩⟩
  have i10:=(i9.new hmr (.lst [])).put [("one_rows",.ref ra1),("one_marks",.ref m1),("other_rows",.ref ra2),("other_marks",.ref m2),("wanted",.ref wn),("numbers",.ref nu),("met",.ref me),("marks",.ref mr)]
  refine⟨by simp,λro hro=>⟨_,rfl,x,C,dx,_,rfl,(i10.new hro _).hx,T.cl,T.n9,by simp,?_⟩⟩
  have i11:=(i10.new hro (.lst [])).put (ZQ ⟨dx,ra1,m1,ra2,m2,wn,nu,me,mr,ro⟩)
  have xme:me≠x:=aQ (zt i8.hx hme)
  have xmr:mr≠x:=aQ (zt i9.hx hmr)
  have xro:ro≠x:=aQ (zt i10.hx hro)
  have k8:=Wl i7 hnu (.dK []) [("one_rows",.ref ra1),("one_marks",.ref m1),("other_rows",.ref ra2),("other_marks",.ref m2),("wanted",.ref wn),("numbers",.ref nu)]
  have k9:=u8 i8 hme (.lst []) [("one_rows",.ref ra1),("one_marks",.ref m1),("other_rows",.ref ra2),("other_marks",.ref m2),("wanted",.ref wn),("numbers",.ref nu),("met",.ref me)] k8 xnu
  have j9:=Wl i8 hme (.lst []) [("one_rows",.ref ra1),("one_marks",.ref m1),("other_rows",.ref ra2),("other_marks",.ref m2),("wanted",.ref wn),("numbers",.ref nu),("met",.ref me)]
  have k10:=u8 i9 hmr (.lst []) [("one_rows",.ref ra1),("one_marks",.ref m1),("other_rows",.ref ra2),("other_marks",.ref m2),("wanted",.ref wn),("numbers",.ref nu),("met",.ref me),("marks",.ref mr)] k9 xnu
  have j10:=u8 i9 hmr (.lst []) [("one_rows",.ref ra1),("one_marks",.ref m1),("other_rows",.ref ra2),("other_marks",.ref m2),("wanted",.ref wn),("numbers",.ref nu),("met",.ref me),("marks",.ref mr)] j9 xme
  have z10:=Wl i9 hmr (.lst []) [("one_rows",.ref ra1),("one_marks",.ref m1),("other_rows",.ref ra2),("other_marks",.ref m2),("wanted",.ref wn),("numbers",.ref nu),("met",.ref me),("marks",.ref mr)]
  have k11:=u8 i10 hro (.lst []) (ZQ ⟨dx,ra1,m1,ra2,m2,wn,nu,me,mr,ro⟩) k10 xnu
  have j11:=u8 i10 hro (.lst []) (ZQ ⟨dx,ra1,m1,ra2,m2,wn,nu,me,mr,ro⟩) j10 xme
  have z11:=u8 i10 hro (.lst []) (ZQ ⟨dx,ra1,m1,ra2,m2,wn,nu,me,mr,ro⟩) z10 xmr
  have y11:=Wl i10 hro (.lst []) (ZQ ⟨dx,ra1,m1,ra2,m2,wn,nu,me,mr,ro⟩)
  have rep:Rep K C p B F3 _ x ⟨[],[],[],[],[]⟩ ⟨dx,ra1,m1,ra2,m2,wn,nu,me,mr,ro⟩:=⟨i11.bs,i11.sm,i11.hx,(rw1.mono e2.ff).mono e3.ff,(rw2.mono e2.ff).mono e3.ff,e3.ff _ _ hm1',hm2',hw,k11,j11,z11,y11,rfl,λi a h=>by simp at h,λa h=>by simp at h,zt j9 hmr,zt j10 hro,zt z10 hro,i11.f0,i7.sm.free hnu,i8.sm.free hme,i9.sm.free hmr,i10.sm.free hro⟩
  refine⟨_,rfl,x,dx,_,rfl,rep.ins,rfl,x,0,0,p,B,F3,_,_,rfl,rep,rfl,by rw[l1];exact ok1.pos,by rw[l2];exact ok2.pos,?_,by decide,by decide,λH' F' sm' r'=>?_⟩
  ·have h1:=ok1.pos
   have:1*p.r2.length<=p.r1.length*p.r2.length:=iY _ h1
   omega
  ·have e0:wC p ⟨[],[],[],[],[]⟩ 0 0=⟨[0],[0],[xQ p 0 0],[],[]⟩:=by unfold wC;simp
   rw[e0]at r'
   refine q H' F' _ _ r' ⟨ok1,ok2,l1,l2,rfl,Hop.Zq (by rw[Hop.uo];exact qc ok1.pos ok2.pos),?_,?_,sz,az⟩ rfl
   ·show [xQ p 0 0]=kA _ [0]
    simp
   ·show []=vf _ [0] 0
    rfl
structure JM (P:aS) (w:aO) (K:aE) (mg:aC->Option aB) (base:aK) (C fi fn fo fg:aA) (di dn do_ dg:bQ) (k:Nat) (ck ls mm lr:List D->Option D):Prop where
 pc:PCl K C
 mgC:mg "Pairs"=some (.ref C)
 mkc:Mk K C fi
 init:Fun K "__init__" "Pairs.__init__" uc fi di
 mn:Meth K C "number_of" fn
 num:Fun K "number_of" "Pairs.number_of" Wj fn dn
 mo:Meth K C "has_more" fo
 more:Fun K "has_more" "Pairs.has_more" Uc fo do_
 mgo:Meth K C "go_on" fg
 go:Fun K "go_on" "Pairs.go_on" zd1 fg dg
 len:mg "len"=none
 dvm:mg "divmod"=none
 zip:mg "zip"=none
 tup:mg "tuple"=none
 cck:Callee P w K mg base k "checked_reader" ck
 cls:Callee P w K mg base k "least" ls
 cmm:Callee P w K mg base k "marks_of" mm
 clr:Callee P w K mg base k "least_reader" lr
 k2:2<=k
theorem at0{v:V}{r:List V}:L2.atI (v::r) 0=some v:=by
 have:=xq (xs:=v::r) (j:=0) (v:=v) rfl
 exact this
abbrev Yo:aM:=Pt.top 52
theorem zhe:FnScope ["one","other","wanted"] ["one","other","wanted"] (zq Yo):=⟨rfl,rfl,rfl,by decide+kernel,rfl,by decide+kernel,by decide+kernel⟩
def zi6(K:aE)(C:aA)(J O R:List D->Option D):Sp:=λvs H Q _=>∃q z I one j p A,vs=[q,z,.ref I]/\Is K H one q/\Is K H j z/\JOk J O R one j p A/\KW K I p.wt/\
 ∀x H' F' st g,Rep K C p H F' H' x st g->Sta p st A 0->st.me=[0]->Q (.ref x) H'
theorem zhf{P:aS}{w:aO}{K:aE}{mg:aC->Option aB}{base:aK}{fa C fi fn fo fg:aA}{fd di dn do_ dg:bQ}{k:Nat}{ck ls mm lr:List D->Option D}(Fn:Fun K "pairs_of" "pairs_of" Yo fa fd)(M:JM P w K mg base C fi fn fo fg di dn do_ dg k ck ls mm lr):
  FnOk P w K mg base CX0 (k+3) fa fd ["one","other","wanted"] (zi6 K C ck ls mm) :=
 Fn.ok (k:=k+2) zhe (λvs H Q E ⟨v1,v2,wn,one,oth,p,A,e,_⟩=>by rw[e];rfl) λcdv A0 outer sh H vs Q E hr hh78'=>by
  obtain⟨v1,v2,wn,one,oth,p,A,e,i1,i2,J,hw,q⟩:=hh78'
  subst e
  obtain⟨f1,e1,ps1,F1,g1,kp1,b1⟩:=M.cck.ex
  obtain⟨f2,e2,ps2,F2,g2,kp2,b2⟩:=M.cls.ex
  have bi:xk K di ["self","one","other","wanted"] []:=M.init.binds λ_ _ _ _ _ _ us hl=>match us,hl with|[_,_,_,_],_=>rfl
  have hrk:=hr.mono (show k<=k+2 by omega)
  refine⟨_,zA (y0 (wD F1 hrk rfl g1 kp1 b1 .nil xK (zm (pv 0) zy))) (zA (y0 (wD F1 hrk rfl g1 kp1 b1 .nil xK (zm (pv 1) zy)))
   (zA (XH (ZY zk3 (xA w5 (pv 0) wk (λ_ _=>rfl)) (xA w5 (pv 1) wk (λ_ _=>rfl)) (yF _)) (yo zfI) ZW)
   (yo (vA (zbJ M.mkc (Qc M.init M.pc M.len M.num M.mn M.cmm (by have:=M.k2;omega)) hr rfl M.mgC bi .nil xK (zm (wD F2 hrk rfl g2 kp2 b2 .nil xK (zm (pv 0) zy)) (zm (wD F2 hrk rfl g2 kp2 b2 .nil xK (zm (pv 1) zy)) (zm (pv 2) zy)))))))),?_⟩
  obtain⟨t1,t2,c1,c2,R1,R2,G1,G2,B1,B2,rfl,rfl,h1,h2,h3,h4,h5,h6,h7,h8,h9,h10⟩:=J.ex
  refine⟨_,rfl,H,_,_,zw.refl _,.cons i1 .nil,h1,λu1 Fa Ha ea _=>?_⟩
  refine⟨_,rfl,Fa,_,_,ea.fh,.cons (Is.mono ea.ff _ i2) .nil,h2,λu2 Fb Hb eb _=>?_⟩
  have sb:zw H Fb:=ea.ff.trans eb.ff
  have j1:=i1
  have j2:=i2
  simp only[Is]at j1 j2
  obtain⟨o1,vs1,rfl,hf1,ar1⟩:=j1
  obtain⟨o2,vs2,rfl,hf2,ar2⟩:=j2
  obtain⟨w1,q1,rfl,k1,_⟩:=ar1.inv
  obtain⟨w2,q2,rfl,k2,_⟩:=ar2.inv
  simp only[Is]at k1 k2
  subst k1 k2
  refine⟨_,rfl,o1,_,_,.int (A:Int),rfl,rfl,SqT.of (eb.fh _ _ (sb _ _ hf1)),at0,_,rfl,o2,_,_,.int (A:Int),rfl,rfl,SqT.of (eb.fh _ _ (sb _ _ hf2)),at0,?_⟩
  refine⟨rfl,_,rfl,?_⟩
  refine Y8 (λhc=>?_) (λ_=>?_)
  ·simp at hc
  refine⟨_,rfl,Fb,_,_,eb.fh,.cons (Is.mono sb _ i1) .nil,h3,λu3 Fc Hc ec ic=>?_⟩
  refine⟨_,rfl,Fc,_,_,ec.fh,.cons (Is.mono (sb.trans ec.ff) _ i2) .nil,h4,λu4 Fd Hd ed id_=>?_⟩
  refine⟨_,rfl,λx dx hx hdx hne=>?_⟩
  have sd:zw H Fd:=(sb.trans ec.ff).trans ed.ff
  have s1:zw Hd (upd Hd dx (.own x)):=zK hdx _
  have hx1:(upd Hd dx (.own x)) x=none:=by rw[ze (aQ hne)];exact hx
  have s2:zw (upd Hd dx (.own x)) (upd (upd Hd dx (.own x)) x (.ins C dx [])):=zK hx1 _
  exact⟨x,dx,u3,u4,wn,p,A,H,Fd,R1,R2,G1,G2,B1,B2,rfl,⟨sd,(ed.fh.trans s1).trans s2,zk,ed.fh.free hx⟩,Is.mono ed.ff _ ic,id_,h5,h6,h7,h8,h9,h10,hw,J.ok1,J.ok2,J.l1,J.l2,J.sz,J.az,λH' F' st g r S hm=>⟨rfl,q x H' F' st g r S hm⟩⟩
abbrev Ud:aM:=Pt.top 53
theorem zcE:FnScope ["one","other","wanted","pairs"] ["one","other","wanted"] (zq Ud):=⟨rfl,rfl,rfl,by decide+kernel,rfl,by decide+kernel,by decide+kernel⟩
def zkr(K:aE)(wt:List (Bool×Bool))(m:List D->Option D):Sp:=λvs H Q _=>∃j q z F ds d,vs=[j,q,.ref z]/\KW K z wt/\zw F H/\Are K F ds [j,q]/\m ds=some d/\∀v F' H',Ext F H F' H'->Is K F' d v->Q v H'
theorem Q8{K:aE}{F:Hp}:∀bs:List Bool,Are K F (bs.map D.bl) (bs.map V.bl)
 | []=>.nil
 | b::r=>.cons (by simp[Is]) (Q8 r)
theorem zbm{K:aE}{F:Hp}:∀(rows:List (List Nat)) (rs:List aA),rs.length=rows.length->(∀(i:Nat) a,rs[i]?=some a->F a=some (.tup (zP (rows.getD i []))))->Are K F (X0 rows) (rs.map V.ref)
 | [],[],_,_=>.nil
 | [],_::_,h,_=>by simp at h
 | _::_,[],h,_=>by simp at h
 | r::rows,a::rs,h,g=>by
  refine .cons ?_ (zbm rows rs (by simpa using h) λi b hb=>by
   have:=g (i+1) b (by simpa using hb)
   simpa using this)
  simp only[Is]
  exact⟨a,_,rfl,by have:=g 0 a rfl;simpa using this,Pt.WK r⟩
theorem zi7{P:aS}{w:aO}{K:aE}{mg:aC->Option aB}{base:aK}{fa C fi fn fo fg fp:aA}{fd di dn do_ dg dp:bQ}{k:Nat}{ck ls mm lr:List D->Option D}{wt:List (Bool×Bool)}(Fn:Fun K "joined" "joined" Ud fa fd)(M:JM P w K mg base C fi fn fo fg di dn do_ dg k ck ls mm lr) 
  (hp:mg "pairs_of"=some (.ref fp)) (Pf:Fun K "pairs_of" "pairs_of" Yo fp dp) :
  FnOk P w K mg base CX0 (k+4) fa fd ["one","other","wanted"] (zkr K wt (uz wt ck ls mm lr)) :=
 Fn.ok (k:=k+3) zcE (λvs H Q E ⟨v1,v2,wn,F,ds,d,e,_⟩=>by rw[e];rfl) λcdv A0 outer sh H vs Q E hr hh79'=>by
  obtain⟨v1,v2,wn,F,ds,d,e,hw,sm,ar,hd,q⟩:=hh79'
  subst e
  obtain⟨one,oth,p,A,rfl,rfl,J,hlr⟩:=WP hd
  obtain⟨f1,e1,ps1,F1,g1,kp1,b1⟩:=M.clr.ex
  have bp:xk K dp ["one","other","wanted"] []:=Pf.binds λ_ _ _ _ _ _ us hl=>match us,hl with|[_,_,_],_=>rfl
  have bo:xk K do_ ["self"] []:=M.more.binds λ_ _ _ _ _ _ us hl=>match us,hl with|[_],_=>rfl
  have bg:xk K dg ["self"] []:=M.go.binds λ_ _ _ _ _ _ us hl=>match us,hl with|[_],_=>rfl
  have hrk:=hr.mono (show k<=k+3 by omega)
  refine⟨_,zA (xp (i:=3) zcE.nd rfl (Or.inl rfl) (wD (zhf Pf M) hr rfl hp Pf.kp bp .nil xK (zm (pv 0) (zm (pv 1) (zm (pv 2) zy)))))
   (zA (Wv cH (W3 (Ww (pv 3) M.pc.cl M.mo (zi3 M.more M.pc M.len) (hr.mono (by omega)) bo .nil xK)) (yo (y0 (Ww (pv 3) M.pc.cl M.mgo (zlB M.go M.pc M.len M.dvm M.zip M.tup M.num M.mn) (hr.mono (by omega)) bg .nil xK))))
   (yo (vA (wD F1 hrk rfl g1 kp1 b1 .nil xK (zm (xA w5 (pv 0) wk (λ_ _=>rfl)) (zm (yh (pv 3) rfl) (zm (yh (pv 3) rfl) zy))))))),?_⟩
  obtain⟨w1,q1,e,i1,ar⟩:=ar.inv
  cases e
  obtain⟨w2,q2,e,i2,ar⟩:=ar.inv
  cases e
  refine⟨_,rfl,_,rfl,_,rfl,v1,v2,wn,one,oth,p,A,rfl,Is.mono sm _ i1,Is.mono sm _ i2,J,hw,λx Ha Fa st g r S hm=>?_⟩
  obtain⟨t1,t2,c1,c2,R1,R2,G1,G2,B1,B2,rfl,rfl,_⟩:=J.ex
  have j1:=i1
  simp only[Is]at j1
  obtain⟨o1,vs1,rfl,hf1,ar1⟩:=j1
  obtain⟨y1,z1,rfl,k1,_⟩:=ar1.inv
  simp only[Is]at k1
  subst k1
  have hO:Hop.xj p.r1 p.r2=Hop.bfs (prR p.r1 p.r2) ((prR p.r1 p.r2).length-0) 0 st.me:=by rw[hm];rfl
  refine⟨λm σ H1=>σ=[some (.ref o1),some v2,some (.ref wn),some (.ref x)]/\∃F1 st1 k1,Rep K C p H F1 H1 x st1 g/\Sta p st1 A k1/\k1<=st1.me.length/\(prR p.r1 p.r2).length<=m+k1/\Hop.xj p.r1 p.r2=Hop.bfs (prR p.r1 p.r2) ((prR p.r1 p.r2).length-k1) k1 st1.me,
   ⟨(prR p.r1 p.r2).length,rfl,Fa,st,0,r,S,dJ _,aP _,hO⟩,?_⟩
  rintro m σ H1 ⟨rfl,F1',st1,k1,r1,S1,hk1,hmk,hO1⟩
  have hkr:st1.rows.length=k1:=by rw[S1.rw];exact Hop.QM hk1
  refine⟨_,rfl,x,g.dx,_,rfl,r1.ins,rfl,x,p,H,F1',st1,g,rfl,r1,_,rfl,?_⟩
  rw[hkr]
  refine Y8 (λhc=>?_) (λhc=>?_)
  ·have hlt:=of_decide_eq_true hc
   have hsm:=Hop.zaF S1.bi
   refine⟨_,λσ' H' w=>⟨m-1,by omega,w⟩,?_⟩
   refine⟨_,rfl,x,g.dx,_,rfl,r1.ins,rfl,x,p,H,F1',st1,g,A,k1,rfl,r1,S1,hlt,λH' F' st' smF r' S' hme=>?_⟩
   refine⟨rfl,F',st',k1+1,r',S',?_,by omega,?_⟩
   ·have:=(Hop.uA ((prR p.r1 p.r2).getD (st1.me.getD k1 0) []) st1.me).length_le
    rw[hme]
    exact cI hlt this
   ·rw[hO1,Hop.zgE hlt hsm,hme]
  ·have hge:¬k1<st1.me.length:=λz=>hc (decide_eq_true z)
   have eO:Hop.xj p.r1 p.r2=st1.me:=by rw[hO1,Hop.zgF hge]
   have ek:k1=st1.me.length:=by omega
   have hrows:st1.rows=Hop.vL p.r1 p.r2:=by
    show st1.rows=vf (prR p.r1 p.r2) (Hop.xj p.r1 p.r2) (Hop.xj p.r1 p.r2).length
    rw[S1.rw,eO,ek]
   have hmarks:st1.mr=(Hop.xj p.r1 p.r2).map λq=>xQ p (q/p.r2.length) (q%p.r2.length):=by rw[S1.mr,eO]
   obtain⟨Fc,hFc⟩:∃Fc:Hp,Fc=upd (upd (λb=>if H b=none then F1' b else F b) g.ro (.lst (st1.rs.map V.ref))) g.mr (.lst (st1.mr.map V.bl)):=⟨_,rfl⟩
   have hr0:H g.ro=none:=r1.bs.free r1.f4
   have hm0:H g.mr=none:=r1.bs.free r1.f3
   have hro:Fc g.ro=some (.lst (st1.rs.map V.ref)):=by rw[hFc,ze (aQ r1.n3)];exact zk
   have hmr:Fc g.mr=some (.lst (st1.mr.map V.bl)):=by rw[hFc];exact zk
   have hel:∀b,b≠g.ro->b≠g.mr->Fc b=if H b=none then F1' b else F b:=λb h1 h2=>by rw[hFc,ze h2,ze h1]
   have sF:zw F Fc:=λb u hb=>by
    have h1:b≠g.ro:=λz=>by rw[z]at hb;rw[sm _ _ hb]at hr0;cases hr0
    have h2:b≠g.mr:=λz=>by rw[z]at hb;rw[sm _ _ hb]at hm0;cases hm0
    rw[hel b h1 h2,if_neg (by rw[sm _ _ hb];exact λz=>nomatch z)]
    exact hb
   have sH:zw Fc H1:=λb u hb=>by
    by_cases h2:b=g.mr
    ·subst h2;rw[hmr]at hb;cases hb;exact r1.mr
    ·by_cases h1:b=g.ro
     ·subst h1;rw[hro]at hb;cases hb;exact r1.ro
     ·rw[hel b h1 h2]at hb
      by_cases hn:H b=none
      ·rw[if_pos hn]at hb;exact r1.sm _ _ hb
      ·rw[if_neg hn]at hb;exact r1.sm _ _ (r1.bs _ _ (sm _ _ hb))
   have newc:∀b,F b=none->Fc b≠none->H b=none:=λb h1 h2=>by
    cases hb:H b with
    | none=>rfl
    | some o=>
     have n1:b≠g.ro:=λz=>by rw[z,hr0]at hb;cases hb
     have n2:b≠g.mr:=λz=>by rw[z,hm0]at hb;cases hb
     rw[hel b n1 n2,if_neg (by rw[hb];exact λz=>nomatch z),h1]at h2
     exact absurd rfl h2
   have rowsF:∀(i:Nat) a,st1.rs[i]?=some a->Fc a=some (.tup (zP (st1.rows.getD i []))):=λi a h=>by
    have h0:=r1.rr i a h
    have hn:=r1.rb a (cE h)
    have n1:a≠g.ro:=λz=>by rw[z,r1.f4]at h0;cases h0
    have n2:a≠g.mr:=λz=>by rw[z,r1.f3]at h0;cases h0
    rw[hel a n1 n2,if_pos hn];exact h0
   have iro:Is K Fc (.lst (X0 (Hop.vL p.r1 p.r2))) (.ref g.ro):=by
    simp only[Is]
    exact⟨g.ro,_,rfl,hro,by rw[<-hrows];exact zbm st1.rows st1.rs r1.rl rowsF⟩
   have imr:Is K Fc (.lst (Zs p)) (.ref g.mr):=by
    simp only[Is]
    exact⟨g.mr,_,rfl,hmr,by rw[hmarks];exact Q8 _⟩
   refine⟨_,rfl,o1,_,_,.int (A:Int),rfl,rfl,SqT.of (r1.sm _ _ (r1.bs _ _ (sm _ _ hf1))),at0,_,rfl,x,C,g.dx,_,_,rfl,r1.ins,M.pc.cl,M.pc.n9,rfl,_,rfl,x,C,g.dx,_,_,rfl,r1.ins,M.pc.cl,M.pc.n8,rfl,Fc,_,d,sH,.cons (by simp[Is]) (.cons iro (.cons imr .nil)),hlr,λv F' H' ex iv=>q v F' H' ⟨sF.trans ex.ff,(r1.bs.trans r1.sm).trans ex.hh,ex.fh,λb h1 h2=>?_⟩ iv⟩
   cases hb:Fc b with
   | none=>exact r1.bs.free (r1.sm.free (ex.new b hb h2))
   | some o=>exact newc b h1 (by rw[hb];exact λz=>nomatch z)
end Pq
namespace Pq
open PySem PySem.Spec L2 DD
open PyProof.Rows hiding St
theorem zhg{K:aE}{b:aA}{c d:Bool}{j:Option aA}{m:Nat}{q:Array (Option aB)}{as:List aA}{wt:List (Bool×Bool)}(h:K.lookup b=some ⟨.type "tuple",j,.seq #[.bool c,.bool d] m,q⟩)(t:KPr K as wt):KPr K (b::as) ((c,d)::wt) :=
 .cons (λH=>.inr ⟨_,_,_,h,rfl,rfl,by show 2<=aH;decide,.cons rfl (.cons rfl .nil)⟩) t
theorem zlC{K:aE}{a:aA}{j:Option aA}{its:Array aB}{m:Nat}{q:Array (Option aB)}{as:List aA}{wt:List (Bool×Bool)}(h:K.lookup a=some ⟨.type "tuple",j,.seq its m,q⟩)(z:its.size<=aH)(I:zO (as.map V.ref) its.toList)(t:KPr K as wt):KW K a wt :=
 ⟨as,λH=>.inr ⟨_,its,m,h,rfl,rfl,z,I⟩,t⟩
theorem uB{P:aS}{w:aO}{K:aE}{mg:aC->Option aB}{base:aK}{j k:Nat}{x:aC}{m:List D->Option D}(h:Callee P w K mg base j x m)(z:j<=k):Callee P w K mg base k x m:=by
 obtain⟨fa,fd,ps,F,q⟩:=h.ex
 exact⟨fa,fd,ps,F.mono z,q⟩
abbrev zbn:aM:=Pt.top 54
theorem zi8:FnScope ["one","other"] ["one","other"] (zq zbn):=⟨rfl,rfl,rfl,by decide+kernel,rfl,by decide+kernel,by decide+kernel⟩
theorem zbE{P:aS}{w:aO}{K:aE}{mg:aC->Option aB}{base:aK}{fa fj C fi fn fo fg fp aw:aA}{fd dj di dn do_ dg dp:bQ}{k:Nat}{ck ls mm lr:List D->Option D}{wt:List (Bool×Bool)}(Fn:Fun K "both" "both" zbn fa fd)(hm:mg "both"=some (.ref fa))(M:JM P w K mg base C fi fn fo fg di dn do_ dg k ck ls mm lr) 
  (hp:mg "pairs_of"=some (.ref fp)) (Pf:Fun K "pairs_of" "pairs_of" Yo fp dp) (hj:mg "joined"=some (.ref fj)) (Jf:Fun K "joined" "joined" Ud fj dj) (hg:mg "IN_BOTH"=some (.ref aw)) (W:KW K aw wt):Callee P w K mg base (k+5) "both" (uz wt ck ls mm lr):=by
 have bj:xk K dj ["one","other","wanted"] []:=Jf.binds λ_ _ _ _ _ _ us hl=>match us,hl with|[_,_,_],_=>rfl
 refine⟨fa,fd,["one","other"],Fn.ok (k:=k+4) (sp:=spD K (uz wt ck ls mm lr)) zi8 (λvs H Q E ⟨F,ds,d,sm,ar,e,q⟩=>?_) (λcdv A0 outer sh H vs Q E hr ⟨F,ds,d,sm,ar,e,q⟩=>?_),hm,Fn.kp,Fn.binds λ_ _ _ _ _ _ us hl=>match us,hl with|[_,_],_=>rfl⟩
 ·obtain⟨one,oth,p,A,rfl,_⟩:=WP e
  rw[ar.length];rfl
 ·obtain⟨one,oth,p,A,rfl,_⟩:=WP e
  obtain⟨v1,r1,rfl,i1,ar'⟩:=ar.inv
  obtain⟨v2,r2,rfl,i2,ar'⟩:=ar'.inv
  cases ar'.inv0
  refine⟨_,yo (vA (wD (zi7 (wt:=wt) Jf M hp Pf) hr rfl hj Jf.kp bj .nil xK (zm (pv 0) (zm (pv 1) (zm (Ui (v:=.ref aw) rfl hg rfl) zy))))),?_⟩
  exact⟨_,rfl,_,rfl,v1,v2,aw,F,_,d,rfl,W,sm,ar,e,q⟩
end Pq
namespace Pt
open PySem PySem.Spec L2 DD
open PyProof.Rows hiding St
open Hop (HS)
abbrev uc:aM:=YX 0
theorem Za:FnScope ["self","good","stand","mark","part"] ["self","good"] (zq uc):=⟨rfl,rfl,rfl,by decide+kernel,rfl,by decide+kernel,by decide+kernel⟩
def zbl(C:aA):Sp:=λvs H Q _=>∃x gl dx good H0,vs=[.ref x,.ref gl]/\H x=some (.ins C dx [])/\zw H0 H/\H0 x=none/\H0 gl=some (.lst ((good:List Bool).map V.bl))/\good.length<aH/\∀H' g,Rep C H0 H' x (Hop.start good) g->Q .non H'
theorem zlD(h:Q (.int (pOf b:Nat)) H):if b=true then tC (.int 1) σ H Q else tC (.int 0) σ H Q:=by
 cases b <;>exact h
theorem Qc{P:aS}{w:aO}{K:aE}{mg:aC->Option aB}{base:aK}{fa C:aA}{fd:bQ}(Fn:Fun K "__init__" "Parting.__init__" uc fa fd)(T:PC K C)(U:mg "enumerate"=none):FnOk P w K mg base CX0 1 fa fd ["self","good"] (zbl C) :=
 Fn.ok (k:=0) Za (λvs H Q E ⟨x,gl,dx,good,H0,e,_⟩=>by rw[e];rfl) λcdv A outer s H vs Q E hr Y=>by
  obtain⟨x,gl,dx,good,H0,e,hx,sm,h0,J,hz,q⟩:=Y
  subst e
  refine⟨_,zA (wN (pv 0) (vC zy) rfl) (zA (wN (pv 0) (vC (zm uk (zm uk zy))) rfl) (zA (wN (pv 0) (vC (zm wk (zm wk zy))) rfl) (zA (wN (pv 0) (vC (zm uQ (zm uQ zy))) rfl)
   (yo (uC cH rfl (J1 rfl U (zm (pv 1) zy)) (Y2 rfl (wU (xR (i:=2) Za.nd rfl (Or.inl rfl)) (wU (xR (i:=3) Za.nd rfl (Or.inl rfl)) ZX)))
    (zA (xp (i:=4) Za.nd rfl (Or.inl rfl) (JB (W3 (pv 3)) wk wk)) (zA (y0 (xl cG cM cR yw (yh (pv 0) rfl) (zm (pv 4) zy)))
     (yo (Z8 (wB hr) (xA wr (yh (pv 0) rfl) (pv 4) (λ_ _=>rfl)) (pv 2) uQ rfl))))))))),?_⟩
  refine⟨by decide,λz ad=>⟨_,rfl,x,C,dx,_,rfl,by rw[ze (zt hx ad)];exact hx,T.cl,T.n1,by decide,?_⟩⟩
  have l1:=vB "part_of" (V.ref z) ([]:List (aC×V))
  rw[jF]at l1
  generalize ea:upd (upd H z (HO.lst [])) x (HO.ins C dx (yL "part_of" (V.ref z) []))=Ha
  have j:Ha x=some (HO.ins C dx (yL "part_of" (V.ref z) [])):=by rw[<-ea];exact zk
  refine λd1 I d2 Z=>⟨by show 2<=aH;decide,λpl ae=>⟨_,rfl,x,C,dx,_,rfl,by rw[ze (zt (by rw[ze (zt (by rw[ze (zt j I)];exact j) Z),ze (zt j I)];exact j) ae),ze (zt (by rw[ze (zt j I)];exact j) Z),ze (zt j I)];exact j,T.cl,T.n2,by omega,?_⟩⟩
  have l2:=vB "parts" (V.ref pl) (yL "part_of" (V.ref z) ([]:List (aC×V)))
  generalize eb:upd (upd (upd (upd Ha d1 (HO.dK [])) d2 (HO.dK [])) pl (HO.lst [V.ref d1,V.ref d2])) x (HO.ins C dx (yL "parts" (V.ref pl) (yL "part_of" (V.ref z) [])))=Hb
  have af:Hb x=some (HO.ins C dx (yL "parts" (V.ref pl) (yL "part_of" (V.ref z) []))):=by rw[<-eb];exact zk
  refine⟨by decide,λO ag=>⟨_,rfl,x,C,dx,_,rfl,by rw[ze (zt af ag)];exact af,T.cl,T.n3,by omega,?_⟩⟩
  have l3:=vB "waiting" (V.ref O) (yL "parts" (V.ref pl) (yL "part_of" (V.ref z) ([]:List (aC×V))))
  generalize ec:upd (upd Hb O (HO.lst [V.int 0,V.int 1])) x (HO.ins C dx (yL "waiting" (V.ref O) (yL "parts" (V.ref pl) (yL "part_of" (V.ref z) []))))=Hc
  have ah:Hc x=some (HO.ins C dx (yL "waiting" (V.ref O) (yL "parts" (V.ref pl) (yL "part_of" (V.ref z) [])))):=by rw[<-ec];exact zk
  refine⟨by decide,λws ai=>⟨_,rfl,x,C,dx,_,rfl,by rw[ze (zt ah ai)];exact ah,T.cl,T.n4,by omega,?_⟩⟩
  have ef:yL "waits" (V.ref ws) (yL "waiting" (V.ref O) (yL "parts" (V.ref pl) (yL "part_of" (V.ref z) [])))=ZQ ⟨dx,z,pl,O,ws,[d1,d2]⟩:=by rfl
  generalize hH:upd (upd Hc ws (HO.lst [V.bl true,V.bl true])) x (HO.ins C dx (yL "waits" (V.ref ws) (yL "waiting" (V.ref O) (yL "parts" (V.ref pl) (yL "part_of" (V.ref z) [])))))=Hd
  have r0:=Rep.begin (C:=C) (dx:=dx) (Hd:=Hd) sm hx h0 ad ea.symm I Z ae eb.symm ag ec.symm ai (ed:=by rw[<-hH,ef])
  generalize hg:(⟨dx,z,pl,O,ws,[d1,d2]⟩:Ads)=g at r0
  have aj:g.ds.length=2:=by rw[<-hg];rfl
  refine⟨_,rfl,gl,rfl,⟨_,SqL.of (r0.sm _ _ J)⟩,zaa (n:=good.length) (λi σ H=>(∃o2 o3 o4,σ=[some (.ref x),some (.ref gl),o2,o3,o4])/\∃H1,zw H0 H1/\Rep C H1 H x (ini good i) g)
   ⟨⟨none,none,none,rfl⟩,H0,zw.refl _,r0⟩ (λi σ H hi aa=>(by obtain⟨_,H1,s1,r⟩:=aa;exact⟨_,.bl good[i],SqL.of (r.sm _ _ (s1 _ _ J)),by simp[hi]⟩)) (λσ H ab=>(by obtain⟨_,H1,s1,r⟩:=ab;exact⟨_,SqL.of (r.sm _ _ (s1 _ _ J)),by rw[aN];exact aP _⟩)) (λi v σ H H' hi p y=>?_) (λσ H p=>?_)⟩
  ·obtain⟨⟨o2,o3,o4,rfl⟩,H1,s1,r⟩:=p
   obtain⟨t,u,hT,rfl,rfl,hv⟩:=y
   have hb:=hv _ (SqL.of (r.sm _ _ (s1 _ _ J)))
   rw[aY]at hb
   obtain⟨b,ak,rfl⟩:=eV.mp hb
   have r1:=r.ext hT (.tup [.int i,.bl b])
   have R:pOf b<2:=by cases b <;>decide
   have ac:g.ds[pOf b]?=some (g.ds[pOf b]'(by rw[aj];exact R)):=by simp[aj,R]
   refine⟨t,_,rfl,SqT.of zk,rfl,_,_,rfl,_,_,rfl,rfl,?_⟩
   refine⟨_,rfl,b,rfl,zlD ?_⟩
   refine⟨_,rfl,x,C,g.dx,_,_,rfl,r1.ins,T.cl,T.n1,rfl,.inl ⟨rfl,_,SqL.of r1.po⟩,_,rfl,g.po,_,_,rfl,rfl,r1.po,?_,?_⟩
   ·rw[aN]
    show((good.take i).map pOf).length<_
    rw[aN,iP]
    omega
   have r2:=r1.setPartOf ((ini good i).partOf++[pOf b])
   rw[show zP (ini good i).partOf++[V.int (pOf b:Int)]=zP ((ini good i).partOf++[pOf b])from by simp]
   have hk:=r2.ds (pOf b) _ ac
   refine⟨_,rfl,x,C,g.dx,_,_,rfl,r2.ins,T.cl,T.n2,rfl,_,rfl,g.pl,_,_,_,rfl,rfl,SqL.of r2.pl,xq (by rw[aY,ac];rfl),_,rfl,_,_,rfl,uI.k (k:=Sum.inl (i:Int)) hk ?_,?_⟩
   ·rw[aN]
    exact iE (zeU (good:=good) (i:=i) (p:=pOf b)) (by omega)
   have r3:=r2.setPart ac ((ini good i).parts.getD (pOf b) []++[i])
   rw[Qy (l:=((ini good i).parts.getD (pOf b) [])) zeT]
   refine⟨⟨_,_,_,rfl⟩,upd H1 t (.tup [.int i,.bl b]),?_,?_⟩
   ·exact s1.trans (zK (r.sm.free hT) _)
   ·rw[zgl ak]
    exact r3
  ·obtain⟨_,H1,s1,r⟩:=p
   rw[zgk]at r
   exact q H g (r.weak s1)
abbrev Ue:aM:=top 29
theorem Yp:FnScope ["goals","back","part_of","found","goal","stand","part"] ["goals","back","part_of"] (zq Ue):=⟨rfl,rfl,rfl,by decide+kernel,rfl,by decide+kernel,by decide+kernel⟩
def zks:Sp:=λvs H Q _=>∃gl bl pl goals back partOf as,vs=[.ref gl,.ref bl,.ref pl]/\H gl=some (.lst (zP goals))/\BkR H bl back as/\H pl=some (.lst (zP partOf))/\(∀g∈goals,g<back.length)/\(∀g,∀s∈back.getD g [],s<partOf.length)/\
 (goals.flatMap λg=>back.getD g []).length<aH/\∀d H' fl,FR H H' d fl->fl.map (·.1)=Hop.v7 goals back partOf->Q (.ref d) H'
theorem zi9{P:aS}{w:aO}{K:aE}{mg:aC->Option aB}{base:aK}{fa:aA}{fd:bQ}(Fn:Fun K "leading_to" "leading_to" Ue fa fd):FnOk P w K mg base CX0 1 fa fd ["goals","back","part_of"] zks :=
 Fn.ok (k:=0) Yp (λvs H Q E ⟨gl,bl,pl,goals,back,partOf,as,e,_⟩=>by rw[e];rfl) λcdv A outer s H vs Q E hr hh83'=>by
  obtain⟨gl,bl,pl,goals,back,partOf,as,e,hgl,hbl,hpl,hgb,hsp,hz,q⟩:=hh83'
  subst e
  refine⟨_,zA (xp (i:=3) Yp.nd rfl (Or.inl rfl) uk) (zA (uC cH rfl (XI (pv 0)) (xR (i:=4) Yp.nd rfl (Or.inl rfl)) (yo (uC cH rfl (XI (xA wr (pv 1) (pv 4) (λ_ _=>rfl))) (xR (i:=5) Yp.nd rfl (Or.inl rfl))
   (zA (xp (i:=6) Yp.nd rfl (Or.inl rfl) (xA wr (pv 2) (pv 5) (λ_ _=>rfl))) (zA (XH (zen (Qr (wB hr) (pv 6) (pv 3))) (yo (Z8 (wB hr) (pv 3) (pv 6) (vC zy) rfl)) ZW)
    (yo (y0 (xl cG cM cR yw (Ut (wB hr) (pv 3) (pv 6) (λ_ _=>rfl)) (zm (pv 5) zy))))))))) (yo (vA (pv 3)))),?_⟩
  intro d hd
  have f0:=FR.new hd
  refine⟨_,rfl,gl,rfl,⟨_,SqL.of (f0.sm _ _ hgl)⟩,Yt (xs:=zP goals) (λi σ H1=>(∃o4 o5 o6,σ=[some (.ref gl),some (.ref bl),some (.ref pl),some (.ref d),o4,o5,o6])/\∃fl,FR H H1 d fl/\fl.map (·.1)=uL (λs=>partOf.getD s 0) ((goals.take i).flatMap λg=>back.getD g []))
   ⟨⟨none,none,none,rfl⟩,[],f0,rfl⟩ (λi σ H1 _ hh84'=>(by obtain⟨_,fl,f,_⟩:=hh84';exact SqL.of (f.sm _ _ hgl))) (λi v σ H1 hv p=>?_) (λσ H1 p=>?_)⟩
  ·obtain⟨⟨o4,o5,o6,rfl⟩,fl,f,efl⟩:=p
   rw[aY]at hv
   obtain⟨g,hgi,rfl⟩:=eV.mp hv
   have hg:=hgb g (cE hgi)
   have hag:as[g]?=some (as[g]'(by rw[hbl.len];exact hg)):=by simp[hbl.len,hg]
   generalize as[g]'(by rw[hbl.len];exact hg)=ag at hag
   have hal:=hbl.ls g ag hag
   refine⟨_,rfl,_,rfl,bl,_,_,.ref ag,rfl,rfl,SqL.of (f.sm _ _ hbl.b),xq (by rw[aY,hag];rfl),ag,rfl,⟨_,SqL.of (f.sm _ _ hal)⟩,Yt (xs:=zP (back.getD g [])) (λj σ H1=>(∃o5 o6,σ=[some (.ref gl),some (.ref bl),some (.ref pl),some (.ref d),some (.int (g:Int)),o5,o6])/\∃fl,FR H H1 d fl/\fl.map (·.1)=uL (λs=>partOf.getD s 0) ((goals.take i).flatMap (λg=>back.getD g [])++(back.getD g []).take j))
    ⟨⟨o5,o6,rfl⟩,fl,f,by rw[pN,gB];exact efl⟩ (λj σ H1 _ hh85'=>(by obtain⟨_,fl,f,_⟩:=hh85';exact SqL.of (f.sm _ _ hal))) (λj v σ H1 hv p=>?_) (λσ H1 p=>?_)⟩
   ·obtain⟨⟨o5,o6,rfl⟩,fl,f,efl⟩:=p
    rw[aY]at hv
    obtain⟨s,hsj,rfl⟩:=eV.mp hv
    have hs:=hsp g s (cE hsj)
    generalize hxs:(goals.take i).flatMap (λg=>back.getD g [])++(back.getD g []).take j=xs at efl
    have hxl:xs.length<aH:=by rw[<-hxs];exact iE (ziD back hgi j) hz
    have small:=zc8 (λs=>partOf.getD s 0) xs
    rw[<-efl]at small
    have exs:(goals.take i).flatMap (λg=>back.getD g [])++(back.getD g []).take (j+1)=xs++[s]:=by rw[Xl hsj,<-kU,hxs]
    have eg:uL (λs=>partOf.getD s 0) (xs++[s])=Hop.xm (fl.map (·.1)) (partOf.getD s 0) s:=by rw[QB,efl]
    generalize hp:partOf.getD s 0=p at eg
    refine⟨_,rfl,_,rfl,pl,_,_,.int (p:Nat),rfl,rfl,SqL.of (f.sm _ _ hpl),xq (by rw[aY,getD_some (d:=0) hs,hp];rfl),?_⟩
    refine⟨_,rfl,_,rfl,d,_,rfl,wh.k (k:=Sum.inl (p:Int)) f.dd,_,rfl,?_⟩
    refine Y8 (λhc=>?_) (λhc=>?_)
    ·have hnot:p∉fl.map (·.1.1):=λz=>by
      obtain⟨e,he,ee⟩:=bA.mp z
      have:=zab f.kn he
      rw[ee]at this
      rw[this]at hc;cases hc
     refine⟨by decide,λa ha=>⟨_,rfl,_,rfl,d,_,rfl,uI.k (k:=Sum.inl (p:Int)) (by rw[ze (zt f.dd ha)];exact f.dd) ?_,?_⟩⟩
     ·rw[aN]
      have:=small.1
      rw[aN]at this
      omega
     have f1:=f.add hnot ha
     have hin:(((p,[]),a):FE)∈fl++[((p,[]),a)]:=by simp
     have dg:wh (upd (upd H1 a (.lst [])) d (.dK (wf (kvF fl) (Sum.inl (p:Int)) (V.ref a)))) d (.int (p:Int)) (some (.ref a)):=by
      have:=wh.k (k:=Sum.inl (p:Int)) f1.dd
      rw[zab f1.kn hin]at this
      exact this
     refine⟨_,rfl,_,rfl,d,.ref a,rfl,dg,.inl ⟨rfl,_,SqL.of (f1.ls _ hin).1⟩,_,rfl,a,_,_,rfl,rfl,(f1.ls _ hin).1,by show 0<aH;decide,?_⟩
     have f2:=f1.app (s:=s) hin rfl
     exact⟨⟨_,_,rfl⟩,_,f2,by rw[exs,eg,zgm hnot]⟩
    ·have hk:p∈fl.map (·.1.1):=m3 λz=>hc (by rw[zcb z];rfl)
     obtain⟨e,he,ee⟩:=bA.mp hk
     have dg:wh H1 d (.int (p:Int)) (some (.ref e.2)):=by
      have:=wh.k (k:=Sum.inl (p:Int)) f.dd
      rw[<-ee,zab f.kn he,ee]at this
      exact this
     refine⟨_,rfl,_,rfl,d,.ref e.2,rfl,dg,.inl ⟨rfl,_,SqL.of (f.ls _ he).1⟩,_,rfl,e.2,_,_,rfl,rfl,(f.ls _ he).1,?_,?_⟩
     ·rw[aN]
      have:=small.2 e.1 (bA.mpr ⟨e,he,rfl⟩)
      omega
     have f2:=f.app (s:=s) he ee
     rw[show zP e.1.2++[V.int (s:Int)]=zP (e.1.2++[s])from by simp]
     exact⟨⟨_,_,rfl⟩,_,f2,by rw[exs,eg,zc7 f.kn hk]⟩
   ·obtain⟨⟨o5,o6,rfl⟩,fl,f,efl⟩:=p
    refine⟨⟨_,_,_,rfl⟩,fl,f,?_⟩
    rw[efl,aN,fG,QD back hgi]
  ·obtain⟨⟨o4,o5,o6,rfl⟩,fl,f,efl⟩:=p
   refine⟨_,rfl,q d H1 fl f ?_⟩
   rw[efl,aN,fG,zeV]
abbrev Jz:aM:=top 28
theorem Uf:FnScope ["rows","letter","back","stand","row"] ["rows","letter"] (zq Jz):=⟨rfl,rfl,rfl,by decide+kernel,rfl,by decide+kernel,by decide+kernel⟩
structure RwR (H:Hp) (rl:aA) (rows:List (List Nat)) (rs:List aA):Prop where
 r:H rl=some (.tup (rs.map V.ref))
 len:rs.length=rows.length
 ls:∀(i:Nat) a,rs[i]?=some a->H a=some (.tup (zP (rows.getD i [])))
theorem RwR.mono(r:RwR H j rows rs)(s:zw H H'):RwR H' j rows rs:=⟨s _ _ r.r,r.len,λi a h=>s _ _ (r.ls i a h)⟩
def zh1:Sp:=λvs H Q _=>∃j a rows rs,vs=[.ref j,.int (a:Nat)]/\RwR H j rows rs/\(∀s,s<rows.length->a<(rows.getD s []).length/\(rows.getD s []).getD a 0<rows.length)/\rows.length<aH/\∀b H' as,BO H H' b as (bk rows a rows.length)->Q (.ref b) H'
theorem zkt{P:aS}{w:aO}{K:aE}{mg:aC->Option aB}{base:aK}{fa:aA}{fd:bQ}(Fn:Fun K "arrows_back" "arrows_back" Jz fa fd)(J:mg "enumerate"=none):FnOk P w K mg base CX0 1 fa fd ["rows","letter"] zh1 :=
 Fn.ok (k:=0) Uf (λvs H Q E ⟨Y,a,rows,rs,e,_⟩=>by rw[e];rfl) λcdv A outer s H vs Q E hr O=>by
  obtain⟨Y,a,rows,rs,e,z,Z,hz,q⟩:=O
  subst e
  refine⟨_,zA (XM (N:=["row"]) (ms:=[none]) (i:=2) rfl (CompOk.of (by rfl)) (zjr (pv 0)) (λcl C s H ex=>⟨xR (i:=0) (show(["row"]:List aC).Nodup by decide+kernel) rfl (Or.inl rfl),Vb,vC zy⟩) Uf.nd rfl (Or.inl rfl) rfl)
   (zA (uC cH rfl (JG rfl J (zm (pv 0) zy)) (Y2 rfl (wU (xR (i:=3) Uf.nd rfl (Or.inl rfl)) (wU (xR (i:=4) Uf.nd rfl (Or.inl rfl)) ZX)))
    (yo (y0 (xl cG cM cR yw (xA wr (pv 2) (xA w5 (pv 4) (pv 1) (λ_ _=>rfl)) (λ_ _=>rfl)) (zm (pv 3) zy)))))
    (yo (vA (pv 2)))),?_⟩
  have j:(rs.map V.ref).length=rows.length:=by rw[aN];exact z.len
  refine⟨_,rfl,Y,rfl,⟨_,SqT.of z.r⟩,zgn z.r (by rw[j];omega) λas H1 l b hb=>?_⟩
  rw[j,<-ziE rows a]at l
  have b0:=l.close hb
  refine⟨_,rfl,Y,rfl,⟨_,SqT.of (b0.l.sm _ _ z.r)⟩,zaa (n:=rows.length) (λi σ H2=>(∃o3 o4,σ=[some (.ref Y),some (.int (a:Int)),some (.ref b),o3,o4])/\BO H H2 b as (bk rows a i))
   ⟨⟨none,none,rfl⟩,b0⟩ (λi σ H2 hi R=>(by obtain⟨_,r⟩:=R;exact⟨_,.ref (rs[i]'(by rw[z.len];exact hi)),SqT.of (r.l.sm _ _ z.r),by simp[z.len,hi]⟩)) (λσ H2 U=>(by obtain⟨_,r⟩:=U;exact⟨_,SqT.of (r.l.sm _ _ z.r),by rw[j];exact aP _⟩)) (λi v σ H2 H' hi p y=>?_) (λσ H2 p=>?_)⟩
  ·obtain⟨⟨o3,o4,rfl⟩,r⟩:=p
   obtain⟨t,u,hT,rfl,rfl,hv⟩:=y
   have hu:=hv _ (SqT.of (r.l.sm _ _ z.r))
   rw[aY]at hu
   obtain⟨ra,aa,rfl⟩:=eV.mp hu
   have r1:=r.grow (zK hT (.tup [.int i,.ref ra]))
   obtain⟨h1,h2⟩:=Z i hi
   have I:as[(rows.getD i []).getD a 0]?=some (as[(rows.getD i []).getD a 0]'(by rw[l.len];unfold bk;simpa using h2)):=by
    rw[bK]
   generalize as[(rows.getD i []).getD a 0]'(by rw[l.len];unfold bk;simpa using h2)=ag at I
   obtain⟨k1,k2⟩:=r1.l.ls _ ag I
   refine⟨t,_,rfl,SqT.of zk,rfl,_,_,rfl,_,_,rfl,rfl,?_⟩
   refine⟨_,rfl,_,rfl,_,rfl,ra,_,_,.int ((rows.getD i []).getD a 0:Nat),rfl,rfl,SqT.of (r1.l.sm _ _ (z.ls i ra aa)),xq (by rw[aY,getD_some (d:=0) h1];rfl),b,_,_,.ref ag,rfl,rfl,SqL.of r1.bb,xq (by rw[aY,I];rfl),.inl ⟨rfl,_,SqL.of k1⟩,_,rfl,ag,_,_,rfl,rfl,k1,?_,?_⟩
   ·rw[aN,VD h2]
    have:=la (λs=>decide ((rows.getD s []).getD a 0=(rows.getD i []).getD a 0)) (aF i)
    rw[cY]at this
    omega
   have r2:=r1.put I ((bk rows a i).getD ((rows.getD i []).getD a 0) []++[i])
   rw[show zP ((bk rows a i).getD ((rows.getD i []).getD a 0) [])++[V.int (i:Int)]=zP ((bk rows a i).getD ((rows.getD i []).getD a 0) []++[i])from by simp]
   refine⟨⟨_,_,rfl⟩,?_⟩
   rw[ziF h2]
   exact r2
  ·obtain⟨⟨o3,o4,rfl⟩,r⟩:=p
   exact⟨_,rfl,q b H2 as r⟩
abbrev Wm:aM:=top 30
abbrev zku:List aC:=["letters","rows","good","backs","parting","goals","back","found","part","stands"]
theorem vl:FnScope zku ["letters","rows","good"] (zq Wm):=⟨rfl,rfl,rfl,by decide+kernel,rfl,by decide+kernel,by decide+kernel⟩
def zja:Sp:=λvs H Q _=>∃A rl gl rows rs good,vs=[.int (A:Nat),.ref rl,.ref gl]/\RwR H rl rows rs/\Rows rows A/\H gl=some (.lst ((good:List Bool).map V.bl))/\good.length=rows.length/\rows.length+3<aH/\A<aH/\
 ∀po H',zw H H'->H po=none->H' po=some (.lst (zP (Hop.xi (bks rows A) good)))->Q (.ref po) H'
structure PM (K:aE) (mg:aC->Option aB) (C fi ft fo fw fl fr:aA) (di dt do_ dw dl dr:bQ):Prop where
 pc:PC K C
 mgC:mg "Parting"=some (.ref C)
 mkc:Mk K C fi
 init:Fun K "__init__" "Parting.__init__" uc fi di
 mt:Meth K C "take_goals" ft
 take:Fun K "take_goals" "Parting.take_goals" Ua ft dt
 mo:Meth K C "part_off" fo
 off:Fun K "part_off" "Parting.part_off" Jx fo do_
 mw:Meth K C "let_wait" fw
 wait:Fun K "let_wait" "Parting.let_wait" XE fw dw
 ml:mg "leading_to"=some (.ref fl)
 lead:Fun K "leading_to" "leading_to" Ue fl dl
 mr:mg "arrows_back"=some (.ref fr)
 arr:Fun K "arrows_back" "arrows_back" Jz fr dr
 len:mg "len"=none
 list:mg "list"=none
 range:mg "range"=none
 enum:mg "enumerate"=none
theorem zhh{H:Hp}{I:aA}{rows:List (List Nat)}{rs:List aA}{A:Nat}(Y:RwR H I rows rs)(R:Rows rows A)(Z:rows.length<aH)(hA:A<=aH){E:XK}{Fin:List V->Hp->Prop} 
  (h:∀bs H',zw H H'->BsR H' rows bs->bs.length=A->Fin (bs.map V.ref) H'):Vc (Itr 0 A) (vm 0) Z1 (zhJ zh1 [] E (uw (vN 1) (uw (vN 0) Yu))) [none,some (.ref I)] H Fin:=by
 refine⟨λi m ys H1=>m=A-i/\i<=A/\∃bs,ys=bs.map V.ref/\bs.length=i/\zw H H1/\BsR H1 rows bs,⟨A,by simp,dJ _,[],rfl,rfl,zw.refl _,⟨λi b h=>by simp at h⟩⟩,?_⟩
 rintro i m ys H1 ⟨rfl,hi,bs,rfl,J,O,b⟩
 refine⟨by rw[aN];omega,?_⟩
 by_cases q:i<A
 ·refine .inr ⟨q,λx H' y=>?_⟩
  obtain⟨rfl,rfl⟩:=y
  refine⟨⟨rfl,λj v z=>?_⟩,(show _ from ?_)⟩
  ·match j,z with
   | 0,z=>simp at z
   | 1,z=>exact z
   | j+2,z=>simp at z
  ·refine⟨_,rfl,_,rfl,I,i,rows,rs,?_,Y.mono O,λs U=>⟨cI q (R.len s U),R.lt s i U q⟩,Z,λc H' as o=>⟨by rw[aN];omega,A-(i+1),by omega,rfl,q,bs++[c],by simp,by simp[J],O.trans o.l.sm,(b.mono o.l.sm).snoc (as:=as) ?_⟩⟩
   ·show [V.ref I,V.int (0+(i:Int))]=_
    rw[Int.zero_add]
   ·rw[J];exact o.bk
 ·have e:i=A:=by omega
  subst e
  exact .inl ⟨aP _,h bs H1 O b J⟩
theorem zhi{P:aS}{w:aO}{K:aE}{mg:aC->Option aB}{base:aK}{fa C fi ft fo fw fl fr:aA}{fd di dt a8 dw dl dr:bQ}(Fn:Fun K "parts_of_stands" "parts_of_stands" Wm fa fd)(M:PM K mg C fi ft fo fw fl fr di dt a8 dw dl dr):FnOk P w K mg base CX0 3 fa fd ["letters","rows","good"] zja :=
 Fn.ok (k:=2) vl (λvs H Q E ⟨A,rl,gl,rows,rs,good,e,_⟩=>by rw[e];rfl) λcdv A0 outer s H vs Q E hr an=>by
  obtain⟨A,rl,gl,rows,rs,good,e,rr,aa,b8,a9,hz,cu,q⟩:=an
  subst e
  have ao:=hr.mono (show 1<=2 by decide)
  have bi:xk K di ["self","good"] []:=M.init.binds λ_ _ _ _ _ _ us J=>by rcases us with _|⟨_,_|⟨_,_|⟨_,_⟩⟩⟩ <;>first|rfl|cases J|(simp at J)
  have bt:xk K dt ["self"] []:=M.take.binds λ_ _ _ _ _ _ us J=>by rcases us with _|⟨_,_|⟨_,_⟩⟩ <;>first|rfl|cases J|(simp at J)
  have bo:xk K a8 ["self","part","stands"] []:=M.off.binds λ_ _ _ _ _ _ us J=>by rcases us with _|⟨_,_|⟨_,_|⟨_,_|⟨_,_⟩⟩⟩⟩ <;>first|rfl|cases J|(simp at J)
  have bl:xk K dl ["goals","back","part_of"] []:=M.lead.binds λ_ _ _ _ _ _ us J=>by rcases us with _|⟨_,_|⟨_,_|⟨_,_|⟨_,_⟩⟩⟩⟩ <;>first|rfl|cases J|(simp at J)
  have br:xk K dr ["rows","letter"] []:=M.arr.binds λ_ _ _ _ _ _ us J=>by rcases us with _|⟨_,_|⟨_,_|⟨_,_⟩⟩⟩ <;>first|rfl|cases J|(simp at J)
  refine⟨_,zA (XM (N:=["letter","rows"]) (ms:=[none,some 1]) (i:=3) rfl (CompOk.of (by rfl)) (Qf rfl M.range (zm (pv 0) zy)) (λcl C s H ex=>⟨xR (i:=0) (show(["letter","rows"]:List aC).Nodup by decide+kernel) rfl (Or.inl rfl),Vb,wD (zkt M.arr M.enum) ao rfl M.mr M.arr.kp br .nil xK (zm (pv 1) (zm (pv 0) zy))⟩) vl.nd rfl (Or.inl rfl) rfl)
   (zA (xp (i:=4) vl.nd rfl (Or.inl rfl) (zbJ M.mkc (Qc M.init M.pc M.enum) hr rfl M.mgC bi .nil xK (zm (pv 2) zy)))
   (zA (Wv cH (ZY zcJ (xz zz rfl M.len bP (zm (yh (pv 4) rfl) zy)) wk (yF _))
    (zA (xp (i:=5) vl.nd rfl (Or.inl rfl) (Ww (pv 4) M.pc.cl M.mt (zi1 M.take M.pc M.list) ao bt .nil xK))
    (yo (uC cH rfl (XI (pv 3)) (xR (i:=6) vl.nd rfl (Or.inl rfl))
     (zA (xp (i:=7) vl.nd rfl (Or.inl rfl) (wD (zi9 M.lead) ao rfl M.ml M.lead.kp bl .nil xK (zm (pv 5) (zm (pv 6) (zm (yh (pv 4) rfl) zy)))))
     (yo (uC cH rfl (zgf (pv 7)) (Y2 rfl (wU (xR (i:=8) vl.nd rfl (Or.inl rfl)) (wU (xR (i:=9) vl.nd rfl (Or.inl rfl)) ZX)))
      (yo (y0 (ZZ (pv 4) M.pc.cl M.mo (zkp M.off M.pc M.len M.wait M.mw) hr bo .nil xK (zm (pv 8) (zm (pv 9) zy))))))))))))
   (yo (vA (yh (pv 4) rfl))))),?_⟩
  refine⟨_,rfl,(A:Int),rfl,by omega,?_,?_⟩
  ·have:aH<2^62:=by decide
   omega
  rw[gH]
  refine zhh rr aa (by omega) (by omega) λbs H1 b9 ca ba p hp=>?_
  have ap:zw H1 (upd H1 p (.lst (bs.map V.ref))):=zK hp _
  refine⟨_,rfl,λx dx hx bb cb=>?_⟩
  generalize cc:upd H1 p (.lst (bs.map V.ref))=H2 at ap hx bb
  have bc:H2 p=some (.lst (bs.map V.ref)):=by rw[<-cc];exact zk
  have bd:zw H H2:=b9.trans ap
  have R:zw H2 (upd H2 dx (.own x)):=zK bb _
  generalize cd:upd H2 dx (.own x)=Hb at R
  have be:Hb x=none:=by rw[<-cd,ze (aQ cb)];exact hx
  refine⟨x,gl,dx,good,Hb,rfl,zk,zK be _,be,R _ _ (bd _ _ b8),by omega,λH3 g r0=>⟨rfl,?_⟩⟩
  have bf:zw H Hb:=bd.trans R
  have hδ:∀a s,a<A->s<rows.length->(λa s=>(rows.getD s []).getD a 0) a s<rows.length:=λa s ha hs=>aa.lt s a hs ha
  have aq:∀i,i<A->Hop.Back rows.length ((λa s=>(rows.getD s []).getD a 0) i) ((bks rows A).getD i []):=λi hi=>by
   rw[aX,Uz hi];exact aa.back hi
  have ce:Hop.Inv rows.length A (λa s=>(rows.getD s []).getD a 0) (λ_ _=>True) (Hop.start good):=by
   rw[<-a9]at hδ ⊢
   exact Hop.QG hδ λ_ _ _ _ _=>trivial
  refine⟨λm σ H'=>(∃o5 o6 o7 Z o9,σ=[some (.int (A:Int)),some (.ref rl),some (.ref gl),some (.ref p),some (.ref x),o5,o6,o7,Z,o9])/\∃st g H1,Rep C H1 H' x st g/\zw Hb H1/\Hop.Inv rows.length A (λa s=>(rows.getD s []).getD a 0) (λ_ _=>True) st/\rows.length+2+st.waiting.length<=m+st.parts.length/\(Hop.run (bks rows A) m st).partOf=Hop.xi (bks rows A) good,
   ⟨rows.length+2,⟨none,none,none,none,none,rfl⟩,Hop.start good,g,Hb,r0,zw.refl _,ce,by show _+2+2<=_+2+2;omega,by rw[<-a9];rfl⟩,?_⟩
  rintro m σ H4 ⟨⟨o5,o6,o7,Z,o9,rfl⟩,st,g,H5,r,U,iv,hm,ab⟩
  have gd:Hop.Good rows.length st:=⟨iv.ok,iv.full⟩
  refine⟨_,rfl,x,C,g.dx,_,_,rfl,r.ins,M.pc.cl,M.pc.n3,rfl,g.wg,_,rfl,.inl (SqL.of r.wg),_,_,rfl,rfl,_,rfl,?_⟩
  refine Y8 (λhc=>?_) (λhc=>?_)
  ·have bg:0<st.waiting.length:=by
    have:=of_decide_eq_true hc
    rw[aN]at this
    omega
   have ac:st.waiting≠[]:=λz=>by rw[z]at bg;exact absurd bg (by simp)
   have cv:=gd.parts
   obtain⟨k,rfl⟩:∃k,m=k+1:=⟨m-1,by omega⟩
   have I:=mW ac
   generalize st.waiting.getLast ac=pt at I
   obtain⟨cf,cnt,_⟩:=Hop.J7 hδ (λ_ _ _ _ _ _ _=>trivial) (UA rows A) aq iv I
   have ad:Hop.turn (bks rows A) st=(bks rows A).foldl (Hop.wq (st.parts.getD pt [])) (Hop.take st pt):=by unfold Hop.turn;rw[I]
   have ar:(Hop.run (bks rows A) k (Hop.turn (bks rows A) st)).partOf=Hop.xi (bks rows A) good:=by
    rw[<-ab]
    conv=>rhs;unfold Hop.run
    rw[if_neg ac]
   have bh:pt∈st.waiting:=by
    rw[(Hop.Ux iv.ok I).2];simp
   have ak:=iv.ok.wlt pt bh
   refine⟨_,λσ' H' w=>⟨k,iB k,w⟩,?_⟩
   refine⟨_,rfl,x,g.dx,_,rfl,r.ins,rfl,x,pt,H5,st,g,rfl,r,I,by rw[iv.ok.wl];exact ak,ak,λl H6 J r6=>?_⟩
   generalize O:st.parts.getD pt []=goals at r6 ad
   have au:goals.Nodup:=by rw[<-O];exact iv.ok.nd pt
   have bj:∀y∈goals,y<rows.length:=λy hy=>by rw[<-O]at hy;exact((iv.ok.mem pt y).mp hy).1
   have ae:zw H5 (upd H5 l (.lst (zP goals))):=zK J _
   have bm:upd H5 l (.lst (zP goals)) l=some (.lst (zP goals)):=zk
   generalize upd H5 l (.lst (zP goals))=ag at r6 ae bm
   have gt:=Hop.zeY gd I
   have av:∀b∈bks rows A,∃d,Hop.Back rows.length d b:=λb hb=>by
    unfold bks at hb
    obtain⟨a,ha,rfl⟩:=bA.mp hb
    exact⟨_,aa.back (bR.mp ha)⟩
   refine⟨_,rfl,p,rfl,⟨_,SqL.of (r6.sm _ _ (ae _ _ (U _ _ (R _ _ bc))))⟩,Yt (xs:=bs.map V.ref) (λi σ H'=>(∃o6 o7 Z o9,σ=[some (.int (A:Int)),some (.ref rl),some (.ref gl),some (.ref p),some (.ref x),some (.ref l),o6,o7,Z,o9])/\∃g H1,Rep C H1 H' x (((bks rows A).take i).foldl (Hop.wq goals) (Hop.take st pt)) g/\zw ag H1)
    ⟨⟨o6,o7,Z,o9,rfl⟩,g,ag,r6,zw.refl _⟩ (λi σ H' _ aw=>(by obtain⟨_,g,H1,r,s1⟩:=aw;exact SqL.of (r.sm _ _ (s1 _ _ (ae _ _ (U _ _ (R _ _ bc))))))) (λi v σ H' hv pv=>?_) (λσ H' pv=>?_)⟩
   ·obtain⟨⟨o6,o7,Z,o9,rfl⟩,g,H7,r,s7⟩:=pv
    rw[aY]at hv
    obtain⟨b,bn,rfl⟩:=eV.mp hv
    have bp:i<A:=by rw[<-ba];exact(bE.mp bn).1
    have ah:=Hop.QF (δ:=λ_ s=>s) au (bks rows A) _ av gt i
    generalize bq:((bks rows A).take i).foldl (Hop.wq goals) (Hop.take st pt)=Y at r ah
    obtain⟨as,cg⟩:=ca.ls i b bn
    have bu:BkR H' b (bk rows i rows.length) as:=((((cg.mono (ap.trans R)).mono U).mono ae).mono s7).mono r.sm
    have ai:=aa.back bp
    have bv:(bk rows i rows.length).length=rows.length:=by unfold bk;simp
    have ci:(goals.flatMap λg=>(bk rows i rows.length).getD g []).length<=rows.length:=by
     have:=Hop.yH (m:=aF rows.length) (Hop.YC ai au) λy hy=>bR.mpr ((Hop.ul ai y).mp hy).1
     rw[cY]at this
     exact this
    refine⟨_,rfl,_,rfl,_,rfl,x,C,g.dx,_,_,rfl,r.ins,M.pc.cl,M.pc.n1,rfl,l,b,g.po,goals,bk rows i rows.length,Y.partOf,as,rfl,r.sm _ _ (s7 _ _ bm),bu,r.po,λy hy=>by rw[bv];exact bj y hy,λy z ck=>by rw[ah.ok.len];exact((ai.mem y z).mp ck).1,by omega,λd H8 fl f bw=>?_⟩
    obtain⟨H9,s9,r9,al⟩:=r.grow f.sm
    have pr:=Hop.QE ai au ah.ok
    rw[<-bw]at pr
    obtain⟨bx,cr⟩:=Hop.zgo _ Y ah pr
    refine⟨_,rfl,d,kvF fl,rfl,f.dd,λo=>?_⟩
    have cm:=al d _ f.d0 f.dd
    have bz:=r9.over cm (.frz o (.dK (kvF fl)))
    have cn:ag d=none:=by
     have:H7 d=none:=r.sm.free f.d0
     exact s7.free this
    have s10:zw ag (upd H9 d (.frz o (.dK (kvF fl)))):=yI (s7.trans s9) cn _
    have b0:∀e∈fl,upd H9 d (.frz o (.dK (kvF fl))) e.2=some (.lst (zP e.1.2)):=λe he=>by
     rw[ze (vX (f.ls e he).1 f.dd (λz=>nomatch z))]
     exact al _ _ (f.ls e he).2 (f.ls e he).1
    have ax:upd H9 d (.frz o (.dK (kvF fl))) d=some (.frz o (.dK (kvF fl))):=zk
    generalize upd H9 d (.frz o (.dK (kvF fl)))=b1 at bz s10 b0 ax
    have b2:(kvF fl).length=fl.length:=aN _
    refine zaa (n:=fl.length) (λj σ H'=>(∃Z o9,σ=[some (.int (A:Int)),some (.ref rl),some (.ref gl),some (.ref p),some (.ref x),some (.ref l),some (.ref b),some (.ref d),Z,o9])/\∃g H1,Rep C H1 H' x (Hop.w6 Y ((fl.map (·.1)).take j)) g/\zw b1 H1)
     ⟨⟨Z,o9,rfl⟩,g,b1,bz,zw.refl _⟩ (λj σ H' hj ay=>(by obtain⟨_,g,H1,r,s1⟩:=ay;exact⟨r.sm _ _ (s1 _ _ ax),by rw[b2];exact hj⟩)) (λσ H' az=>(by obtain⟨_,g,H1,r,s1⟩:=az;exact⟨r.sm _ _ (s1 _ _ ax),by rw[b2];exact aP _⟩)) (λj v σ H' cw hj pv y=>?_) (λσ H' pv=>?_)
    ·obtain⟨⟨Z,o9,rfl⟩,g,af,r,aj⟩:=pv
     obtain⟨t,kk,vv,hT,rfl,b3,rfl⟩:=y
     rw[aY]at b3
     obtain⟨e,b4,ee⟩:=eV.mp b3
     cases ee
     have he:=cE b4
     have am:(fl.map (·.1))[j]?=some (e.1.1,e.1.2):=by rw[aY,b4];rfl
     obtain⟨gj,cj⟩:=bx j e.1.1 e.1.2 am
     have b5:=r.ext hT (.tup [kV (Sum.inl (e.1.1:Int)),V.ref e.2])
     have b6:upd af t (.tup [kV (Sum.inl (e.1.1:Int)),V.ref e.2]) e.2=some (.lst (zP e.1.2)):=by
      have b7:=aj _ _ (b0 e he)
      rw[ze (zt (r.sm _ _ b7) hT)];exact b7
     refine⟨t,_,rfl,SqT.of zk,rfl,_,_,rfl,_,_,rfl,rfl,?_⟩
     have cx:=gj.parts
     have cy:=gj.wait
     refine⟨_,rfl,x,g.dx,_,rfl,b5.ins,rfl,_,rfl,_,rfl,x,e.1.1,e.2,e.1.2,_,_,g,rows.length,rfl,b5,b6,gj.ok,cj,by omega,by omega,by omega,λcz co cp=>⟨⟨_,_,rfl⟩,co,upd af t (.tup [kV (Sum.inl (e.1.1:Int)),V.ref e.2]),?_,aj.trans (zK (r.sm.free hT) _)⟩⟩
     rw[Hop.zby Y am]
     exact cp
    ·obtain⟨⟨Z,o9,rfl⟩,g,af,r,aj⟩:=pv
     refine⟨⟨_,_,_,_,rfl⟩,g,af,?_,s10.trans aj⟩
     rw[Hop.zeX goals (Hop.take st pt) (Uz bp),bq]
     show Rep C af H' x (Hop.w6 Y (Hop.v7 goals (bk rows i rows.length) Y.partOf)) g
     rw[<-bw]
     have:(fl.map (·.1)).take fl.length=fl.map (·.1):=nq (by rw[aN];exact aP _)
     rw[this]at r
     exact r
   ·obtain⟨⟨o6,o7,Z,o9,rfl⟩,g,H7,r,s7⟩:=pv
    refine⟨⟨_,_,_,_,_,rfl⟩,Hop.turn (bks rows A) st,g,H7,?_,(U.trans ae).trans s7,cf,by omega,ar⟩
    rw[ad]
    have:(bks rows A).take (bs.map V.ref).length=bks rows A:=nq (by rw[aN,ba,UA];exact aP _)
    rw[this]at r
    exact r
  ·have cq:st.waiting=[]:=by
    have h0:¬(0<st.waiting.length):=λz=>hc (decide_eq_true (by rw[aN];omega))
    exact gJ.mp (by omega)
   have er:(Hop.run (bks rows A) m st)=st:=by
    cases m with
    | zero=>rfl
    | succ k=>unfold Hop.run;rw[if_pos cq]
   rw[er]at ab
   refine⟨_,rfl,x,C,g.dx,_,_,rfl,r.ins,M.pc.cl,M.pc.n1,rfl,q g.po H4 ((bf.trans U).trans r.sm) ((bf.trans U).free r.f1) ?_⟩
   rw[<-ab]
   exact r.po
theorem zbo{P:aS}{w:aO}{K:aE}{mg:aC->Option aB}{base:aK}{fa C fi ft fo fw fl fr:aA}{fd di dt O dw dl dr:bQ}(R:Fun K "parts_of_stands" "parts_of_stands" Wm fa fd)(hm:mg "parts_of_stands"=some (.ref fa))(M:PM K mg C fi ft fo fw fl fr di dt O dw dl dr):Callee P w K mg base 3 "parts_of_stands" Yf:=by
 refine⟨fa,fd,["letters","rows","good"],FnOk.imp (zhi R M) λvs H Q E h=>?_,hm,R.kp,R.binds λ_ _ _ _ _ _ us hl=>by rcases us with _|⟨_,_|⟨_,_|⟨_,_|⟨_,_⟩⟩⟩⟩ <;>first|rfl|cases hl|(simp at hl)⟩
 obtain⟨F,ds,d,J,r,e,q⟩:=h
 unfold Yf at e
 split at e
 ·rename_i a rd g
  obtain⟨rows,j,e⟩:=eA.mp e
  obtain⟨good,z,e⟩:=eA.mp e
  by_cases U:0<=a/\u0 rows a.toNat=true/\good.length=rows.length/\rows.length+3<aH/\a.toNat<aH
  ·rw[if_pos U]at e
   cases e
   obtain⟨c1,c2,c3,c4,c5⟩:=U
   obtain⟨v1,r1,rfl,i1,r⟩:=r.inv
   obtain⟨v2,r2,rfl,i2,r⟩:=r.inv
   obtain⟨v3,r3,rfl,i3,r⟩:=r.inv
   cases r.inv0
   simp only[Is]at i1 i2 i3
   obtain⟨rl,ws,rfl,Y,ar⟩:=i2
   obtain⟨gl,ws',rfl,I,ag⟩:=i3
   obtain⟨rs,rfl,e2,e3⟩:=XU j ar
   rw[YE z ag]at I
   refine⟨a.toNat,rl,gl,rows,rs,good,by rw[i1,lh c1],⟨J _ _ Y,e2,λi b h=>J _ _ (e3 i b h)⟩,zdc c2,J _ _ I,c3,c4,c5,λpo H' s hp Z=>?_⟩
   refine q _ _ H' (ziH J s hp Z) ?_
   simp only[Is]
   exact⟨po,_,rfl,zk,WK _⟩
  ·rw[if_neg U]at e;cases e
 ·cases e
end Pt
namespace Py
open PySem L2 DD Pu
open Hop (yp yE Canon dl OkR Lst)
theorem zlE:OkD 3 (yY A rows g):=by
 have n1:∀l:List Nat,OkD 1 (.tup (dN l)):=λl=>OkD.tup (n:=0) λd j=>by obtain⟨x,_,rfl⟩:=bA.mp j;exact OkD.int
 refine OkD.tup (n:=2) λd j=>?_
 simp only[aU,gY,or_false]at j
 rcases j with rfl|rfl|rfl
 ·exact OkD.int
 ·exact OkD.tup (n:=1) λd j=>by obtain⟨x,_,rfl⟩:=bA.mp j;exact n1 x
 ·exact(n1 _).mono (by omega)
theorem zmV(e:j=q)(z:∀s,s<j.length->h1 s=h2 s):yY A j h1=yY A q h2:=by
 subst e
 unfold yY
 rw[Ws z]
theorem zjb(h:OkRoom n L j):OkD 2 (zi j):=OkD.tup (n:=1) (by
 intro d q
 obtain⟨m,z,rfl⟩:=bA.mp q
 obtain⟨c,I,rfl⟩:=cS.mp z
 exact zfy (h.mvs c I))
theorem zjc(h:OkM L rooms):OkD 4 (zn L rooms):=OkD.tup (n:=3) (by
 intro d j
 simp only[aU,gY,or_false]at j
 rcases j with rfl|rfl
 ·exact OkD.int
 ·exact OkD.tup (n:=2) (by
   intro d j
   obtain⟨m,q,rfl⟩:=bA.mp j
   exact zjb (h.all m q)))
section
variable {L:Nat} {R1 R2:List (List (Mv aC))}
theorem XF(j:R1.length<=2):(wZ (xg R1.length) (R1.length+1)).length<=125:=by
 rw[za2]
 have:(xg R1.length).length=R1.length+3:=by simp[xg]
 rw[this]
 generalize R1.length=n at j
 rcases n with _|_|_|n
 ·decide
 ·decide
 ·decide
 ·omega
theorem zbp(h:OkM L R1)(j:R1.length<=2)(B:Bfs (zT R1) L ws k a):ws.length<=125:=by
 have:=yH (ws.map (zT R1)) _ B.nd λx q=>by
  obtain⟨w,z,rfl⟩:=bA.mp q
  exact W1 h (B.good w z)
 rw[aN]at this
 exact bS this (XF j)
def onK(k:Nat):Key->Key
 | .inl i=>.inl (i+k)
 | .inr s=>.inr s
def zhj(back:Nat)(em:Bool)(j:Key)(x:Key):Key:=if x=.inr yk then(if em=true then .inl (back:Int)else onK (back+1) j)else x
def zd2(back:Nat)(em:Bool)(q j:List Key):List Key:=q.map (zhj back em (j.headD (.inl 0)))++j.map (onK (back+1))
theorem zcF:x9 (onR k x)=onK k (x9 x):=by
 cases x with
 | fin s=>rfl
 | out r=>simp[x9,onR,onK]
theorem zhk:x9 (YW R1 R2 w x)=zhj R1.length (decide (w=[])) (x9 (zR R2 w (0,0))) (x9 x):=by
 unfold YW zhj
 by_cases q:x=.fin yk
 ·subst q
  have e:x9 (.fin yk)=(.inr yk:Key):=rfl
  rw[if_pos rfl,e,if_pos rfl]
  by_cases j:w=[]
  ·rw[if_pos j,if_pos (by simp[j])];rfl
  ·rw[if_neg j,if_neg (by simp[j]),zcF]
 ·have I:¬x9 x=(.inr yk:Key):=λz=>q (V2 (x:=x) (y:=.fin yk) z)
  rw[if_neg q,if_neg I]
theorem zd3(h1:OkM L R1)(h2:OkM L R2)(j:∀x∈w,x<L):zT (zH L R1 R2) w=zd2 R1.length (decide (w=[])) (zT R1 w) (zT R2 w):=by
 have q:(zT R2 w).headD (.inl 0)=x9 (zR R2 w (0,0)):=rfl
 unfold zd2
 rw[q]
 unfold zT
 rw[zdZ h1 h2 j,cL,cZ,cZ,cZ,cZ]
 congr 1
 ·exact dC λx _=>zhk
 ·exact dC λx _=>zcF
theorem Q9{α β γ:Type}{f:α->β->γ}{ys:List β}:∀xs:List α,(xs.flatMap λx=>ys.map (f x)).length=xs.length*ys.length
 | []=>by simp
 | x::r=>by rw[lq,bM,aN,Q9 r,cD,jN,jO]
theorem zfF(h1:OkM L R1)(h2:OkM L R2)(n1:R1.length<=2)(n2:R2.length<=2)(B:Bfs (zT (zH L R1 R2)) L ws k a):ws.length<=40000:=by
 have:=yH (ws.map (zT (zH L R1 R2))) (([true,false]:List Bool).flatMap λem=>(wZ (xg R1.length) (R1.length+1)).flatMap λj=>(wZ (xg R2.length) (R2.length+1)).map (zd2 R1.length em j)) B.nd λx z=>by
  obtain⟨w,I,rfl⟩:=bA.mp z
  have q:=B.good w I
  rw[zd3 h1 h2 q]
  refine jS.mpr ⟨decide (w=[]),by cases decide (w=[]) <;>simp,jS.mpr ⟨_,W1 h1 q,bA.mpr ⟨_,W1 h2 q,rfl⟩⟩⟩
 have e:(([true,false]:List Bool).flatMap λem=>(wZ (xg R1.length) (R1.length+1)).flatMap λj=>(wZ (xg R2.length) (R2.length+1)).map (zd2 R1.length em j)).length=(wZ (xg R1.length) (R1.length+1)).length*(wZ (xg R2.length) (R2.length+1)).length+(wZ (xg R1.length) (R1.length+1)).length*(wZ (xg R2.length) (R2.length+1)).length:=by
  simp only[lq,List.flatMap_nil,gB,bM,Q9]
 rw[aN,e]at this
 have m:(wZ (xg R1.length) (R1.length+1)).length*(wZ (xg R2.length) (R2.length+1)).length<=125*125:=lI (XF n1) (XF n2)
 omega
end
theorem good(ns:List Int)(hn:ns.length<=63):Wb [.scr ns]=some (.bl true):=by
 obtain⟨v,hv,ak⟩:=U2 (ns:=ns) (k:=0) (many:=2) (by decide)
 have hL:∃L:Nat,L=1+v:=⟨_,rfl⟩
 obtain⟨L,av⟩:=hL
 have Z:1<=L:=by omega
 have j:L<=3:=by omega
 obtain⟨R1,al,a1,a2,a3⟩:=QP (ns:=ns) (a:=1) (L:=L) (most:=2) j (by decide) (by decide)
 obtain⟨R2,am,b1,b2,b3⟩:=QP (ns:=ns) (a:=20) (L:=L) (most:=2) j (by decide) (by decide)
 have h1:OkM L R1:=⟨Z,j,a1,by omega,a3⟩
 have h2:OkM L R2:=⟨Z,j,b1,by omega,b3⟩
 have aa:R1.length+1+R2.length<=12:=by omega
 have hW:=zhc h1 h2 aa
 have ka:=ziY h1 h2 aa
 have kd:=zlz h1 h2 aa
 obtain⟨us,hU,ae,af⟩:=ziV j
 have ab:∀{R:List (List (Mv aC))},OkM L R->∀u,(∀x∈u,x<L)->u.length<=40000->eD (zU L R u)=true:=λhR u I hl=>by
  obtain⟨r,_,q⟩:=uZ hR I (by omega)
  exact q
 obtain⟨q1,g1,e1,t1,l1⟩:=ZU h1 (N:=125) (by omega) (λws k a B=>zbp h1 a2 B) (f:=yk) (.inl rfl) (λu I hl=>ab h1 u I (by omega))
 obtain⟨q2,g2,e2,t2,l2⟩:=ZU h2 (N:=125) (by omega) (λws k a B=>zbp h2 b2 B) (f:=yk) (.inl rfl) (λu I hl=>ab h2 u I (by omega))
 obtain⟨q3,g3,e3,t3,l3⟩:=ZU hW (N:=40000) (by omega) (λws k a B=>zfF h1 h2 a2 b2 B) (f:=yk) (.inl rfl) (λu I hl=>ab hW u I hl)
 obtain⟨q4,g4,e4,t4,l4⟩:=zkm (g1:=g1) (g2:=g2) [(true,true)] t1.ok t2.ok Z j (by omega) (by omega) (M:=15625) (by omega) (λp1 p2 f1 f2 L1 L2=>by
  have c1:=L1.le
  have c2:=L2.le
  have c3:=zeN L1.ok L2.ok
  have c4:p1.length*p2.length<=125*125:=lI (by omega) (by omega)
  exact⟨by omega,by omega⟩)
 have same:Tells L (λw=>zU L (zH L R1 R2) w==yk) q4 g4:=t4.congr λw hw=>by
  rw[t1.is w hw,t2.is w hw,V9 h1 h2 hw]
  by_cases hy:zU L R1 w=yk
  ·rw[if_pos hy,hy]
   show([(true,true)].any λq=>q==(yk==yk,zU L R2 w==yk))=_
   rw[show(yk==yk)=true from by simp]
   cases zU L R2 w==yk <;>rfl
  ·rw[if_neg hy]
   have hf:(zU L R1 w==yk)=false:=by simpa using hy
   rw[hf]
   cases zU L R2 w==yk <;>rfl
 obtain⟨u1,v1⟩:=t3.one same
 rw[zmV u1 v1]at e3
 have he:=zgw (n:=3) (zlE (A:=L) (rows:=q4) (g:=g4))
 have an:=zaq (n:=4) (zjc hW)
 obtain⟨G1,w1,y5,y6,y7,O,hg⟩:=wE (t:=zr 5) (fb:=WZ) (us.map yf)
  (λk Γ=>∃y5 y6 y7 O,Γ=[.v (.scr ns),.v (.int (L:Int)),.v (zn L R1),.v (zn L R2),.v (zn L (zH L R1 R2)),y5,y6,y7,O])
  [.v (.scr ns),.v (.int (L:Int)),.v (zn L R1),.v (zn L R2),.v (zn L (zH L R1 R2)),.un,.un,.un,.un] ⟨.un,.un,.un,.un,rfl⟩ (by
   rintro k Γ hk ⟨y5,y6,y7,O,rfl⟩
   have ag:k<us.length:=by simpa using hk
   have I:=ae.good _ (bY ag)
   have af:=ae.len _ (bY ag)
   rw[eG]
   generalize us[k]=u at I af ⊢
   obtain⟨x1,c1,o1⟩:=uZ h1 I (by omega)
   obtain⟨aw,c2,o2⟩:=uZ h2 I (by omega)
   obtain⟨x3,c3,o3⟩:=uZ hW I (by omega)
   rw[V9 h1 h2 I]at c3
   have hy:=Q3 (L:=L) (rooms:=R1) (w:=u) h1 u7 o1
   have U:mEq false (.d (.str (zU L R1 u))) (.d (.str "yes"))=some (.bl (zU L R1 u==yk)):=hy
   have ha:(zY 6 (x2 mIx (xFn uY (zc (za 2) (zc (za 5) zg))) (xC (.int 0)))) [.v (.scr ns),.v (.int (L:Int)),.v (zn L R1),.v (zn L R2),.v (zn L (zH L R1 R2)),.v (yf u),y6,y7,O]=some (.nx [.v (.scr ns),.v (.int (L:Int)),.v (zn L R1),.v (zn L R2),.v (zn L (zH L R1 R2)),.v (yf u),.v (.str (zU L R1 u)),y7,O]):=by simp[c1]
   have hb:(zY 7 (x2 mIx (xFn uY (zc (za 3) (zc (za 5) zg))) (xC (.int 0)))) [.v (.scr ns),.v (.int (L:Int)),.v (zn L R1),.v (zn L R2),.v (zn L (zH L R1 R2)),.v (yf u),.v (.str (zU L R1 u)),y7,O]=some (.nx [.v (.scr ns),.v (.int (L:Int)),.v (zn L R1),.v (zn L R2),.v (zn L (zH L R1 R2)),.v (yf u),.v (.str (zU L R1 u)),.v (.str (zU L R2 u)),O]):=by simp[c2]
   refine⟨[.v (.scr ns),.v (.int (L:Int)),.v (zn L R1),.v (zn L R2),.v (zn L (zH L R1 R2)),.v (yf u),y6,y7,O],[.v (.scr ns),.v (.int (L:Int)),.v (zn L R1),.v (zn L R2),.v (zn L (zH L R1 R2)),.v (yf u),.v (.str (zU L R1 u)),.v (.str (zU L R2 u)),.v (.str (if zU L R1 u=yk then zU L R2 u else zU L R1 u))],rfl,?_,_,_,_,_,rfl⟩
   unfold WZ
   rw[ye,ha,yc,ye,hb,yc,ye]
   have ao:(zY 8 (za 6)) [.v (.scr ns),.v (.int (L:Int)),.v (zn L R1),.v (zn L R2),.v (zn L (zH L R1 R2)),.v (yf u),.v (.str (zU L R1 u)),.v (.str (zU L R2 u)),O]=some (.nx [.v (.scr ns),.v (.int (L:Int)),.v (zn L R1),.v (zn L R2),.v (zn L (zH L R1 R2)),.v (yf u),.v (.str (zU L R1 u)),.v (.str (zU L R2 u)),.v (.str (zU L R1 u))]):=rfl
   rw[ao,yc,ye]
   have J:∀z:aC,eD z=true->mEq true (.d (.str z)) (.d (.str z))=some (.bl false):=λz hz=>zaq (n:=1) (OkD.str hz)
   by_cases Y:zU L R1 u=yk
   ·have ac:(zU L R1 u==yk)=true:=by simpa using Y
    rw[ac]at U
    simp only[if_pos Y]at c3 ⊢
    have hz:=J _ o2
    have ad:(sIf (xT (x2 (mEq false) (za 6) (xC (.str "yes")))) (zY 8 (za 7)) yr) [.v (.scr ns),.v (.int (L:Int)),.v (zn L R1),.v (zn L R2),.v (zn L (zH L R1 R2)),.v (yf u),.v (.str (zU L R1 u)),.v (.str (zU L R2 u)),.v (.str (zU L R1 u))]=some (.nx [.v (.scr ns),.v (.int (L:Int)),.v (zn L R1),.v (zn L R2),.v (zn L (zH L R1 R2)),.v (yf u),.v (.str (zU L R1 u)),.v (.str (zU L R2 u)),.v (.str (zU L R2 u))]):=by simp[U]
    rw[ad,yc]
    simp[c3,hz]
   ·have ac:(zU L R1 u==yk)=false:=by simpa using Y
    rw[ac]at U
    simp only[if_neg Y]at c3 ⊢
    have hz:=J _ o1
    have ad:(sIf (xT (x2 (mEq false) (za 6) (xC (.str "yes")))) (zY 8 (za 7)) yr) [.v (.scr ns),.v (.int (L:Int)),.v (zn L R1),.v (zn L R2),.v (zn L (zH L R1 R2)),.v (yf u),.v (.str (zU L R1 u)),.v (.str (zU L R2 u)),.v (.str (zU L R1 u))]=some (.nx [.v (.scr ns),.v (.int (L:Int)),.v (zn L R1),.v (zn L R2),.v (zn L (zH L R1 R2)),.v (yf u),.v (.str (zU L R1 u)),.v (.str (zU L R2 u)),.v (.str (zU L R1 u))]):=by simp[U]
    rw[ad,yc]
    simp[c3,hz])
 refine zZ rfl ?_
 have ah:YN [.scr ns,.int 0,.int 2]=some (.int v):=ak
 have ap:(1:Int)+(v:Int)=(L:Int):=by omega
 have ai:WU [.scr ns,.int 1,.int L,.int 2]=some (zn L R1):=al
 have aj:WU [.scr ns,.int 20,.int L,.int 2]=some (zn L R2):=am
 generalize us.map yf=ds at hU w1
 subst hg
 simp[zdM,zC,ah,ap,ai,aj,ka,kd,an,hU,w1]
 have aq:YM [zn L R1,.str "yes"]=some (yY L q1 g1):=e1
 have ar:YM [zn L R2,.str "yes"]=some (yY L q2 g2):=e2
 have au:YM [zn L (zH L R1 R2),.str "yes"]=some (yY L q4 g4):=e3
 simp[aq,ar,au,e4,he]
end Py
namespace Py
open PySem PySem.Spec L2 DD
open PyProof.Rows hiding St
theorem yU(a:j.kind=.function:=by rfl)(b:j.isCoroutine=false:=by rfl)(c:j.isGenerator=false:=by rfl)(d:N.Nodup:=by decide+kernel)(e:N.take P.length=P:=by rfl)(f:∀x∈P,j.names.lookup x=some .local\/j.names.lookup x=some .cell:=by decide+kernel)(g:∀y∈j.names,y.2≠.free:=by decide+kernel):FnScope N P j:=⟨a,b,c,d,e,f,g⟩
def top(i:Nat):aM:=PySem.Challenge.pw_backhead_k11_whole_one_after.main.body.getD i (.Pass ⟨0,0,0,0⟩)
structure Bi (mg:aC->Option aB):Prop where
 all:mg "all"=none
 bool:mg "bool"=none
 dict:mg "dict"=none
 divmod:mg "divmod"=none
 enumerate:mg "enumerate"=none
 int:mg "int"=none
 isinstance:mg "isinstance"=none
 len:mg "len"=none
 list:mg "list"=none
 range:mg "range"=none
 str:mg "str"=none
 tuple:mg "tuple"=none
 zip:mg "zip"=none
section
variable {P:aS} {w:aO} {K:aE} {mg:aC->Option aB} {base:aK} {fa:aA} {fd:bQ}
abbrev zhl:aM:=top 11
theorem zlF:FnScope ["thing","low","high"] ["thing","low","high"] (zq zhl):=yU
theorem zlG(q:Fun K "is_number" "is_number" zhl fa fd)(z:mg "is_number"=some (.ref fa))(j:Bi mg):Callee P w K mg base 1 "is_number" uN :=
 zJ (k:=0) (f:=zdq) q z zlF (q.binds λ_ _ _ _ _ _ us I=>match us,I with|[_,_,_],_=>rfl) λcdv A outer s H E J=>
  (zh (yZ (t_w (JH (xh (zN xD wF rfl j.isinstance eI (zb (zd (pv 0)) (zb (v5 .bl rfl j.bool boot_bool) zf)))) (Vf (ve (xh (zN xD wF rfl j.isinstance eI (zb (zd (pv 0)) (zb (v5 .int rfl j.int nr) zf)))))))) (zo (zM vY)) yn) (zo (zM (zbT W7 Je W7 Je (zd (pv 1)) (zd (pv 0)) (zd (pv 2))))))
abbrev zd4:aM:=top 12
theorem zkv:FnScope ["thing","low","high"] ["thing","low","high"] (zq zd4):=yU
theorem zkw(q:Fun K "is_row" "is_row" zd4 fa fd)(z:mg "is_row"=some (.ref fa))(j:Bi mg):Callee P w K mg base 1 "is_row" vu :=
 zJ (k:=0) (f:=Jn) q z zkv (q.binds λ_ _ _ _ _ _ us I=>match us,I with|[_,_,_],_=>rfl) λcdv A outer s H E J=>
  (zo (zM (Vh (zN xD wF rfl j.isinstance eI (zb (zd (pv 0)) (zb (v5 .tup rfl j.tuple dW) zf))) (Vg (zbT W7 Je W7 Je (zd (pv 1)) (zN zz yR rfl j.len bP (zb (zd (pv 0)) zf)) (zd (pv 2)))))))
abbrev zd5:aM:=top 13
theorem zkx:FnScope ["column","letters"] ["column","letters"] (zq zd5):=yU
theorem zky(j:Fun K "ways_at" "ways_at" zd5 fa fd)(z:mg "ways_at"=some (.ref fa))(J:Bi mg):Callee P w K mg base 1 "ways_at" Jo :=
 zJ (k:=0) (f:=VU) j z zkx (j.binds λ_ _ _ _ _ _ us I=>match us,I with|[_,_],_=>rfl) λcdv A outer s H E q=>
  (zh (yZ (xM (wP (Room.units q)) wM (zd (pv 0)) zj (yF _)) (zo (zM (yM (zb zj zf)))) yn) (zh (yZ (xM (wP (Room.units q)) wM (zd (pv 0)) (zX zD zE (zd (pv 1)) zj) (yF _)) (zo (zM (yM (zb (uy zj) zf)))) yn) (zo (zM (yM (by refine zb ?_ ?_;(· exact zj);refine zb ?_ ?_;(· exact(uy zj));exact zf))))))
abbrev zd6:aM:=top 14
theorem zkz:FnScope ["move","count","ways"] ["move","count","ways"] (zq zd6):=yU
theorem zkA(J:Fun K "is_move" "is_move" zd6 fa fd)(R:mg "is_move"=some (.ref fa))(O:Bi mg)(z:Callee P w K mg base 1 "is_row" vu)(q:Callee P w K mg base 1 "is_number" uN)(j:GlobT K mg "ENDS" [(.str "yes"),(.str "no")]):Callee P w K mg base 2 "is_move" Jq :=
 zJ (k:=1) (f:=Jp) J R zkz (J.binds λ_ _ _ _ _ _ us U=>match us,U with|[_,_,_],_=>rfl) λcdv A outer s H E I=>
  (zh (yZ (xh (zN xD wF rfl O.isinstance eI (zb (zd (pv 0)) (zb (v5 .str rfl O.str fS) zf)))) (zo (zM (Zw (JP (uj I)) Jg (zd (pv 0)) (zbZ j rfl) (by with_unfolding_all rfl)))) yn) (zh (yZ (t_w (JH (ve (xh (zx z I (by decide) rfl (zb (zd (pv 0)) (zb zj (zb zj zf)))))) (Vf (ve (xh (zx q I (by decide) rfl (by refine zb ?_ ?_;(· exact(zF (zd (pv 0)) zj (λ_ _=>rfl)));refine zb ?_ ?_;(· exact zj);refine zb ?_ ?_;(· exact(zX Y5 Xb (zd (pv 1)) zj));exact zf))))))) (zo (zM vY)) yn) (zo (zM (Vh (zx q I (by decide) rfl (by refine zb ?_ ?_;(· exact(zF (zd (pv 0)) zj (λ_ _=>rfl)));refine zb ?_ ?_;(· exact(uy zj));refine zb ?_ ?_;(· exact zj);exact zf)) (Vg (Zw (JP (uj I)) Jg (zF (zd (pv 0)) zj (λ_ _=>rfl)) (zd (pv 2)) (by with_unfolding_all rfl))))))))
abbrev zd7:aM:=top 15
theorem zkB:FnScope ["room","count","letters"] ["room","count","letters"] (zq zd7):=yU
theorem zkC(J:Fun K "is_room" "is_room" zd7 fa fd)(R:mg "is_room"=some (.ref fa))(O:Bi mg)(j:Callee P w K mg base 1 "is_row" vu)(q:Callee P w K mg base 1 "ways_at" Jo)(z:Callee P w K mg base 2 "is_move" Jq):Callee P w K mg base 3 "is_room" Jr :=
 zJ (k:=2) (f:=zdr) J R zkB (J.binds λ_ _ _ _ _ _ us U=>match us,U with|[_,_,_],_=>rfl) λcdv A outer s H E I=>
  (zh (yZ (ve (xh (zx j I (by decide) rfl (by refine zb ?_ ?_;(· exact(zd (pv 0)));refine zb ?_ ?_;(· exact(zX zD zE (zd (pv 2)) zj));refine zb ?_ ?_;(· exact(zX zD zE (zd (pv 2)) zj));exact zf)))) (zo (zM vY)) yn) (zo (zM (zN (vE rfl) Xd rfl O.all kB (zb (y2 (wm (N:=["column","move","count","letters"]) (ms:=[none,none,some 1,some 2]) rfl (CompOk.of (by rfl)) (wx (zbY rfl O.enumerate (zb (zd (pv 0)) zf))) ⟨λ_ _ _ _ _=>⟨(Yx rfl (wb (zV (i:=0) (show(["column","move","count","letters"]:List aC).Nodup by decide+kernel) rfl (Or.inl rfl)) (wb (zV (i:=1) (show(["column","move","count","letters"]:List aC).Nodup by decide+kernel) rfl (Or.inl rfl)) Zj))),xO,(zx z I (by decide) rfl (by refine zb ?_ ?_;(· exact(zd (pv 1)));refine zb ?_ ?_;(· exact(zd (pv 2)));refine zb ?_ ?_;(· exact(zx q I (by decide) rfl (zb (zd (pv 0)) (zb (zd (pv 3)) zf))));exact zf))⟩⟩ (xE (by decide)) (xF (by decide)))) zf)))))
abbrev zhm:aM:=top 16
theorem zh2:FnScope ["thing","rooms"] ["thing"] (zq zhm):=yU
theorem zlH(Y:Fun K "is_machine" "is_machine" zhm fa fd)(hm:mg "is_machine"=some (.ref fa))(Z:Bi mg)(I:Callee P w K mg base 1 "is_row" vu)(R:Callee P w K mg base 1 "is_number" uN)(O:Callee P w K mg base 3 "is_room" Jr)(j:mg "MOST_LETTERS"=some (.int 3 z))(q:mg "MOST_ROOMS"=some (.int 12 J)):Callee P w K mg base 4 "is_machine" zds :=
 zJ (k:=3) (f:=zgK) Y hm zh2 (Y.binds λ_ _ _ _ _ _ us hl=>match us,hl with|[_],_=>rfl) λcdv A outer s H E U=>
  (zh (yZ (t_w (JH (ve (xh (zx I U (by decide) rfl (zb (zd (pv 0)) (zb zj (zb zj zf)))))) (Vf (ve (xh (zx R U (by decide) rfl (by refine zb ?_ ?_;(· exact(zF (zd (pv 0)) zj (λ_ _=>rfl)));refine zb ?_ ?_;(· exact zj);refine zb ?_ ?_;(· exact(Z2 rfl j));exact zf))))))) (zo (zM vY)) yn) (zh (yu (i:=1) zh2.nd rfl (Or.inr rfl) (zF (zd (pv 0)) zj (λ_ _=>rfl))) (zh (yZ (ve (xh (zx I U (by decide) rfl (zb (zd (pv 1)) (zb zj (zb (Z2 rfl q) zf)))))) (zo (zM vY)) yn) (zo (zM (zN (vE rfl) Xd rfl Z.all kB (zb (y2 (wm (N:=["room","rooms","thing"]) (ms:=[none,some 1,some 0]) rfl (CompOk.of (by rfl)) (wx (xZ (zd (pv 1)))) ⟨λ_ _ _ _ _=>⟨(zV (i:=0) (show(["room","rooms","thing"]:List aC).Nodup by decide+kernel) rfl (Or.inl rfl)),xO,(zx O U (by decide) rfl (by refine zb ?_ ?_;(· exact(zd (pv 0)));refine zb ?_ ?_;(· exact(zN zz yR rfl Z.len bP (zb (zd (pv 1)) zf)));refine zb ?_ ?_;(· exact(zF (zd (pv 2)) zj (λ_ _=>rfl)));exact zf))⟩⟩ (xE (by decide)) (xF (by decide)))) zf)))))))
abbrev zd8:aM:=top 17
theorem zkD:FnScope ["machine"] ["machine"] (zq zd8):=yU
theorem zkE(q:Fun K "checked" "checked" zd8 fa fd)(z:mg "checked"=some (.ref fa))(O:Bi mg)(j:Callee P w K mg base 4 "is_machine" zds):Callee P w K mg base 5 "checked" ZE :=
 zJ (k:=4) (f:=zdt) q z zkD (q.binds λ_ _ _ _ _ _ us I=>match us,I with|[_],_=>rfl) λcdv A outer s H E J=>
  (zh (yZ (ve (xh (zx j J (by decide) rfl (zb (zd (pv 0)) zf)))) (zo JL) yn) (zo (zM (zd (pv 0)))))
abbrev zd9:aM:=top 19
theorem zkF:FnScope ["machine","column"] ["machine","column"] (zq zd9):=yU
theorem zkG(j:Fun K "moves_at" "moves_at" zd9 fa fd)(q:mg "moves_at"=some (.ref fa))(I:Bi mg):Callee P w K mg base 1 "moves_at" v9 :=
 zJ (k:=0) (f:=zdu) j q zkF (j.binds λ_ _ _ _ _ _ us z=>match us,z with|[_,_],_=>rfl) λcdv A outer s H E J=>
  (zo (zM (y2 (wm (N:=["room","column"]) (ms:=[none,some 1]) rfl (CompOk.of (by rfl)) (wx (xZ (zF (zd (pv 0)) zj (λ_ _=>rfl)))) ⟨λ_ _ _ _ _=>⟨(zV (i:=0) (show(["room","column"]:List aC).Nodup by decide+kernel) rfl (Or.inl rfl)),xO,(zF (zd (pv 0)) (zd (pv 1)) (λ_ _=>rfl))⟩⟩ (xE (by decide)) (xF (by decide))))))
abbrev zea:aM:=top 20
theorem zkH:FnScope ["ends","first"] ["ends","first"] (zq zea):=yU
theorem zkI(j:Fun K "told" "told" zea fa fd)(q:mg "told"=some (.ref fa))(z:Bi mg):Callee P w K mg base 1 "told" YJ :=
 zJ (k:=0) (f:=zdv) j q zkH (j.binds λ_ _ _ _ _ _ us I=>match us,I with|[_,_],_=>rfl) λcdv A outer s H E J=>
  (zo (zM (xn yx xS rfl z.tuple dW (zb (zX zD zE (y2 (xu (zb (zd (pv 1)) zf))) (zd (pv 0))) zf))))
abbrev zhn:aM:=top 21
theorem zh3:FnScope ["machine","ends"] ["machine"] (zq zhn):=yU
theorem zlI(z:Fun K "done_by_none" "done_by_none" zhn fa fd)(O:mg "done_by_none"=some (.ref fa))(I:Bi mg)(j:Callee P w K mg base 1 "moves_at" v9)(q:Callee P w K mg base 1 "told" YJ):Callee P w K mg base 2 "done_by_none" zdw :=
 zJ (k:=1) (f:=zgL) z O zh3 (z.binds λ_ _ _ _ _ _ us R=>match us,R with|[_],_=>rfl) λcdv A outer s H E J=>
  (zh (Z6 (i:=1) (N:=["move"]) (ms:=[none]) rfl (CompOk.of (by rfl)) (wx (xZ (zx j J (by decide) rfl (zb (zd (pv 0)) (zb zj zf))))) ⟨λ_ _ _ _ _=>⟨(zV (i:=0) (show(["move"]:List aC).Nodup by decide+kernel) rfl (Or.inl rfl)),xO,(zfY (xh (zN xD wF rfl I.isinstance eI (zb (zd (pv 0)) (zb (v5 .str rfl I.str fS) zf)))) (zd (pv 0)) (zF (zd (pv 0)) zj (λ_ _=>rfl)))⟩⟩ (xE (by decide)) (xF (by decide)) zh3.nd rfl (Or.inl rfl)) (zo (zM (zx q J (by decide) rfl (by refine zb ?_ ?_;(· exact(zd (pv 1)));refine zb ?_ ?_;(· exact(zF (zd (pv 1)) zj (λ_ _=>rfl)));exact zf)))))
abbrev zho:aM:=top 22
theorem Wn:FnScope ["room","moves","done","at","visit","move","back"] ["room","moves","done"] (zq zho):=yU
theorem zlJ(q:Fun K "what_comes_of" "what_comes_of" zho fa fd)(z:mg "what_comes_of"=some (.ref fa))(j:Bi mg):Callee P w K mg base 1 "what_comes_of" WS :=
 zJ (k:=0) (f:=zdx) q z Wn (q.binds λ_ _ _ _ _ _ us I=>match us,I with|[_,_,_],_=>rfl) λcdv A outer s H E J=>
  (zh (yu (i:=3) Wn.nd rfl (Or.inl rfl) (zd (pv 0))) (zh (vn cH rfl (wW rfl j.range (zb (zN zz yR rfl j.len bP (zb (zd (pv 1)) zf)) zf)) (zV (i:=4) Wn.nd rfl (Or.inl rfl)) (zh (yu (i:=5) Wn.nd rfl (Or.inl rfl) (zF (zd (pv 1)) (zd (pv 3)) (λ_ _=>rfl))) (zh (yZ (xh (zN xD wF rfl j.isinstance eI (zb (zd (pv 5)) (zb (v5 .str rfl j.str fS) zf)))) (zo (zM (zd (pv 5)))) yn) (zh (yZ (xM (wP (Room.units J)) wM (zF (zd (pv 5)) zj (λ_ _=>rfl)) zj (yF _)) (zo (zM (zF (zd (pv 5)) zj (λ_ _=>rfl)))) yn) (zh (yu (i:=6) Wn.nd rfl (Or.inl rfl) (zF (zd (pv 2)) (zX zD zE (zF (zd (pv 5)) zj (λ_ _=>rfl)) zj) (λ_ _=>rfl))) (zh (yZ (xh (zN xD wF rfl j.isinstance eI (zb (zd (pv 6)) (zb (v5 .str rfl j.str fS) zf)))) (zo (zM (zd (pv 6)))) yn) (zo (yu (i:=3) Wn.nd rfl (Or.inl rfl) (zd (pv 6)))))))))) (zo (zM ux))))
abbrev zhp:aM:=top 23
theorem zeb:FnScope ["moves","done","ends","first"] ["moves","done"] (zq zhp):=yU
theorem zlK(J:Fun K "done_with" "done_with" zhp fa fd)(O:mg "done_with"=some (.ref fa))(z:Bi mg)(q:Callee P w K mg base 1 "what_comes_of" WS)(j:Callee P w K mg base 1 "told" YJ):Callee P w K mg base 2 "done_with" zdz :=
 zJ (k:=1) (f:=zdy) J O zeb (J.binds λ_ _ _ _ _ _ us R=>match us,R with|[_,_],_=>rfl) λcdv A outer s H E I=>
  (zh (Z6 (i:=2) (N:=["room","moves","done"]) (ms:=[none,some 0,some 1]) rfl (CompOk.of (by rfl)) (wx (wW rfl z.range (zb (zN zz yR rfl z.len bP (zb (zd (pv 0)) zf)) zf))) ⟨λ_ _ _ _ _=>⟨(zV (i:=0) (show(["room","moves","done"]:List aC).Nodup by decide+kernel) rfl (Or.inl rfl)),xO,(zx q I (by decide) rfl (zb (zd (pv 0)) (zb (zd (pv 1)) (zb (zd (pv 2)) zf))))⟩⟩ (xE (by decide)) (xF (by decide)) zeb.nd rfl (Or.inl rfl)) (zh (yu (i:=3) zeb.nd rfl (Or.inl rfl) (zF (zd (pv 1)) zj (λ_ _=>rfl))) (zh (yZ (xh (zN xD wF rfl z.isinstance eI (zb (zd (pv 3)) (zb (v5 .str rfl z.str fS) zf)))) (zo (zM (zx j I (by decide) rfl (zb (zd (pv 2)) (zb (zd (pv 3)) zf))))) yn) (zo (zM (zx j I (by decide) rfl (by refine zb ?_ ?_;(· exact(zd (pv 2)));refine zb ?_ ?_;(· exact(zF (zd (pv 2)) (zd (pv 3)) (λ_ _=>rfl)));exact zf)))))))
abbrev zec:aM:=top 24
theorem zkJ:FnScope ["machine","done"] ["machine","done"] (zq zec):=yU
theorem zkK(z:Fun K "fate_of" "fate_of" zec fa fd)(O:mg "fate_of"=some (.ref fa))(I:Bi mg)(j:Callee P w K mg base 1 "moves_at" v9)(q:Callee P w K mg base 1 "what_comes_of" WS):Callee P w K mg base 2 "fate_of" VW :=
 zJ (k:=1) (f:=Js) z O zkJ (z.binds λ_ _ _ _ _ _ us R=>match us,R with|[_,_],_=>rfl) λcdv A outer s H E J=>
  (zh (yZ (xh (zN xD wF rfl I.isinstance eI (by refine zb ?_ ?_;(· exact(zF (zd (pv 1)) zj (λ_ _=>rfl)));refine zb ?_ ?_;(· exact(v5 .str rfl I.str fS));exact zf))) (zo (zM (zF (zd (pv 1)) zj (λ_ _=>rfl)))) yn) (zo (zM (zx q J (by decide) rfl (by refine zb ?_ ?_;(· exact(zF (zd (pv 1)) zj (λ_ _=>rfl)));refine zb ?_ ?_;(· exact(zx j J (by decide) rfl (by refine zb ?_ ?_;(· exact(zd (pv 0)));refine zb ?_ ?_;(· exact(zX zD zE (zF (zd (pv 0)) zj (λ_ _=>rfl)) zj));exact zf)));refine zb ?_ ?_;(· exact(zd (pv 1)));exact zf)))))
abbrev zhq:aM:=top 25
theorem ud:FnScope ["machine","columns","found","numbers","rows","word","done","row","letter","moves","more"] ["machine"] (zq zhq):=yU
theorem zlL(O:Fun K "explored" "explored" zhq fa fd)(R:mg "explored"=some (.ref fa))(j:Bi mg)(q:Callee P w K mg base 1 "moves_at" v9)(I:Callee P w K mg base 2 "done_by_none" zdw)(J:Callee P w K mg base 2 "done_with" zdz):Callee P w K mg base 3 "explored" zaN :=
 zJ (k:=2) (f:=zgM) O R ud (O.binds λ_ _ _ _ _ _ us U=>match us,U with|[_],_=>rfl) λcdv A outer s H E z=>
  (zh (Z6 (i:=1) (N:=["letter","machine"]) (ms:=[none,some 0]) rfl (CompOk.of (by rfl)) (wx (wW rfl j.range (zb (zF (zd (pv 0)) zj (λ_ _=>rfl)) zf))) ⟨λ_ _ _ _ _=>⟨(zV (i:=0) (show(["letter","machine"]:List aC).Nodup by decide+kernel) rfl (Or.inl rfl)),xO,(zx q z (by decide) rfl (by refine zb ?_ ?_;(· exact(zd (pv 1)));refine zb ?_ ?_;(· exact(zX zD zE (zd (pv 0)) zj));exact zf))⟩⟩ (xE (by decide)) (xF (by decide)) ud.nd rfl (Or.inl rfl)) (zh (vH (i:=2) ud.nd rfl (Or.inl rfl) (xu (zb (yM (by refine zb ?_ ?_;(· exact(yM zf));refine zb ?_ ?_;(· exact(zx I z (by decide) rfl (zb (zd (pv 0)) zf)));exact zf)) zf))) (zh (zir (i:=3) (wB z) ud.nd rfl (Or.inl rfl) (zF (zF (zd (pv 2)) zj (λ_ _=>rfl)) zj (λ_ _=>rfl)) zj) (zh (vH (i:=4) ud.nd rfl (Or.inl rfl) (xu zf)) (zh (Up (n:=WF) cH (xM XJ Vj (zN zz yR rfl j.len bP (zb (zd (pv 4)) zf)) (zN zz yR rfl j.len bP (zb (zd (pv 2)) zf)) (yF _)) (zh (yu (i:=5) ud.nd rfl (Or.inl rfl) (zF (zF (zd (pv 2)) (zN zz yR rfl j.len bP (zb (zd (pv 4)) zf)) (λ_ _=>rfl)) zj (λ_ _=>rfl))) (zh (yu (i:=6) ud.nd rfl (Or.inl rfl) (zF (zF (zd (pv 2)) (zN zz yR rfl j.len bP (zb (zd (pv 4)) zf)) (λ_ _=>rfl)) zj (λ_ _=>rfl))) (zh (vH (i:=7) ud.nd rfl (Or.inl rfl) (xu zf)) (zh (vn cH rfl (XT rfl j.enumerate (zb (zd (pv 1)) zf)) (Yx rfl (wb (zV (i:=8) ud.nd rfl (Or.inl rfl)) (wb (zV (i:=9) ud.nd rfl (Or.inl rfl)) Zj))) (zh (yu (i:=10) ud.nd rfl (Or.inl rfl) (zx J z (by decide) rfl (zb (zd (pv 9)) (zb (zd (pv 6)) zf)))) (zh (yZ (xM (WI (wB z)) JX (zd (pv 10)) (zd (pv 3)) (by with_unfolding_all rfl)) (zh (JY (i:=3) (wB z) (pv 3) (zd (pv 10)) (zN zz yR rfl j.len bP (zb (zd (pv 2)) zf))) (zo (vI (i:=2) (h1:=xl cG cM cR yw (pv 2) (zm (yM (by refine zb ?_ ?_;(· exact(zX zD zE (zd (pv 5)) (yM (zb (zd (pv 8)) zf))));refine zb ?_ ?_;(· exact(zd (pv 10)));exact zf)) zy))))) yn) (zo (vI (i:=7) (h1:=xl cG cM cR yw (pv 7) (zm (zeL (wB z) (zd (pv 3)) (zd (pv 10)) (λ_ _=>rfl)) zy))))))) (zo (vI (i:=4) (h1:=xl cG cM cR yw (pv 4) (zm (xn yx xS rfl j.tuple dW (zb (zd (pv 7)) zf)) zy))))))))) (uE (i:=4) (uE (i:=2) (zo (zM (yM (zb (zd (pv 2)) (zb (zd (pv 4)) zf))))))))))))
abbrev zhr:aM:=top 31
theorem YY:FnScope ["rows","order","known","at","row","goal"] ["rows"] (zq zhr):=yU
theorem zlM(j:Fun K "reached_in_order" "reached_in_order" zhr fa fd)(z:mg "reached_in_order"=some (.ref fa))(I:Bi mg):Callee P w K mg base 1 "reached_in_order" YK :=
 zJ (k:=0) (f:=UQ) j z YY (j.binds λ_ _ _ _ _ _ us J=>match us,J with|[_],_=>rfl) λcdv A outer s H E q=>
  (zh (vH (i:=1) YY.nd rfl (Or.inl rfl) (xu (zb zj zf))) (zh (zix (i:=2) YY.nd rfl (Or.inl rfl)) (zh (yu (i:=3) YY.nd rfl (Or.inl rfl) zj) (zh (Up (n:=WF) cH (xM XJ Vj (zd (pv 3)) (zN zz yR rfl I.len bP (zb (zd (pv 1)) zf)) (yF _)) (zh (yu (i:=4) YY.nd rfl (Or.inl rfl) (zF (zd (pv 0)) (zF (zd (pv 1)) (zd (pv 3)) (λ_ _=>rfl)) (λ_ _=>rfl))) (zh (vn cH rfl (xZ (zd (pv 4))) (zV (i:=5) YY.nd rfl (Or.inl rfl)) (zo (yZ (xM (WI (wB q)) JX (zd (pv 5)) (zd (pv 2)) (by with_unfolding_all rfl)) (zh (JY (i:=2) (wB q) (pv 2) (zd (pv 5)) vY) (zo (vI (i:=1) (h1:=xl cG cM cR yw (pv 1) (zm (zd (pv 5)) zy))))) yn))) (zo (zll (i:=3) YY.nd rfl (Or.inl rfl) zj))))) (uE (i:=1) (zo (zM (zd (pv 1)))))))))
abbrev zhs:aM:=top 32
theorem zlN:FnScope ["rows","kept","numbers"] ["rows","kept","numbers"] (zq zhs):=yU
theorem zlO(j:Fun K "renumbered" "renumbered" zhs fa fd)(z:mg "renumbered"=some (.ref fa))(q:Bi mg):Callee P w K mg base 1 "renumbered" ua :=
 zJ (k:=0) (f:=UR) j z zlN (j.binds λ_ _ _ _ _ _ us I=>match us,I with|[_,_,_],_=>rfl) λcdv A outer s H E J=>
  (zo (zM (xn yx xS rfl q.tuple dW (zb (y2 (wm (N:=["stand","rows","numbers"]) (ms:=[none,some 0,some 2]) rfl (CompOk.of (by rfl)) (wx (xZ (zd (pv 1)))) ⟨λ_ _ _ _ _=>⟨(zV (i:=0) (show(["stand","rows","numbers"]:List aC).Nodup by decide+kernel) rfl (Or.inl rfl)),xO,(xn yx xS rfl q.tuple dW (zb (y2 (wm (N:=["goal","numbers"]) (ms:=[none,some 2]) rfl (CompOk.of (by rfl)) (wx (xZ (zF (zd (pv 1)) (zd (pv 0)) (λ_ _=>rfl)))) ⟨λ_ _ _ _ _=>⟨(zV (i:=0) (show(["goal","numbers"]:List aC).Nodup by decide+kernel) rfl (Or.inl rfl)),xO,(zlm (wB J) (zd (pv 1)) (zd (pv 0)) (λ_ _=>rfl))⟩⟩ (xE (by decide)) (xF (by decide)))) zf))⟩⟩ (xE (by decide)) (xF (by decide)))) zf))))
abbrev zht:aM:=top 33
theorem ue:FnScope ["letters","rows","good","order","places","near","marks","part_of","numbers","kept","stand","part","rows_kept"] ["letters","rows","good"] (zq zht):=yU
theorem zlP(O:Fun K "least_reader" "least_reader" zht fa fd)(R:mg "least_reader"=some (.ref fa))(z:Bi mg)(I:Callee P w K mg base 1 "reached_in_order" YK)(j:Callee P w K mg base 1 "renumbered" ua)(J:Callee P w K mg base 3 "parts_of_stands" zgJ):Callee P w K mg base 4 "least_reader" uO :=
 zJ (k:=3) (f:=zgN) O R ue (O.binds λ_ _ _ _ _ _ us U=>match us,U with|[_,_,_],_=>rfl) λcdv A outer s H E q=>
  (zh (yu (i:=3) ue.nd rfl (Or.inl rfl) (zx I q (by decide) rfl (zb (zd (pv 1)) zf))) (zh (ziw (i:=4) rfl ue.nd rfl (Or.inl rfl) rfl z.dict (zb (y2 (wm (N:=["place","stand"]) (ms:=[none,none]) rfl (CompOk.of (by rfl)) (wx (XT rfl z.enumerate (zb (zd (pv 3)) zf))) ⟨λ_ _ _ _ _=>⟨(Yx rfl (wb (zV (i:=0) (show(["place","stand"]:List aC).Nodup by decide+kernel) rfl (Or.inl rfl)) (wb (zV (i:=1) (show(["place","stand"]:List aC).Nodup by decide+kernel) rfl (Or.inl rfl)) Zj))),xO,(yM (zb (zd (pv 1)) (zb (zd (pv 0)) zf)))⟩⟩ (xE (by decide)) (xF (by decide)))) zf)) (uE (i:=4) (zh (yu (i:=5) ue.nd rfl (Or.inl rfl) (zx j q (by decide) rfl (zb (zd (pv 1)) (zb (zd (pv 3)) (zb (zd (pv 4)) zf))))) (zh (yu (i:=6) ue.nd rfl (Or.inr rfl) (y2 (wm (N:=["stand","good"]) (ms:=[none,some 2]) rfl (CompOk.of (by rfl)) (wx (xZ (zd (pv 3)))) ⟨λ_ _ _ _ _=>⟨(zV (i:=0) (show(["stand","good"]:List aC).Nodup by decide+kernel) rfl (Or.inl rfl)),xO,(zF (zd (pv 1)) (zd (pv 0)) (λ_ _=>rfl))⟩⟩ (xE (by decide)) (xF (by decide))))) (zh (yu (i:=7) ue.nd rfl (Or.inl rfl) (zx J q (by decide) rfl (zb (zd (pv 0)) (zb (zd (pv 5)) (zb (zd (pv 6)) zf))))) (zh (zjQ (i:=8) ue.nd rfl (Or.inr rfl)) (zh (vH (i:=9) ue.nd rfl (Or.inl rfl) (xu zf)) (zh (vn cH rfl (XT rfl z.enumerate (zb (zd (pv 7)) zf)) (Yx rfl (wb (zV (i:=10) ue.nd rfl (Or.inl rfl)) (wb (zV (i:=11) ue.nd rfl (Or.inl rfl)) Zj))) (zo (yZ (xM (WI (wB q)) JX (zd (pv 11)) (zd (pv 8)) (by with_unfolding_all rfl)) (zh (JY (i:=8) (wB q) (pv 8) (zd (pv 11)) (zN zz yR rfl z.len bP (zb (zd (pv 9)) zf))) (zo (vI (i:=9) (h1:=xl cG cM cR yw (pv 9) (zm (zd (pv 10)) zy))))) yn))) (uE (i:=8) (uE (i:=9) (zh (yu (i:=12) ue.nd rfl (Or.inl rfl) (zx j q (by decide) rfl (by refine zb ?_ ?_;(· exact(zd (pv 5)));refine zb ?_ ?_;(· exact(zd (pv 9)));refine zb ?_ ?_;(· exact(y2 (wm (N:=["part","numbers"]) (ms:=[none,some 8]) rfl (CompOk.of (by rfl)) (wx (xZ (zd (pv 7)))) ⟨λ_ _ _ _ _=>⟨(zV (i:=0) (show(["part","numbers"]:List aC).Nodup by decide+kernel) rfl (Or.inl rfl)),xO,(zeL (wB q) (zd (pv 1)) (zd (pv 0)) (λ_ _=>rfl))⟩⟩ (xE (by decide)) (xF (by decide)))));exact zf))) (zo (zM (yM (by refine zb ?_ ?_;(· exact(zd (pv 0)));refine zb ?_ ?_;(· exact(zd (pv 12)));refine zb ?_ ?_;(· exact(xn yx xS rfl z.tuple dW (zb (y2 (wm (N:=["place","stand","marks"]) (ms:=[none,none,some 6]) rfl (CompOk.of (by rfl)) (wx (XT rfl z.enumerate (zb (zd (pv 9)) zf))) ⟨λ_ _ _ _ _=>⟨(Yx rfl (wb (zV (i:=0) (show(["place","stand","marks"]:List aC).Nodup by decide+kernel) rfl (Or.inl rfl)) (wb (zV (i:=1) (show(["place","stand","marks"]:List aC).Nodup by decide+kernel) rfl (Or.inl rfl)) Zj))),(zld (xh (zF (zd (pv 2)) (zd (pv 1)) (λ_ _=>rfl)))),(zd (pv 0))⟩⟩ (xE (by decide)) (xF (by decide)))) zf)));exact zf))))))))))))))))
abbrev zhu:aM:=top 37
theorem zlQ:FnScope ["thing","count"] ["thing","count"] (zq zhu):=yU
theorem zlR(z:Fun K "are_stands" "are_stands" zhu fa fd)(I:mg "are_stands"=some (.ref fa))(q:Bi mg)(j:Callee P w K mg base 1 "is_number" uN):Callee P w K mg base 2 "are_stands" zaO :=
 zJ (k:=1) (f:=zgO) z I zlQ (z.binds λ_ _ _ _ _ _ us J=>match us,J with|[_,_],_=>rfl) λcdv A outer s H E O=>
  (zo (zM (Vh (zN xD wF rfl q.isinstance eI (zb (zd (pv 0)) (zb (v5 .tup rfl q.tuple dW) zf))) (Vg (zN (vE rfl) Xd rfl q.all kB (zb (y2 (wm (N:=["stand","count"]) (ms:=[none,some 1]) rfl (CompOk.of (by rfl)) (wx (xZ (zd (pv 0)))) ⟨λ_ _ _ _ _=>⟨(zV (i:=0) (show(["stand","count"]:List aC).Nodup by decide+kernel) rfl (Or.inl rfl)),xO,(zx j O (by decide) rfl (by refine zb ?_ ?_;(· exact(zd (pv 0)));refine zb ?_ ?_;(· exact zj);refine zb ?_ ?_;(· exact(zX Y5 Xb (zd (pv 1)) zj));exact zf))⟩⟩ (xE (by decide)) (xF (by decide)))) zf))))))
abbrev zhv:aM:=top 38
theorem zlS:FnScope ["numbers"] ["numbers"] (zq zhv):=yU
theorem zlT(q:Fun K "is_rising" "is_rising" zhv fa fd)(z:mg "is_rising"=some (.ref fa))(j:Bi mg):Callee P w K mg base 1 "is_rising" zdA :=
 zJ (k:=0) (f:=zgP) q z zlS (q.binds λ_ _ _ _ _ _ us I=>match us,I with|[_],_=>rfl) λcdv A outer s H E J=>
  (zo (zM (zN (vE rfl) Xd rfl j.all kB (zb (y2 (wm (N:=["k","numbers"]) (ms:=[none,some 0]) rfl (CompOk.of (by rfl)) (wx (wW rfl j.range (zb (zX Y5 Xb (zN zz yR rfl j.len bP (zb (zd (pv 0)) zf)) zj) zf))) ⟨λ_ _ _ _ _=>⟨(zV (i:=0) (show(["k","numbers"]:List aC).Nodup by decide+kernel) rfl (Or.inl rfl)),xO,(Zw XJ Vj (zF (zd (pv 1)) (zd (pv 0)) (λ_ _=>rfl)) (zF (zd (pv 1)) (zX zD zE (zd (pv 0)) zj) (λ_ _=>rfl)) (yF _))⟩⟩ (xE (by decide)) (xF (by decide)))) zf))))
abbrev zhw:aM:=top 39
theorem zh4:FnScope ["thing","rows"] ["thing"] (zq zhw):=yU
theorem zlU(Fn:Fun K "is_reader" "is_reader" zhw fa fd)(hm:mg "is_reader"=some (.ref fa))(Z:Bi mg)(I:Callee P w K mg base 1 "is_row" vu)(U:Callee P w K mg base 1 "is_number" uN)(O:Callee P w K mg base 2 "are_stands" zaO)(Y:Callee P w K mg base 1 "is_rising" zdA)(j:mg "MOST_LETTERS"=some (.int 3 z))(q:mg "MOST_STANDS"=some (.int 2000 J)):Callee P w K mg base 3 "is_reader" zdB :=
 zJ (k:=2) (f:=zgQ) Fn hm zh4 (Fn.binds λ_ _ _ _ _ _ us hl=>match us,hl with|[_],_=>rfl) λcdv A outer s H E R=>
  (zh (yZ (t_w (JH (ve (xh (zx I R (by decide) rfl (zb (zd (pv 0)) (zb zj (zb zj zf)))))) (Vf (ve (xh (zx U R (by decide) rfl (by refine zb ?_ ?_;(· exact(zF (zd (pv 0)) zj (λ_ _=>rfl)));refine zb ?_ ?_;(· exact zj);refine zb ?_ ?_;(· exact(Z2 rfl j));exact zf))))))) (zo (zM vY)) yn) (zh (yu (i:=1) zh4.nd rfl (Or.inr rfl) (zF (zd (pv 0)) zj (λ_ _=>rfl))) (zh (yZ (ve (xh (zx I R (by decide) rfl (zb (zd (pv 1)) (zb zj (zb (Z2 rfl q) zf)))))) (zo (zM vY)) yn) (zh (yZ (ve (xh (zN (vE rfl) Xd rfl Z.all kB (zb (y2 (wm (N:=["row","rows","thing"]) (ms:=[none,some 1,some 0]) rfl (CompOk.of (by rfl)) (wx (xZ (zd (pv 1)))) ⟨λ_ _ _ _ _=>⟨(zV (i:=0) (show(["row","rows","thing"]:List aC).Nodup by decide+kernel) rfl (Or.inl rfl)),xO,(Vh (zx O R (by decide) rfl (by refine zb ?_ ?_;(· exact(zd (pv 0)));refine zb ?_ ?_;(· exact(zN zz yR rfl Z.len bP (zb (zd (pv 1)) zf)));exact zf)) (Vg (Zw (wP (Room.units R)) wM (zN zz yR rfl Z.len bP (zb (zd (pv 0)) zf)) (zF (zd (pv 2)) zj (λ_ _=>rfl)) (yF _))))⟩⟩ (xE (by decide)) (xF (by decide)))) zf)))) (zo (zM vY)) yn) (zo (zM (Vh (zx O R (by decide) rfl (by refine zb ?_ ?_;(· exact(zF (zd (pv 0)) zj (λ_ _=>rfl)));refine zb ?_ ?_;(· exact(zN zz yR rfl Z.len bP (zb (zd (pv 1)) zf)));exact zf)) (Vg (zx Y R (by decide) rfl (zb (zF (zd (pv 0)) zj (λ_ _=>rfl)) zf))))))))))
abbrev zhx:aM:=top 40
theorem zlV:FnScope ["reader"] ["reader"] (zq zhx):=yU
theorem zlW(q:Fun K "checked_reader" "checked_reader" zhx fa fd)(z:mg "checked_reader"=some (.ref fa))(O:Bi mg)(j:Callee P w K mg base 3 "is_reader" zdB):Callee P w K mg base 4 "checked_reader" WT :=
 zJ (k:=3) (f:=zgR) q z zlV (q.binds λ_ _ _ _ _ _ us I=>match us,I with|[_],_=>rfl) λcdv A outer s H E J=>
  (zh (yZ (ve (xh (zx j J (by decide) rfl (zb (zd (pv 0)) zf)))) (zo JL) yn) (zo (zM (zd (pv 0)))))
abbrev zed:aM:=top 41
theorem zbq:FnScope ["reader","marks","stand"] ["reader"] (zq zed):=yU
theorem zkL(j:Fun K "marks_of" "marks_of" zed fa fd)(q:mg "marks_of"=some (.ref fa))(I:Bi mg):Callee P w K mg base 1 "marks_of" YL :=
 zJ (k:=0) (f:=zdC) j q zbq (j.binds λ_ _ _ _ _ _ us z=>match us,z with|[_],_=>rfl) λcdv A outer s H E J=>
  (zh (zjI (i:=1) (N:=["row"]) (ms:=[none]) rfl (CompOk.of (by rfl)) (wx (xZ (zF (zd (pv 0)) zj (λ_ _=>rfl)))) ⟨λ_ _ _ _ _=>⟨(zV (i:=0) (show(["row"]:List aC).Nodup by decide+kernel) rfl (Or.inl rfl)),xO,vY⟩⟩ (xE (by decide)) (xF (by decide)) zbq.nd rfl (Or.inl rfl) (by rfl)) (zh (vn cH rfl (xZ (zF (zd (pv 0)) zj (λ_ _=>rfl))) (zV (i:=2) zbq.nd rfl (Or.inl rfl)) (zo (zjU (i:=1) (pv 1) (zd (pv 2)) vY))) (uE (i:=1) (zo (zM (zd (pv 1)))))))
abbrev zee:aM:=top 42
theorem zkM:FnScope ["reader"] ["reader"] (zq zee):=yU
theorem zkN(J:Fun K "least" "least" zee fa fd)(O:mg "least"=some (.ref fa))(U:Bi mg)(q:Callee P w K mg base 4 "checked_reader" WT)(j:Callee P w K mg base 1 "marks_of" YL)(z:Callee P w K mg base 4 "least_reader" uO):Callee P w K mg base 5 "least" VX :=
 zJ (k:=4) (f:=zdD) J O zkM (J.binds λ_ _ _ _ _ _ us R=>match us,R with|[_],_=>rfl) λcdv A outer s H E I=>
  (zh (Xc (zx q I (by decide) rfl (zb (zd (pv 0)) zf))) (zo (zM (zx z I (by decide) rfl (by refine zb ?_ ?_;(· exact(zF (zd (pv 0)) zj (λ_ _=>rfl)));refine zb ?_ ?_;(· exact(zF (zd (pv 0)) zj (λ_ _=>rfl)));refine zb ?_ ?_;(· exact(zx j I (by decide) rfl (zb (zd (pv 0)) zf)));exact zf)))))
abbrev zhy:aM:=top 43
theorem zef:FnScope ["machine","fate","table","good"] ["machine","fate"] (zq zhy):=yU
theorem zlX(R:Fun K "reader_of" "reader_of" zhy fa fd)(Y:mg "reader_of"=some (.ref fa))(U:Bi mg)(q:Callee P w K mg base 5 "checked" ZE)(J:Callee P w K mg base 3 "explored" zaN)(z:Callee P w K mg base 2 "fate_of" VW)(O:Callee P w K mg base 4 "least_reader" uO)(j:GlobT K mg "FATES" [(.str "yes"),(.str "no"),(.str "round")]):Callee P w K mg base 6 "reader_of" YM :=
 zJ (k:=5) (f:=zgS) R Y zef (R.binds λ_ _ _ _ _ _ us Z=>match us,Z with|[_,_],_=>rfl) λcdv A outer s H E I=>
  (zh (Xc (zx q I (by decide) rfl (zb (zd (pv 0)) zf))) (zh (yZ (t_w (JH (ve (xh (zN xD wF rfl U.isinstance eI (zb (zd (pv 1)) (zb (v5 .str rfl U.str fS) zf))))) (Vf (xM (zij (uj I)) Jg (zd (pv 1)) (zbZ j rfl) (by with_unfolding_all rfl))))) (zo JL) yn) (zh (yu (i:=2) zef.nd rfl (Or.inl rfl) (zx J I (by decide) rfl (zb (zd (pv 0)) zf))) (zh (Z6 (i:=3) (N:=["entry","machine","fate"]) (ms:=[none,some 0,some 1]) rfl (CompOk.of (by rfl)) (wx (xZ (zF (zd (pv 2)) zj (λ_ _=>rfl)))) ⟨λ_ _ _ _ _=>⟨(zV (i:=0) (show(["entry","machine","fate"]:List aC).Nodup by decide+kernel) rfl (Or.inl rfl)),xO,(Zw (wP (Room.units I)) wM (zx z I (by decide) rfl (by refine zb ?_ ?_;(· exact(zd (pv 1)));refine zb ?_ ?_;(· exact(zF (zd (pv 0)) zj (λ_ _=>rfl)));exact zf)) (zd (pv 2)) (yF _))⟩⟩ (xE (by decide)) (xF (by decide)) zef.nd rfl (Or.inl rfl)) (zo (zM (zx O I (by decide) rfl (by refine zb ?_ ?_;(· exact(zF (zd (pv 0)) zj (λ_ _=>rfl)));refine zb ?_ ?_;(· exact(zF (zd (pv 2)) zj (λ_ _=>rfl)));refine zb ?_ ?_;(· exact(zd (pv 3)));exact zf))))))))
abbrev zhz:aM:=top 45
theorem zlY:FnScope ["count"] ["count"] (zq zhz):=yU
theorem zlZ(z:Fun K "check_size" "check_size" zhz fa fd)(I:mg "check_size"=some (.ref fa))(O:Bi mg)(j:mg "MOST_ROOMS"=some (.int 12 q)):Callee P w K mg base 1 "check_size" UV :=
 zJ (k:=0) (f:=zgT) z I zlY (z.binds λ_ _ _ _ _ _ us J=>match us,J with|[_],_=>rfl) λcdv A outer s H E R=>
  (zo (yZ (xM zcJ zhM (zd (pv 0)) (Z2 rfl j) (yF _)) (zo JL) yn))
abbrev zeg:aM:=top 46
theorem zkO:FnScope ["move","by"] ["move","by"] (zq zeg):=yU
theorem zkP(j:Fun K "moved_on" "moved_on" zeg fa fd)(z:mg "moved_on"=some (.ref fa))(q:Bi mg):Callee P w K mg base 1 "moved_on" Ju :=
 zJ (k:=0) (f:=Jt) j z zkO (j.binds λ_ _ _ _ _ _ us I=>match us,I with|[_,_],_=>rfl) λcdv A outer s H E J=>
  (zh (yZ (xh (zN xD wF rfl q.isinstance eI (zb (zd (pv 0)) (zb (v5 .str rfl q.str fS) zf)))) (zo (zM (zd (pv 0)))) yn) (zo (zM (yM (by refine zb ?_ ?_;(· exact(zX zD zE (zF (zd (pv 0)) zj (λ_ _=>rfl)) (zd (pv 1))));refine zb ?_ ?_;(· exact(zF (zd (pv 0)) zj (λ_ _=>rfl)));exact zf)))))
abbrev zhA:aM:=top 47
theorem Ug:FnScope ["room","back","moves","column","move","way"] ["room","back"] (zq zhA):=yU
theorem zl0(j:Fun K "with_yes_going_on" "with_yes_going_on" zhA fa fd)(I:mg "with_yes_going_on"=some (.ref fa))(q:Bi mg):Callee P w K mg base 1 "with_yes_going_on" zdE :=
 zJ (k:=0) (f:=zgU) j I Ug (j.binds λ_ _ _ _ _ _ us J=>match us,J with|[_,_],_=>rfl) λcdv A outer s H E z=>
  (zh (vH (i:=2) Ug.nd rfl (Or.inl rfl) (xu zf)) (zh (vn cH rfl (zbY rfl q.enumerate (zb (zd (pv 0)) zf)) (Yx rfl (wb (zV (i:=3) Ug.nd rfl (Or.inl rfl)) (wb (zV (i:=4) Ug.nd rfl (Or.inl rfl)) Zj))) (zh (yu (i:=5) Ug.nd rfl (Or.inl rfl) (zfY (xM (wP (Room.units z)) wM (zd (pv 3)) zj (yF _)) zj (uy zj))) (zo (vI (i:=2) (h1:=xl cG cM cR yw (pv 2) (zm (zfY (xM (wP (Room.units z)) wM (zd (pv 4)) ux (yF _)) (yM (zb (zd (pv 1)) (zb (zd (pv 5)) zf))) (zd (pv 4))) zy)))))) (zo (zM (xn yx xS rfl q.tuple dW (zb (zd (pv 2)) zf))))))
abbrev zhB:aM:=top 48
theorem Wo:FnScope ["one","other","letters","back","ahead","behind","to_the_left"] ["one","other"] (zq zhB):=yU
theorem zl1(R:Fun K "one_after" "one_after" zhB fa fd)(U:mg "one_after"=some (.ref fa))(O:Bi mg)(j:Callee P w K mg base 5 "checked" ZE)(I:Callee P w K mg base 1 "check_size" UV)(J:Callee P w K mg base 1 "with_yes_going_on" zdE)(q:Callee P w K mg base 1 "moved_on" Ju):Callee P w K mg base 6 "one_after" zdF :=
 zJ (k:=5) (f:=zgV) R U Wo (R.binds λ_ _ _ _ _ _ us Y=>match us,Y with|[_,_],_=>rfl) λcdv A outer s H E z=>
  (zh (Xc (zx j z (by decide) rfl (zb (zd (pv 0)) zf))) (zh (Xc (zx j z (by decide) rfl (zb (zd (pv 1)) zf))) (zh (yu (i:=2) Wo.nd rfl (Or.inl rfl) (zF (zd (pv 0)) zj (λ_ _=>rfl))) (zh (yZ (xM (JN (Room.units z)) wM (zd (pv 2)) (zF (zd (pv 1)) zj (λ_ _=>rfl)) (yF _)) (zo JL) yn) (zh (yu (i:=3) Wo.nd rfl (Or.inr rfl) (zN zz yR rfl O.len bP (zb (zF (zd (pv 0)) zj (λ_ _=>rfl)) zf))) (zh (Xc (zx I z (by decide) rfl (zb (zX zD zE (zX zD zE (zd (pv 3)) zj) (zN zz yR rfl O.len bP (zb (zF (zd (pv 1)) zj (λ_ _=>rfl)) zf))) zf))) (zh (Z6 (i:=4) (N:=["room","back"]) (ms:=[none,some 3]) rfl (CompOk.of (by rfl)) (wx (xZ (zF (zd (pv 0)) zj (λ_ _=>rfl)))) ⟨λ_ _ _ _ _=>⟨(zV (i:=0) (show(["room","back"]:List aC).Nodup by decide+kernel) rfl (Or.inl rfl)),xO,(zx J z (by decide) rfl (zb (zd (pv 0)) (zb (zd (pv 1)) zf)))⟩⟩ (xE (by decide)) (xF (by decide)) Wo.nd rfl (Or.inl rfl)) (zh (Z6 (i:=5) (N:=["room","back"]) (ms:=[none,some 3]) rfl (CompOk.of (by rfl)) (wx (xZ (zF (zd (pv 1)) zj (λ_ _=>rfl)))) ⟨λ_ _ _ _ _=>⟨(zV (i:=0) (show(["room","back"]:List aC).Nodup by decide+kernel) rfl (Or.inl rfl)),xO,(xn yx xS rfl O.tuple dW (zb (y2 (wm (N:=["move","back"]) (ms:=[none,some 1]) rfl (CompOk.of (by rfl)) (wx (xZ (zd (pv 0)))) ⟨λ_ _ _ _ _=>⟨(zV (i:=0) (show(["move","back"]:List aC).Nodup by decide+kernel) rfl (Or.inl rfl)),xO,(zx q z (by decide) rfl (by refine zb ?_ ?_;(· exact(zd (pv 0)));refine zb ?_ ?_;(· exact(zX zD zE (zd (pv 1)) zj));exact zf))⟩⟩ (xE (by decide)) (xF (by decide)))) zf))⟩⟩ (xE (by decide)) (xF (by decide)) Wo.nd rfl (Or.inl rfl)) (zh (yu (i:=6) Wo.nd rfl (Or.inl rfl) (zX zD zE (yM (zb (zF (zF (zd (pv 5)) zj (λ_ _=>rfl)) zj (λ_ _=>rfl)) zf)) (zX zb5 zb6 (yM (zb (yM (by refine zb ?_ ?_;(· exact(zd (pv 3)));refine zb ?_ ?_;(· exact(uy zj));exact zf)) zf)) (zX zD zE (zd (pv 2)) zj)))) (zo (zM (yM (by refine zb ?_ ?_;(· exact(zd (pv 2)));refine zb ?_ ?_;(· exact(xn yx xS rfl O.tuple dW (zb (zX zD zE (zX zD zE (zd (pv 4)) (y2 (xu (zb (zd (pv 6)) zf)))) (zd (pv 5))) zf)));exact zf)))))))))))))
abbrev zhC:aM:=top 56
theorem zl2:FnScope ["_law_script","_law_k"] ["_law_script","_law_k"] (zq zhC):=yU
theorem zl3(j:Fun K "_law_cell_at" "_law_cell_at" zhC fa fd)(z:mg "_law_cell_at"=some (.ref fa))(q:Bi mg):Callee P w K mg base 1 "_law_cell_at" zdG :=
 zJ (k:=0) (f:=zaR) j z zl2 (j.binds λ_ _ _ _ _ _ us I=>match us,I with|[_,_],_=>rfl) λcdv A outer s H E J=>
  (zh (yZ (xM XJ Vj (zd (pv 1)) (zN zz yR rfl q.len bP (zb (zd (pv 0)) zf)) (yF _)) (zo (zM (zF (zd (pv 0)) (zd (pv 1)) (λ_ _=>rfl)))) yn) (zh (yZ (xM (wP (Room.units J)) wM (zd (pv 0)) (y2 (xu zf)) (yF _)) (zo (zM zj)) yn) (zo (zM (zX zD zE (zX uD Zh (zF (zd (pv 0)) (zX Zc Zi (zd (pv 1)) (zN zz yR rfl q.len bP (zb (zd (pv 0)) zf))) (λ_ _=>rfl)) zj) (zd (pv 1)))))))
abbrev zhD:aM:=top 57
theorem zh5:FnScope ["_law_script","_law_k","_law_many","_law_drawn"] ["_law_script","_law_k","_law_many"] (zq zhD):=yU
theorem zl4(q:Fun K "_law_mixed" "_law_mixed" zhD fa fd)(z:mg "_law_mixed"=some (.ref fa))(O:Bi mg)(j:Callee P w K mg base 1 "_law_cell_at" zdG):Callee P w K mg base 2 "_law_mixed" YN :=
 zJ (k:=1) (f:=zgW) q z zh5 (q.binds λ_ _ _ _ _ _ us I=>match us,I with|[_,_,_],_=>rfl) λcdv A outer s H E J=>
  (zh (yu (i:=3) zh5.nd rfl (Or.inl rfl) (zX Zc Zi (zX uD Zh (zX zD zE (zX zD zE (zx j J (by decide) rfl (zb (zd (pv 0)) (zb (zd (pv 1)) zf))) (zX uD Zh zj (zd (pv 1)))) zj) zj) zj)) (zo (zM (zX Zc Zi (zX Zc Zi (zX zD zE (zX zD zE (zX uD Zh (zd (pv 3)) (zd (pv 3))) (zX uD Zh zj (zd (pv 3)))) (zd (pv 1))) zj) (zd (pv 2))))))
abbrev zeh:aM:=top 58
theorem zfG:FnScope ["_law_script","_law_at","_law_many","_law_ways","_law_cell"] ["_law_script","_law_at","_law_many","_law_ways"] (zq zeh):=yU
theorem zkQ(q:Fun K "_law_move" "_law_move" zeh fa fd)(z:mg "_law_move"=some (.ref fa))(I:Bi mg)(j:Callee P w K mg base 2 "_law_mixed" YN):Callee P w K mg base 3 "_law_move" X7 :=
 zJ (k:=2) (f:=Jv) q z zfG (q.binds λ_ _ _ _ _ _ us J=>match us,J with|[_,_,_,_],_=>rfl) λcdv A outer s H E O=>
  (zh (yu (i:=4) zfG.nd rfl (Or.inl rfl) (zx j O (by decide) rfl (by refine zb ?_ ?_;(· exact(zd (pv 0)));refine zb ?_ ?_;(· exact(zd (pv 1)));refine zb ?_ ?_;(· exact(zX uD Zh zj (zd (pv 2))));exact zf))) (zh (yZ (xM XJ Vj (zX Zc Zi (zd (pv 4)) zj) zj (yF _)) (zo (zM (zF (y2 (xu (zb ux (zb ux zf)))) (zX Zc Zi (zd (pv 4)) zj) (λ_ _=>rfl)))) yn) (zo (zM (yM (by refine zb ?_ ?_;(· exact(zX zbF zeE (zd (pv 4)) zj));refine zb ?_ ?_;(· exact(zF (zd (pv 3)) (zX Zc Zi (zX zbF zeE (zd (pv 4)) zj) (zN zz yR rfl I.len bP (zb (zd (pv 3)) zf))) (λ_ _=>rfl)));exact zf))))))
abbrev zhE:aM:=top 59
theorem Wp:FnScope ["_law_script","_law_at","_law_letters","_law_most","_law_many","_law_rooms","_law_k","_law_place","_law_moves"] ["_law_script","_law_at","_law_letters","_law_most"] (zq zhE):=yU
theorem zl5(J:Fun K "_law_machine" "_law_machine" zhE fa fd)(O:mg "_law_machine"=some (.ref fa))(z:Bi mg)(q:Callee P w K mg base 2 "_law_mixed" YN)(j:Callee P w K mg base 3 "_law_move" X7):Callee P w K mg base 4 "_law_machine" WU :=
 zJ (k:=3) (f:=zgX) J O Wp (J.binds λ_ _ _ _ _ _ us R=>match us,R with|[_,_,_,_],_=>rfl) λcdv A outer s H E I=>
  (zh (yu (i:=4) Wp.nd rfl (Or.inr rfl) (zX zD zE zj (zx q I (by decide) rfl (zb (zd (pv 0)) (zb (zd (pv 1)) (zb (zd (pv 3)) zf)))))) (zh (vH (i:=5) Wp.nd rfl (Or.inl rfl) (xu zf)) (zh (vn cH rfl (wW rfl z.range (zb (zd (pv 4)) zf)) (zV (i:=6) Wp.nd rfl (Or.inl rfl)) (zh (yu (i:=7) Wp.nd rfl (Or.inr rfl) (zX zD zE (zX zD zE (zd (pv 1)) zj) (zX uD Zh zj (zd (pv 6))))) (zh (vH (i:=8) Wp.nd rfl (Or.inl rfl) (xu (zb (zx j I (by decide) rfl (by refine zb ?_ ?_;(· exact(zd (pv 0)));refine zb ?_ ?_;(· exact(zd (pv 7)));refine zb ?_ ?_;(· exact(zd (pv 4)));refine zb ?_ ?_;(· exact(y2 (xu (zb zj zf))));exact zf)) zf))) (zh (zhO (i:=8) (h1:=xl cG mB qu Ql (pv 8) (zm (y2 (wm (N:=["_law_j","_law_script","_law_place","_law_many"]) (ms:=[none,some 0,some 7,some 4]) rfl (CompOk.of (by rfl)) (wx (wW rfl z.range (zb (zd (pv 2)) zf))) ⟨λ_ _ _ _ _=>⟨(zV (i:=0) (show(["_law_j","_law_script","_law_place","_law_many"]:List aC).Nodup by decide+kernel) rfl (Or.inl rfl)),xO,(zx j I (by decide) rfl (by refine zb ?_ ?_;(· exact(zd (pv 1)));refine zb ?_ ?_;(· exact(zX zD zE (zX zD zE (zd (pv 2)) zj) (zd (pv 0))));refine zb ?_ ?_;(· exact(zd (pv 3)));refine zb ?_ ?_;(· exact(y2 (xu (by refine zb ?_ ?_;(· exact zj);refine zb ?_ ?_;(· exact(uy zj));exact zf))));exact zf))⟩⟩ (xE (by decide)) (xF (by decide)))) zy))) (zo (vI (i:=5) (h1:=xl cG cM cR yw (pv 5) (zm (xn yx xS rfl z.tuple dW (zb (zX zD zE (zd (pv 8)) (y2 (xu (zb (zx j I (by decide) rfl (by refine zb ?_ ?_;(· exact(zd (pv 0)));refine zb ?_ ?_;(· exact(zX zD zE (zd (pv 7)) zj));refine zb ?_ ?_;(· exact(zd (pv 4)));refine zb ?_ ?_;(· exact(y2 (xu (zb (uy zj) zf))));exact zf)) zf)))) zf)) zy)))))))) (zo (zM (yM (by refine zb ?_ ?_;(· exact(zd (pv 2)));refine zb ?_ ?_;(· exact(xn yx xS rfl z.tuple dW (zb (zd (pv 5)) zf)));exact zf)))))))
abbrev zhF:aM:=top 60
theorem ZJ:FnScope ["_law_letters","_law_most","_law_made","_law_last","_law_turn","_law_longer_ones","_law_word"] ["_law_letters","_law_most"] (zq zhF):=yU
theorem zl6(j:Fun K "_law_words" "_law_words" zhF fa fd)(z:mg "_law_words"=some (.ref fa))(q:Bi mg):Callee P w K mg base 1 "_law_words" zdH :=
 zJ (k:=0) (f:=zgY) j z ZJ (j.binds λ_ _ _ _ _ _ us I=>match us,I with|[_,_],_=>rfl) λcdv A outer s H E J=>
  (zh (yu (i:=2) ZJ.nd rfl (Or.inl rfl) (y2 (xu (zb (yM zf) zf)))) (zh (yu (i:=3) ZJ.nd rfl (Or.inl rfl) (y2 (xu (zb (yM zf) zf)))) (zh (vn cH rfl (wW rfl q.range (zb (zd (pv 1)) zf)) (zV (i:=4) ZJ.nd rfl (Or.inl rfl)) (zh (vH (i:=5) ZJ.nd rfl (Or.inl rfl) (xu zf)) (zh (vn cH rfl (xZ (zd (pv 3))) (zV (i:=6) ZJ.nd rfl (Or.inr rfl)) (zo (zhO (i:=5) (h1:=xl cG mB qu Ql (pv 5) (zm (y2 (wm (N:=["_law_letter","_law_word"]) (ms:=[none,some 6]) rfl (CompOk.of (by rfl)) (wx (wW rfl q.range (zb (zd (pv 0)) zf))) ⟨λ_ _ _ _ _=>⟨(zV (i:=0) (show(["_law_letter","_law_word"]:List aC).Nodup by decide+kernel) rfl (Or.inl rfl)),xO,(zX zD zE (zd (pv 1)) (yM (zb (zd (pv 0)) zf)))⟩⟩ (xE (by decide)) (xF (by decide)))) zy))))) (uE (i:=5) (zh (yu (i:=3) ZJ.nd rfl (Or.inl rfl) (zd (pv 5))) (zo (yu (i:=2) ZJ.nd rfl (Or.inl rfl) (zX zD zE (zd (pv 2)) (zd (pv 3)))))))))) (zo (zM (zd (pv 2)))))))
abbrev zhG:aM:=top 61
theorem zl7:FnScope ["_law_machine_here","_law_word","_law_place"] ["_law_machine_here","_law_word","_law_place"] (zq zhG):=yU
theorem zl8(j:Fun K "_law_column" "_law_column" zhG fa fd)(q:mg "_law_column"=some (.ref fa))(z:Bi mg):Callee P w K mg base 1 "_law_column" zdI :=
 zJ (k:=0) (f:=zaS) j q zl7 (j.binds λ_ _ _ _ _ _ us I=>match us,I with|[_,_,_],_=>rfl) λcdv A outer s H E J=>
  (zh (yZ (xM (wP (Room.units J)) wM (zd (pv 2)) zj (yF _)) (zo (zM zj)) yn) (zh (yZ (xM zcJ zhM (zd (pv 2)) (zN zz yR rfl z.len bP (zb (zd (pv 1)) zf)) (yF _)) (zo (zM (zX zD zE (zF (zd (pv 0)) zj (λ_ _=>rfl)) zj))) yn) (zo (zM (zX zD zE zj (zF (zd (pv 1)) (zX Y5 Xb (zd (pv 2)) zj) (λ_ _=>rfl)))))))
abbrev zei:aM:=top 62
theorem Yq:FnScope ["_law_machine_here","_law_word","_law_row","_law_room","_law_place","_law_move_here","_law_stand"] ["_law_machine_here","_law_word"] (zq zei):=yU
theorem zkR(I:Fun K "_law_run" "_law_run" zei fa fd)(J:mg "_law_run"=some (.ref fa))(q:Bi mg)(j:Callee P w K mg base 1 "_law_column" zdI):Callee P w K mg base 2 "_law_run" uY :=
 zJ (k:=1) (f:=zdJ) I J Yq (I.binds λ_ _ _ _ _ _ us O=>match us,O with|[_,_],_=>rfl) λcdv A outer s H E z=>
  (zh (vH (i:=2) Yq.nd rfl (Or.inl rfl) (xu (zb (yM (zb zj (zb zj zf))) zf))) (zo (Up (n:=WF) cH (xh vY) (zh (zlb (zF (zd (pv 2)) (uy zj) (λ_ _=>rfl)) (Yx rfl (wb (zV (i:=3) Yq.nd rfl (Or.inl rfl)) (wb (zV (i:=4) Yq.nd rfl (Or.inl rfl)) Zj)))) (zh (yu (i:=5) Yq.nd rfl (Or.inl rfl) (zF (zF (zF (zd (pv 0)) zj (λ_ _=>rfl)) (zd (pv 3)) (λ_ _=>rfl)) (zx j z (by decide) rfl (zb (zd (pv 0)) (zb (zd (pv 1)) (zb (zd (pv 4)) zf)))) (λ_ _=>rfl))) (zh (yZ (xh (zN xD wF rfl q.isinstance eI (zb (zd (pv 5)) (zb (v5 .str rfl q.str fS) zf)))) (zo (zM (yM (by refine zb ?_ ?_;(· exact(zd (pv 5)));refine zb ?_ ?_;(· exact(zN zz yR rfl q.len bP (zb (zd (pv 2)) zf)));exact zf)))) yn) (zh (yu (i:=6) Yq.nd rfl (Or.inl rfl) (yM (by refine zb ?_ ?_;(· exact(zF (zd (pv 5)) zj (λ_ _=>rfl)));refine zb ?_ ?_;(· exact(zX zD zE (zd (pv 4)) (zF (zd (pv 5)) zj (λ_ _=>rfl))));exact zf))) (zh (yZ (xM (JP (uj z)) Jg (zd (pv 6)) (zd (pv 2)) (by with_unfolding_all rfl)) (zo (zM (yM (by refine zb ?_ ?_;(· exact ux);refine zb ?_ ?_;(· exact(zb3 (xl cG mP qv (JZ (uj z)) (zd (pv 2)) (zm (zd (pv 6)) zy))));refine zb ?_ ?_;(· exact(zX Y5 Xb (zN zz yR rfl q.len bP (zb (zd (pv 2)) zf)) (zb3 (xl cG mP qv (JZ (uj z)) (zd (pv 2)) (zm (zd (pv 6)) zy)))));exact zf)))) yn) (zo (vI (i:=2) (h1:=xl cG cM cR yw (pv 2) (zm (zd (pv 6)) zy))))))))))))
abbrev zhH:aM:=top 63
theorem zl9:FnScope ["_law_move_here","_law_more"] ["_law_move_here","_law_more"] (zq zhH):=yU
theorem zma(j:Fun K "_law_shifted" "_law_shifted" zhH fa fd)(z:mg "_law_shifted"=some (.ref fa))(q:Bi mg):Callee P w K mg base 1 "_law_shifted" WV :=
 zJ (k:=0) (f:=zdK) j z zl9 (j.binds λ_ _ _ _ _ _ us I=>match us,I with|[_,_],_=>rfl) λcdv A outer s H E J=>
  (zh (yZ (xh (zN xD wF rfl q.isinstance eI (zb (zd (pv 0)) (zb (v5 .str rfl q.str fS) zf)))) (zo (zM (zd (pv 0)))) yn) (zo (zM (yM (by refine zb ?_ ?_;(· exact(zX zD zE (zF (zd (pv 0)) zj (λ_ _=>rfl)) (zd (pv 1))));refine zb ?_ ?_;(· exact(zF (zd (pv 0)) zj (λ_ _=>rfl)));exact zf)))))
abbrev zej:aM:=top 64
theorem Zu:FnScope ["_law_one","_law_other","_law_back","_law_rooms","_law_room","_law_moves","_law_k"] ["_law_one","_law_other"] (zq zej):=yU
theorem zkS(I:Fun K "_law_due" "_law_due" zej fa fd)(J:mg "_law_due"=some (.ref fa))(j:Bi mg)(q:Callee P w K mg base 1 "_law_shifted" WV):Callee P w K mg base 2 "_law_due" Jw :=
 zJ (k:=1) (f:=zdL) I J Zu (I.binds λ_ _ _ _ _ _ us O=>match us,O with|[_,_],_=>rfl) λcdv A outer s H E z=>
  (zh (yu (i:=2) Zu.nd rfl (Or.inr rfl) (zN zz yR rfl j.len bP (zb (zF (zd (pv 0)) zj (λ_ _=>rfl)) zf))) (zh (vH (i:=3) Zu.nd rfl (Or.inl rfl) (xu zf)) (zh (vn cH rfl (xZ (zF (zd (pv 0)) zj (λ_ _=>rfl))) (zV (i:=4) Zu.nd rfl (Or.inl rfl)) (zh (vH (i:=5) Zu.nd rfl (Or.inl rfl) (xu zf)) (zh (vn cH rfl (wW rfl j.range (zb (zN zz yR rfl j.len bP (zb (zd (pv 4)) zf)) zf)) (zV (i:=6) Zu.nd rfl (Or.inl rfl)) (zo (vI (i:=5) (h1:=xl cG cM cR yw (pv 5) (zm (zF (y2 (xu (by refine zb ?_ ?_;(· exact(zF (zd (pv 4)) (zd (pv 6)) (λ_ _=>rfl)));refine zb ?_ ?_;(· exact(yM (by refine zb ?_ ?_;(· exact(zd (pv 2)));refine zb ?_ ?_;(· exact(zF (y2 (xu (by refine zb ?_ ?_;(· exact(uy zj));refine zb ?_ ?_;(· exact zj);exact zf))) (xn QH zcd rfl j.int nr (zb (Zw (wP (Room.units z)) wM (zd (pv 6)) zj (yF _)) zf)) (λ_ _=>rfl)));exact zf)));exact zf))) (xn QH zcd rfl j.int nr (zb (Zw (wP (Room.units z)) wM (zF (zd (pv 4)) (zd (pv 6)) (λ_ _=>rfl)) ux (yF _)) zf)) (λ_ _=>rfl)) zy))))) (zo (vI (i:=3) (h1:=xl cG cM cR yw (pv 3) (zm (xn yx xS rfl j.tuple dW (zb (zd (pv 5)) zf)) zy))))))) (zh (vI (i:=3) (h1:=xl cG cM cR yw (pv 3) (zm (zX zD zE (yM (zb (zx q z (by decide) rfl (by refine zb ?_ ?_;(· exact(zF (zF (zF (zd (pv 1)) zj (λ_ _=>rfl)) zj (λ_ _=>rfl)) zj (λ_ _=>rfl)));refine zb ?_ ?_;(· exact(zX zD zE (zd (pv 2)) zj));exact zf)) zf)) (zX zb5 zb6 (yM (zb (yM (by refine zb ?_ ?_;(· exact(zd (pv 2)));refine zb ?_ ?_;(· exact(uy zj));exact zf)) zf)) (zX zD zE (zF (zd (pv 0)) zj (λ_ _=>rfl)) zj))) zy))) (zh (vn cH rfl (xZ (zF (zd (pv 1)) zj (λ_ _=>rfl))) (zV (i:=4) Zu.nd rfl (Or.inl rfl)) (zo (vI (i:=3) (h1:=xl cG cM cR yw (pv 3) (zm (xn yx xS rfl j.tuple dW (zb (y2 (wm (N:=["_law_move_here","_law_back"]) (ms:=[none,some 2]) rfl (CompOk.of (by rfl)) (wx (xZ (zd (pv 4)))) ⟨λ_ _ _ _ _=>⟨(zV (i:=0) (show(["_law_move_here","_law_back"]:List aC).Nodup by decide+kernel) rfl (Or.inl rfl)),xO,(zx q z (by decide) rfl (by refine zb ?_ ?_;(· exact(zd (pv 0)));refine zb ?_ ?_;(· exact(zX zD zE (zd (pv 1)) zj));exact zf))⟩⟩ (xE (by decide)) (xF (by decide)))) zf)) zy))))) (zo (zM (yM (by refine zb ?_ ?_;(· exact(zF (zd (pv 0)) zj (λ_ _=>rfl)));refine zb ?_ ?_;(· exact(xn yx xS rfl j.tuple dW (zb (zd (pv 3)) zf)));exact zf)))))))))
abbrev YZ:aM:=top 65
theorem vG:FnScope ["_law_script","_law_letters","_law_one","_law_other","_law_whole","_law_word","_law_here","_law_there","_law_due_here"] ["_law_script"] (zq YZ):=yU
theorem zkT(Z:Fun K "law" "law" YZ fa fd)(bi:Bi mg)(R:Callee P w K mg base 2 "_law_mixed" YN)(I:Callee P w K mg base 4 "_law_machine" WU)(U:Callee P w K mg base 6 "one_after" zdF)(J:Callee P w K mg base 2 "_law_due" Jw)(Y:Callee P w K mg base 1 "_law_words" zdH)(q:Callee P w K mg base 2 "_law_run" uY)(z:Callee P w K mg base 6 "reader_of" YM)(O:Callee P w K mg base 10 "both" zhW):FnOk P w K mg base CX0 11 fa fd ["_law_script"] (spD K Wb) :=
 zjK (k:=10) (N:=["_law_script","_law_letters","_law_one","_law_other","_law_whole","_law_word","_law_here","_law_there","_law_due_here"]) (ps:=["_law_script"]) (f:=zdM) Z vG λcdv A outer s H E j=>
  (zh (yu (i:=1) vG.nd rfl (Or.inl rfl) (zX zD zE zj (zx R j (by decide) rfl (zb (zd (pv 0)) (zb zj (zb zj zf)))))) (zh (yu (i:=2) vG.nd rfl (Or.inl rfl) (zx I j (by decide) rfl (zb (zd (pv 0)) (zb zj (zb (zd (pv 1)) (zb zj zf)))))) (zh (yu (i:=3) vG.nd rfl (Or.inl rfl) (zx I j (by decide) rfl (zb (zd (pv 0)) (zb zj (zb (zd (pv 1)) (zb zj zf)))))) (zh (yu (i:=4) vG.nd rfl (Or.inl rfl) (zx U j (by decide) rfl (zb (zd (pv 2)) (zb (zd (pv 3)) zf)))) (zh (yZ (xM (JN (Room.units j)) wM (zd (pv 4)) (zx J j (by decide) rfl (zb (zd (pv 2)) (zb (zd (pv 3)) zf))) (yF _)) (zo (zM vY)) yn) (zh (vn cH rfl (xZ (zx Y j (by decide) rfl (zb (zd (pv 1)) (zb zj zf)))) (zV (i:=5) vG.nd rfl (Or.inl rfl)) (zh (yu (i:=6) vG.nd rfl (Or.inl rfl) (zF (zx q j (by decide) rfl (zb (zd (pv 2)) (zb (zd (pv 5)) zf))) zj (λ_ _=>rfl))) (zh (yu (i:=7) vG.nd rfl (Or.inl rfl) (zF (zx q j (by decide) rfl (zb (zd (pv 3)) (zb (zd (pv 5)) zf))) zj (λ_ _=>rfl))) (zh (yu (i:=8) vG.nd rfl (Or.inl rfl) (zd (pv 6))) (zh (yZ (xM (wP (Room.units j)) wM (zd (pv 6)) ux (yF _)) (zo (yu (i:=8) vG.nd rfl (Or.inl rfl) (zd (pv 7)))) yn) (zo (yZ (xM (JN (Room.units j)) wM (zF (zx q j (by decide) rfl (zb (zd (pv 4)) (zb (zd (pv 5)) zf))) zj (λ_ _=>rfl)) (zd (pv 8)) (yF _)) (zo (zM vY)) yn))))))) (zo (zM (Zw (wP (Room.units j)) wM (zx z j (by decide) rfl (zb (zd (pv 4)) (zb ux zf))) (zx O j (by decide) rfl (by refine zb ?_ ?_;(· exact(zx z j (by decide) rfl (zb (zd (pv 2)) (zb ux zf))));refine zb ?_ ?_;(· exact(zx z j (by decide) rfl (zb (zd (pv 3)) (zb ux zf))));exact zf)) (yF _))))))))))
end
theorem zkU{l:iQ}{w:aO}{K:aE}{h:aK}{mg:aC->Option aB}{fa:aA}(X:K.In h)(z:h.Ns aT mg)(j8:mg "law"=some (.ref fa)) 
  {d1:aA} (hb:aV K aT "is_number"=some (some (.ref d1))) (hc:∃fd,Fun K "is_number" "is_number" zhl d1 fd)
  {cf:aA} (e0:aV K aT "is_row"=some (some (.ref cf))) (e1:∃fd,Fun K "is_row" "is_row" zd4 cf fd)
  {cg:aA} (e2:aV K aT "ways_at"=some (some (.ref cg))) (e3:∃fd,Fun K "ways_at" "ways_at" zd5 cg fd)
  {ci:aA} (e4:aV K aT "is_move"=some (some (.ref ci))) (e5:∃fd,Fun K "is_move" "is_move" zd6 ci fd)
  {cj:aA} (e6:aV K aT "is_room"=some (some (.ref cj))) (e7:∃fd,Fun K "is_room" "is_room" zd7 cj fd)
  {d2:aA} (hd:aV K aT "is_machine"=some (some (.ref d2))) (he:∃fd,Fun K "is_machine" "is_machine" zhm d2 fd)
  {ck:aA} (e8:aV K aT "checked"=some (some (.ref ck))) (e9:∃fd,Fun K "checked" "checked" zd8 ck fd)
  {cm:aA} (fc:aV K aT "moves_at"=some (some (.ref cm))) (fe:∃fd,Fun K "moves_at" "moves_at" zd9 cm fd)
  {cn:aA} (ff:aV K aT "told"=some (some (.ref cn))) (fg:∃fd,Fun K "told" "told" zea cn fd)
  {d3:aA} (hf:aV K aT "done_by_none"=some (some (.ref d3))) (hg:∃fd,Fun K "done_by_none" "done_by_none" zhn d3 fd)
  {d4:aA} (hh:aV K aT "what_comes_of"=some (some (.ref d4))) (hj:∃fd,Fun K "what_comes_of" "what_comes_of" zho d4 fd)
  {d5:aA} (hk:aV K aT "done_with"=some (some (.ref d5))) (hl:∃fd,Fun K "done_with" "done_with" zhp d5 fd)
  {co:aA} (fi:aV K aT "fate_of"=some (some (.ref co))) (fj:∃fd,Fun K "fate_of" "fate_of" zec co fd)
  {d6:aA} (hm:aV K aT "explored"=some (some (.ref d6))) (hn:∃fd,Fun K "explored" "explored" zhq d6 fd)
  {d7:aA} (ho:aV K aT "reached_in_order"=some (some (.ref d7))) (hp:∃fd,Fun K "reached_in_order" "reached_in_order" zhr d7 fd)
  {d8:aA} (hq:aV K aT "renumbered"=some (some (.ref d8))) (hr:∃fd,Fun K "renumbered" "renumbered" zhs d8 fd)
  {d9:aA} (hs:aV K aT "least_reader"=some (some (.ref d9))) (ht:∃fd,Fun K "least_reader" "least_reader" zht d9 fd)
  {ea:aA} (hu:aV K aT "are_stands"=some (some (.ref ea))) (hv:∃fd,Fun K "are_stands" "are_stands" zhu ea fd)
  {eb:aA} (hw:aV K aT "is_rising"=some (some (.ref eb))) (hx:∃fd,Fun K "is_rising" "is_rising" zhv eb fd)
  {ec:aA} (hy:aV K aT "is_reader"=some (some (.ref ec))) (hz:∃fd,Fun K "is_reader" "is_reader" zhw ec fd)
  {ee:aA} (h0:aV K aT "checked_reader"=some (some (.ref ee))) (h3:∃fd,Fun K "checked_reader" "checked_reader" zhx ee fd)
  {cp:aA} (fk:aV K aT "marks_of"=some (some (.ref cp))) (fm:∃fd,Fun K "marks_of" "marks_of" zed cp fd)
  {cq:aA} (fo:aV K aT "least"=some (some (.ref cq))) (fq:∃fd,Fun K "least" "least" zee cq fd)
  {ef:aA} (h4:aV K aT "reader_of"=some (some (.ref ef))) (h5:∃fd,Fun K "reader_of" "reader_of" zhy ef fd)
  {eg:aA} (h6:aV K aT "check_size"=some (some (.ref eg))) (h7:∃fd,Fun K "check_size" "check_size" zhz eg fd)
  {cr:aA} (fr:aV K aT "moved_on"=some (some (.ref cr))) (ft:∃fd,Fun K "moved_on" "moved_on" zeg cr fd)
  {eh:aA} (h8:aV K aT "with_yes_going_on"=some (some (.ref eh))) (h9:∃fd,Fun K "with_yes_going_on" "with_yes_going_on" zhA eh fd)
  {ei:aA} (ia:aV K aT "one_after"=some (some (.ref ei))) (ib:∃fd,Fun K "one_after" "one_after" zhB ei fd)
  {ej:aA} (ic:aV K aT "_law_cell_at"=some (some (.ref ej))) (ie:∃fd,Fun K "_law_cell_at" "_law_cell_at" zhC ej fd)
  {ek:aA} (ig:aV K aT "_law_mixed"=some (some (.ref ek))) (ih:∃fd,Fun K "_law_mixed" "_law_mixed" zhD ek fd)
  {cu:aA} (fu:aV K aT "_law_move"=some (some (.ref cu))) (fv:∃fd,Fun K "_law_move" "_law_move" zeh cu fd)
  {en:aA} (ii:aV K aT "_law_machine"=some (some (.ref en))) (ij:∃fd,Fun K "_law_machine" "_law_machine" zhE en fd)
  {eo:aA} (ik:aV K aT "_law_words"=some (some (.ref eo))) (il:∃fd,Fun K "_law_words" "_law_words" zhF eo fd)
  {er:aA} (im:aV K aT "_law_column"=some (some (.ref er))) (io:∃fd,Fun K "_law_column" "_law_column" zhG er fd)
  {cv:aA} (fw:aV K aT "_law_run"=some (some (.ref cv))) (fx:∃fd,Fun K "_law_run" "_law_run" zei cv fd)
  {et:aA} (ip:aV K aT "_law_shifted"=some (some (.ref et))) (iq:∃fd,Fun K "_law_shifted" "_law_shifted" zhH et fd)
  {cw:aA} (fy:aV K aT "_law_due"=some (some (.ref cw))) (fz:∃fd,Fun K "_law_due" "_law_due" zej cw fd)
  {cx:aA} (f0:aV K aT "law"=some (some (.ref cx))) (f1:∃fd,Fun K "law" "law" YZ cx fd)
  {eu:aA} (ir:aV K aT "parts_of_stands"=some (some (.ref eu))) (is:∃fd,Fun K "parts_of_stands" "parts_of_stands" Pt.Wm eu fd)
  {ev:aA} (it:aV K aT "arrows_back"=some (some (.ref ev))) (iu:∃fd,Fun K "arrows_back" "arrows_back" Pt.Jz ev fd)
  {ew:aA} (iv:aV K aT "leading_to"=some (some (.ref ew))) (iw:∃fd,Fun K "leading_to" "leading_to" Pt.Ue ew fd)
  {j:aA} (bx:aV K aT "Parting"=some (some (.ref j)))
  {ak:aA} (cy:bU K (.ref j) "__init__"=some (some (.ref ak))) (cz:∃fd,Fun K "__init__" "Parting.__init__" Pt.uc ak fd) (c0:fC K (.ref ak)=true)
  {I:aA} (al:bU K (.ref j) "take_goals"=some (some (.ref I))) (am:∃fd,Fun K "take_goals" "Parting.take_goals" Pt.Ua I fd) (ao:fC K (.ref I)=true)
  {R:aA} (bb:bU K (.ref j) "part_off"=some (some (.ref R))) (bc:∃fd,Fun K "part_off" "Parting.part_off" Pt.Jx R fd) (bd:fC K (.ref R)=true)
  {U:aA} (be:bU K (.ref j) "let_wait"=some (some (.ref U))) (bf:∃fd,Fun K "let_wait" "Parting.let_wait" Pt.XE U fd) (bg:fC K (.ref U)=true)
  (j9:iM K j lX=true)
  (ka:jG K j=true)
  (kb:kJ K j=true)
  (kc:bU K (.ref j) "__setattr__"=some (some (.builtin "object.__setattr__")))
  (ke:bU K (.ref j) "part_of"=some none)
  (kf:bU K (.ref j) "parts"=some none)
  (kg:bU K (.ref j) "waiting"=some none)
  (kh:bU K (.ref j) "waits"=some none)
  (ki:kL K j=true)
  (kj:gA K (.ref j)=true)
  {c1:aA} (f2:aV K aT "joined"=some (some (.ref c1))) (f3:∃fd,Fun K "joined" "joined" Pq.Ud c1 fd)
  {c2:aA} (f4:aV K aT "pairs_of"=some (some (.ref c2))) (f5:∃fd,Fun K "pairs_of" "pairs_of" Pq.Yo c2 fd)
  {c3:aA} (f6:aV K aT "both"=some (some (.ref c3))) (f7:∃fd,Fun K "both" "both" Pq.zbn c3 fd)
  {q:aA} (c4:aV K aT "Pairs"=some (some (.ref q)))
  {ap:aA} (c5:bU K (.ref q) "__init__"=some (some (.ref ap))) (c6:∃fd,Fun K "__init__" "Pairs.__init__" Pq.uc ap fd) (c7:fC K (.ref ap)=true)
  {O:aA} (aw:bU K (.ref q) "number_of"=some (some (.ref O))) (ax:∃fd,Fun K "number_of" "Pairs.number_of" Pq.Wj O fd) (ay:fC K (.ref O)=true)
  {Y:aA} (bh:bU K (.ref q) "has_more"=some (some (.ref Y))) (bj:∃fd,Fun K "has_more" "Pairs.has_more" Pq.Uc Y fd) (bm:fC K (.ref Y)=true)
  {ah:aA} (b5:bU K (.ref q) "go_on"=some (some (.ref ah))) (b6:∃fd,Fun K "go_on" "Pairs.go_on" Pq.zd1 ah fd) (b7:fC K (.ref ah)=true)
  (kk:iM K q lX=true)
  (kl:jG K q=true)
  (km:kJ K q=true)
  (kn:bU K (.ref q) "__setattr__"=some (some (.builtin "object.__setattr__")))
  (ko:kL K q=true)
  (kp:gA K (.ref q)=true)
  (kq:bU K (.ref q) "one_rows"=some none)
  (kr:bU K (.ref q) "one_marks"=some none)
  (kt:bU K (.ref q) "other_rows"=some none)
  (ku:bU K (.ref q) "other_marks"=some none)
  (kv:bU K (.ref q) "wanted"=some none)
  (kw:bU K (.ref q) "numbers"=some none)
  (kx:bU K (.ref q) "met"=some none)
  (ky:bU K (.ref q) "marks"=some none)
  (kz:bU K (.ref q) "rows"=some none)
  {aq:aA} {br:Option aA} {bz:Nat} {bt:Array (Option aB)} {aa:aA} (b0:aV K aT "IN_BOTH"=some (some (.ref aq))) (b1:K.lookup aq=some ⟨.type "tuple",br,.seq #[.ref aa] bz,bt⟩)
  {bn:Option aA} {bu:Nat} {bo:Array (Option aB)} (bv:K.lookup aa=some ⟨.type "tuple",bn,.seq #[.bool true,.bool true] bu,bo⟩)
  (f8:aV K aT "all"=some none)
  (dt:aV K aT "bool"=some none)
  (du:aV K aT "dict"=some none)
  (b8:aV K aT "divmod"=some none)
  (bp:aV K aT "enumerate"=some none)
  (f9:aV K aT "int"=some none)
  (az:aV K aT "isinstance"=some none)
  (ga:aV K aT "len"=some none)
  (dv:aV K aT "list"=some none)
  (c8:aV K aT "range"=some none)
  (gb:aV K aT "str"=some none)
  (c9:aV K aT "tuple"=some none)
  (gc:aV K aT "zip"=some none)
  {b3:aA} {da:Option aA} {dw:Nat} {db:Array (Option aB)} {dd de:cU} (dy:aV K aT "ENDS"=some (some (.ref b3))) (dz:K.lookup b3=some ⟨.type "tuple",da,.seq #[.str "yes" dd,.str "no" de] dw,db⟩)
  {bw:aA} {b9:Option aA} {df:Nat} {ca:Array (Option aB)} {cb cc ce:cU} (dg:aV K aT "FATES"=some (some (.ref bw))) (dh:K.lookup bw=some ⟨.type "tuple",b9,.seq #[.str "yes" cb,.str "no" cc,.str "round" ce] df,ca⟩)
  {ai:cU} (aj:aV K aT "MOST_LETTERS"=some (some (.int 3 ai)))
  {a8:cU} (a9:aV K aT "MOST_ROOMS"=some (some (.int 12 a8)))
  {ar:cU} (au:aV K aT "MOST_STANDS"=some (some (.int 2000 ar))) :
  ∃fd:bQ,(∀(s:aD) (v:aB),iO s fd ⟨[v],[]⟩ [("_law_script",v)])/\∀base:aK,K.In base->base.Ns aT mg->FnOk l.prog w K mg base CX0 11 fa fd ["_law_script"] (spD K Wb):=by
 have e:=j8.symm.trans (bC X z f0)
 cases e
 have J:Bi mg:=⟨eN X z f8,eN X z dt,eN X z du,eN X z b8,eN X z bp,eN X z f9,eN X z az,eN X z ga,eN X z dv,eN X z c8,eN X z gb,eN X z c9,eN X z gc⟩
 have d0:GlobT K mg "ENDS" [(.str "yes"),(.str "no")]:=Vm ["yes","no"] (bC X z dy) dz (by show 2<=aH;decide) (.cons ⟨_,rfl⟩ (.cons ⟨_,rfl⟩ (.nil)))
 have di:GlobT K mg "FATES" [(.str "yes"),(.str "no"),(.str "round")]:=Vm ["yes","no","round"] (bC X z dg) dh (by show 3<=aH;decide) (.cons ⟨_,rfl⟩ (.cons ⟨_,rfl⟩ (.cons ⟨_,rfl⟩ (.nil))))
 have Z:=bC X z aj
 have ac:=bC X z a9
 have av:=bC X z au
 obtain⟨_,ix⟩:=hc
 obtain⟨_,gd⟩:=e1
 obtain⟨_,ge⟩:=e3
 obtain⟨_,gf⟩:=e5
 obtain⟨_,gg⟩:=e7
 obtain⟨_,iy⟩:=he
 obtain⟨_,gh⟩:=e9
 obtain⟨_,gi⟩:=fe
 obtain⟨_,gj⟩:=fg
 obtain⟨_,iz⟩:=hg
 obtain⟨_,i0⟩:=hj
 obtain⟨_,i3⟩:=hl
 obtain⟨_,gk⟩:=fj
 obtain⟨_,i4⟩:=hn
 obtain⟨_,i5⟩:=hp
 obtain⟨_,i6⟩:=hr
 obtain⟨_,i7⟩:=ht
 obtain⟨_,i8⟩:=hv
 obtain⟨_,i9⟩:=hx
 obtain⟨_,ja⟩:=hz
 obtain⟨_,jb⟩:=h3
 obtain⟨_,gl⟩:=fm
 obtain⟨_,gm⟩:=fq
 obtain⟨_,jc⟩:=h5
 obtain⟨_,jd⟩:=h7
 obtain⟨_,gn⟩:=ft
 obtain⟨_,je⟩:=h9
 obtain⟨_,jf⟩:=ib
 obtain⟨_,jg⟩:=ie
 obtain⟨_,jh⟩:=ih
 obtain⟨_,gp⟩:=fv
 obtain⟨_,ji⟩:=ij
 obtain⟨_,jj⟩:=il
 obtain⟨_,jk⟩:=io
 obtain⟨_,gq⟩:=fx
 obtain⟨_,jl⟩:=iq
 obtain⟨_,gr⟩:=fz
 obtain⟨_,jm⟩:=is
 obtain⟨_,jn⟩:=iu
 obtain⟨_,jo⟩:=iw
 obtain⟨_,dj⟩:=cz
 obtain⟨_,ab⟩:=am
 obtain⟨_,ae⟩:=bc
 obtain⟨_,af⟩:=bf
 obtain⟨_,gs⟩:=f3
 obtain⟨_,gt⟩:=f5
 obtain⟨_,gu⟩:=f7
 obtain⟨_,dk⟩:=c6
 obtain⟨_,ad⟩:=ax
 obtain⟨_,ag⟩:=bj
 obtain⟨_,ba⟩:=b6
 obtain⟨_,⟨oc,od,kV,dc,pm,an,cd,ct,sl,rfl,gv,gw⟩,gx⟩:=f1
 refine⟨iC "law" "law" (Z0 YZ) (vT YZ) (zq YZ) .none kV dc pm an cd ct,λs v=>.of_eq rfl,λbase _ _=>?_⟩
 have k0:=Pt.PM.mk (mg:=mg) ⟨⟨j9,ka,kb,kc⟩,ke,kf,kg,kh⟩ (bC X z bx) ⟨ki,cy,c0,kj⟩ dj ⟨al,ao,ab.2⟩ ab ⟨bb,bd,ae.2⟩ ae ⟨be,bg,af.2⟩ af (bC X z iv) jo (bC X z it) jn J.len J.list J.range J.enumerate
 have jp:=Pt.zbo (P:=l.prog) (w:=w) (base:=base) jm (bC X z ir) k0
 have b4:=zlG (P:=l.prog) (w:=w) (base:=base) ix (bC X z hb) J
 have bq:=zkw (P:=l.prog) (w:=w) (base:=base) gd (bC X z e0) J
 have gy:=zky (P:=l.prog) (w:=w) (base:=base) ge (bC X z e2) J
 have gz:=zkA (P:=l.prog) (w:=w) (base:=base) gf (bC X z e4) J bq b4 d0
 have g0:=zkC (P:=l.prog) (w:=w) (base:=base) gg (bC X z e6) J bq gy gz
 have jq:=zlH (P:=l.prog) (w:=w) (base:=base) iy (bC X z hd) J bq b4 g0 Z ac
 have dm:=zkE (P:=l.prog) (w:=w) (base:=base) gh (bC X z e8) J jq
 have b2:=zkG (P:=l.prog) (w:=w) (base:=base) gi (bC X z fc) J
 have dn:=zkI (P:=l.prog) (w:=w) (base:=base) gj (bC X z ff) J
 have jr:=zlI (P:=l.prog) (w:=w) (base:=base) iz (bC X z hf) J b2 dn
 have ey:=zlJ (P:=l.prog) (w:=w) (base:=base) i0 (bC X z hh) J
 have js:=zlK (P:=l.prog) (w:=w) (base:=base) i3 (bC X z hk) J ey dn
 have g4:=zkK (P:=l.prog) (w:=w) (base:=base) gk (bC X z fi) J b2 ey
 have jt:=zlL (P:=l.prog) (w:=w) (base:=base) i4 (bC X z hm) J b2 jr js
 have ju:=zlM (P:=l.prog) (w:=w) (base:=base) i5 (bC X z ho) J
 have jv:=zlO (P:=l.prog) (w:=w) (base:=base) i6 (bC X z hq) J
 have dp:=zlP (P:=l.prog) (w:=w) (base:=base) i7 (bC X z hs) J ju jv jp
 have jw:=zlR (P:=l.prog) (w:=w) (base:=base) i8 (bC X z hu) J b4
 have jx:=zlT (P:=l.prog) (w:=w) (base:=base) i9 (bC X z hw) J
 have jy:=zlU (P:=l.prog) (w:=w) (base:=base) ja (bC X z hy) J bq b4 jw jx Z av
 have ez:=zlW (P:=l.prog) (w:=w) (base:=base) jb (bC X z h0) J jy
 have dq:=zkL (P:=l.prog) (w:=w) (base:=base) gl (bC X z fk) J
 have g5:=zkN (P:=l.prog) (w:=w) (base:=base) gm (bC X z fo) J ez dq dp
 have k1:=Pq.JM.mk (P:=l.prog) (w:=w) (base:=base) (mg:=mg) ⟨⟨kk,kl,km,kn⟩,kq,kr,kt,ku,kv,kw,kx,ky,kz⟩ (bC X z c4) ⟨ko,c5,c7,kp⟩ dk ⟨aw,ay,ad.2⟩ ad ⟨bh,bm,ag.2⟩ ag ⟨b5,b7,ba.2⟩ ba J.len J.divmod J.zip J.tuple (Pq.uB (k:=5) ez (by decide)) (Pq.uB (k:=5) g5 (by decide)) (Pq.uB (k:=5) dq (by decide)) (Pq.uB (k:=5) dp (by decide)) (show 2<=5 by decide)
 have g6:=Pq.zbE gu (bC X z f6) k1 (bC X z f4) gt (bC X z f2) gs (bC X z b0) (Pq.zlC (as:=[aa]) b1 (by show 1<=aH;decide) (.cons rfl (.nil)) (Pq.zhg bv (.nil)))
 have jz:=zlX (P:=l.prog) (w:=w) (base:=base) jc (bC X z h4) J dm jt g4 dp di
 have j0:=zlZ (P:=l.prog) (w:=w) (base:=base) jd (bC X z h6) J ac
 have g7:=zkP (P:=l.prog) (w:=w) (base:=base) gn (bC X z fr) J
 have j1:=zl0 (P:=l.prog) (w:=w) (base:=base) je (bC X z h8) J
 have j2:=zl1 (P:=l.prog) (w:=w) (base:=base) jf (bC X z ia) J dm j0 j1 g7
 have j3:=zl3 (P:=l.prog) (w:=w) (base:=base) jg (bC X z ic) J
 have dr:=zl4 (P:=l.prog) (w:=w) (base:=base) jh (bC X z ig) J j3
 have g8:=zkQ (P:=l.prog) (w:=w) (base:=base) gp (bC X z fu) J dr
 have j4:=zl5 (P:=l.prog) (w:=w) (base:=base) ji (bC X z ii) J dr g8
 have j5:=zl6 (P:=l.prog) (w:=w) (base:=base) jj (bC X z ik) J
 have j6:=zl8 (P:=l.prog) (w:=w) (base:=base) jk (bC X z im) J
 have g9:=zkR (P:=l.prog) (w:=w) (base:=base) gq (bC X z fw) J j6
 have j7:=zma (P:=l.prog) (w:=w) (base:=base) jl (bC X z ip) J
 have ha:=zkS (P:=l.prog) (w:=w) (base:=base) gr (bC X z fy) J j7
 exact zkT (zeC (st:=YZ) gv gw gx) J dr j4 j2 ha j5 g9 jz g6
theorem yp{l:iQ}{J:aS}{j:List aC}{O:(aC->Option aB)->aK->Prop}{I:aO->aK->Prop}{d:DefRec}{K:kW->aE}(good:∀ns:List Int,ns.length<=63->Wb [.scr ns]=some (.bl true))(R:l.most=some 63)(q:d.params.defaults=[]) 
  (U:∀(w:aO) (h:aK),I w h->(K w.params).In h)
  (F:∀(w:aO) (mg:aC->Option aB) (fa:aA) (h:aK),(K w.params).In h->h.Ns aT mg->mg d.name=some (.ref fa)->
   ∃fd:bQ,(∀(s:aD) (u:aB),iO s fd ⟨[u],[]⟩ [("_law_script",u)])/\∀base:aK,(K w.params).In base->base.Ns aT mg->FnOk l.prog w (K w.params) mg base CX0 11 fa fd ["_law_script"] (spD (K w.params) Wb)) :
  mD J j O I l.row.toRowW d [] (λf vs=>mE f vs) :=
 L2.zif (n:=63) (k:=11) (x:="_law_script") (CX:=λ_=>CX0) (sp:=λw=>spD (K w.params) Wb) R (by decide) q ⟨rfl,by decide,by decide⟩ U F (λ_ _ a ns Y _ Z=>zjL Z (good ns Y)) λ_ _ _ _ _ z=>z
end Py
open PySem PySem.W PyProof.Rows
namespace PySem.W.Fast
def tw5328070538003511278:=1
def tw17133056428096142812:=1
def tw1781886783942867106:=1
def tw14898652809405782817:=1
def tw8075200797625913609:=1
def tw14249830817707208494:=1
def tw7273608914115026333:=1
def tw10750239512949072619:=1
def tw12557446691531359573:=1
def tw3867253306096414033:=1
def tw4406534115048164148:=1
def tw10632630221872092987:=1
def tw15575489279969846076:=1
def tw9418750709464765726:=1
def tw3692146484697012926:=1
def tw17340777641015055241:=1
def tw16846704595207069494:=1
def tw15907205008641643439:=1
def tw10033378781282456593:=1
def tw3239429101116627608:=1
def tw15213940079870880272:=1
def tw6201469720562124242:=1
def tw3552523861793946690:=1
def tw5925210835048387115:=1
def tw14808634455858861328:=1
def tw3828729461796011238:=1
def tw17236800080065931523:=1
def tw8499588613659336710:=1
def tw12664004135349092332:=1
def tw1286846770544987734:=1
def tw13024396483227012571:=1
def tw3483340821199617440:=1
def tw17650777849296736482:=1
def tw2263963661016783836:=1
def tw5924042307435528681:=1
def tw2345417815259288005:=1
def tw10257770630018568298:=1
def tw14355695393521947528:=1
def tw4861621187102626018:=1
def tw204039087259204356:=1
def tw4756271821974933323:=1
def tw11284146131651762370:=1
def tw5877637790938014678:=1
def tw7140614248092547256:=1
def tw3574754366373111574:=1
def tw9846148087404468061:=1
def tw1932187757441721809:=1
def tw4366066709643172360:=1
def tw16875215631305550816:=1
def tw6196419158135915642:=1
def tw10080876198936379036:=1
def tw2660093099671214361:=1
def tw14443223407962300836:=1
def tw14887551735687821687:=1
def tw15109005856468749685:=1
def tw1090654790290472317:=1
def tw16524985710109413678:=1
def tw17434478995908957430:=1
def tw17957083303986706153:=1
def tw11812579409835767851:=1
def tw10935486084809187852:=1
def tw9143863086692035852:=1
def tw5881438439716151379:=1
def tw347852719801472356:=1
def tw2770594716939664191:=1
def tw16076994788658543882:=1
def tw5707344840772076403:=1
def tw17472188017025778704:=1
def tw7028733228041626831:=1
def tw17556775004081132033:=1
def tw3102260651829702222:=1
def tw8716029699237487455:=1
def tw7306379309914820690:=1
def tw18039159716376619002:=1
def tw12578148975030496531:=1
def tw8855737555974495895:=1
def tw17172989868105238046:=1
def tw13771006866713948364:=1
def tw8490851187791464815:=1
def tw5377256907229445935:=1
def tw11967451415161915419:=1
def tw4653941753884881339:=1
def tw17925489923288117686:=1
def tw7344517668967732291:=1
def tw45706025286152579:=1
def tw9695854105852474358:=1
def tw5956830052102986692:=1
def tw2357892663646786475:=1
def tw16070260337752649132:=1
def tw10544216480539476481:=1
def tw13857622823066359261:=1
def tw16515258418811692105:=1
def tw13798176833071814681:=1
def tw2831522885974239506:=1
def tw4754513132672084284:=1
def tw10607998420367984215:=1
def tw10792759224988159593:=1
def tw1779025550306439828:=1
def tw5915144296618686394:=1
def tw4002461380562980543:=1
def tw8039346811379348951:=1
def tw10021034055937980125:=1
def tw6455968801447929097:=1
def tw4990902468320463186:=1
def tw9971380795823280149:=1
def tw11815227086552028039:=1
def tw15889234301884627203:=1
def tw7834235283510305368:=1
def tw5036856031252452977:=1
def tw8330562997409938787:=1
def tw14625058271086917416:=1
def tw5764334985901566124:=1
def tw14334028893636185034:=1
def tw7654008615621211250:=1
def tw13436350212138602777:=1
def tw8078211313865736061:=1
def tw309324608521731873:=1
def tw14694429611774486765:=1
def tw5277959290527580073:=1
def tw1407212100557525219:=1
def tw11741207146630825048:=1
def tw9134921217181879539:=1
def tw8881633073987871228:=1
def tw18066646375076358063:=1
def tw9796372368942640856:=1
def tw11090618146426503494:=1
def tw8472435086262808615:=1
def tw12455150289534614764:=1
def tw10124362320709467000:=1
def tw10074601913272281809:=1
def tw2700213806691679612:=1
def tw5938307293559989018:=1
def tw17657550932378295060:=1
def tw5409588311524720065:=1
def tw17323255968310199786:=1
def tw5848998611441098715:=1
def tw1707561152041493743:=1
def tw1734168885957500423:=1
def tw4742095509783009693:=1
def tw15392746954455864185:=1
def tw13682920949506818560:=1
def tw18173076867746150805:=1
def tw5821987594913783422:=1
def tw3701668108706566018:=1
def tw15314272881108169993:=1
def tw10394091709957400328:=1
def tw16340378470370941210:=1
def tw3087349655258433522:=1
def tw17008967248640674164:=1
def tw3091911748869616204:=1
def tw867227353273842599:=1
def tw14031727436463421496:=1
def tw13612473876947661452:=1
def tw1180564362724338359:=1
def tw15067625585971064663:=1
def tw10801601782274867084:=1
def tw11359211351702879264:=1
def tw1245674930173474656:=1
def tw16064353631838919959:=1
def tw3168465876714344522:=1
def tw274724796742069335:=1
def tw16203236175894065298:=1
def tw13400695973948781301:=1
def tw7047770478343862125:=1
def tw9048581491702884741:=1
def tw14812615032076250656:=1
def tw10947828278654996673:=1
def tw10570164639120365740:=1
def tw14434689338019351249:=1
def tw17662490763112471559:=1
def tw6845249624106551441:=1
def tw10590957838515621959:=1
def tw4167779228496792434:=1
def tw10636408019226383584:=1
def tw9194337409442794816:=1
def tw6704658222534290678:=1
def tw13869540893181542429:=1
def tw6063576281688558135:=1
def tw10328869681664549240:=1
def tw5504960064151307581:=1
def tw15218736521980520579:=1
def tw16697457634618129382:=1
def tw8256264889178302353:=1
def tw10564875802431805013:=1
def tw930137462930336050:=1
def tw7885848626035362745:=1
def tw836888549724441506:=1
def tw7431935868900574159:=1
def tw13884832639268268028:=1
def tw11867834621250663642:=1
def tw9296106567781294424:=1
def tw9423563599154738123:=1
def tw13694667832731053528:=1
def tw5244613459083727996:=1
def tw676653106687870724:=1
def tw10112706182851107264:=1
def tw2594040079622978397:=1
def tw13377699602790254462:=1
def tw6522990871525156285:=1
def tw6147621848819043084:=1
def tw7232613853289811559:=1
def tw13132739118416991965:=1
def tw18069580558180639151:=1
def tw9204638313769188735:=1
def tw5868146805269228996:=1
def tw9703185838323403839:=1
def tw3083301178784195298:=1
def tw12876782911200771992:=1
def tw5620733503901892104:=1
def tw15085583470691856182:=1
def tw12607030645480148880:=1
def tw14906974780616438926:=1
def tw3452200494352433871:=1
def tw13866941326482855602:=1
def tw1701400133163529815:=1
def tw17828542189955752732:=1
def tw4832582751918052793:=1
def tw4337258432411485444:=1
def tw17959089223338150753:=1
def tw6167121345456534014:=1
def tw393689999929791131:=1
def tw17056184051439931613:=1
def tw5231737697205132484:=1
def tw383844799913331185:=1
def tw14433398789614039051:=1
def tw8819649891526910371:=1
def tw9600846895044846862:=1
def tw113649162459569808:=1
def tw1538544435696734335:=1
def tw5577070249617387524:=1
def tw17137718137453356723:=1
def tw7045754212175189042:=1
def tw8848932912227750547:=1
def tw13231243216966254369:=1
def tw14277439897703118063:=1
def tw5094942858005946147:=1
def tw17745314017759761657:=1
def tw4446139039515767587:=1
def tw11579498374742288267:=1
def tw4401948557765884315:=1
def tw9206571417930146496:=1
def tw8185808158890468266:=1
def tw16328719300410511404:=1
def tw14152069852563400737:=1
def tw12377777185762496355:=1
def tw3208733926520357647:=1
end PySem.W.Fast
set_option maxRecDepth 100000 in
set_option maxHeartbeats 0 in
theorem PySem.Challenge.cw_backhead_k11_whole_one_after_holds : PySem.Challenge.rw_backhead_k11_whole_one_after.Holds := by
 w_on;o_law;k_head;(case hw=>w_witness2)
 k_fill
 refine Py.yp (l:=PySem.Challenge.rw_backhead_k11_whole_one_after) Py.good rfl rfl (fun w h Y=>PySem.W.kIn_of Y) ?F
 case F =>
  intro w mg fa h KX G hmg
  apply Py.zkU KX G hmg
  all_goals first|(refine' ⟨_,L2.zeC ?l ?c ?k⟩;(case l=>k_is);(case c=>k_is);(case k=>k_is))|k_is
